/-
  Bytes that came in, appended to a row of the call's own; pieces of such a row. Conditions: at most a million bytes together.
-/
import Derived.Test.YtgpjphecgcfikaaCancel
namespace Go.Proofs.Ytgpjphecgcfikaa
open Go.RowKit

/-- A slice of bytes that came in: nil, or one that reads as the bytes raw. -/
def RawArg (w : World) (u : Value) (raw : List Int) : Prop :=
  (∀ z ∈ raw, 0 ≤ z ∧ z ≤ 255) ∧ ((u = .slice none 0 0 ∧ raw = []) ∨ ∃ x c, u = .slice (some x) raw.length c ∧ ∀ (j : Nat) (z : Int), raw[j]? = some z → w.cell? (x.add j) = some (.int .u8 z))
theorem RawArg.form {w : World} {u : Value} {raw : List Int} (h : RawArg w u raw) : ∃ D c, u = .slice D raw.length c := by
  rcases h.2 with ⟨rfl, rfl⟩ | ⟨x, c, rfl, _⟩
  · exact ⟨none, 0, rfl⟩
  · exact ⟨_, _, rfl⟩
theorem RawArg.below {w w' : World} {B : Nat} {u : Value} {raw : List Int} (h : RawArg w u raw) (hb : Below B w w') (hB : w.heap.size ≤ B) : RawArg w' u raw := by
  refine ⟨h.1, ?_⟩
  rcases h.2 with h2 | ⟨x, c, rfl, h2⟩
  · exact .inl h2
  · refine .inr ⟨x, c, rfl, fun j z hz => ?_⟩
    have := h2 j z hz
    exact (hb.cell (p := x.add j) (Nat.lt_of_lt_of_le (World.block_lt_of_cell? w _ this) hB)).trans this

theorem run_append_raw {w : World} {ty : TypeId} {B : Nat} {v u : Value} {bs raw : List Int} (hv : Bytes w B v bs) (hu : RawArg w u raw) (hn : bs.length + raw.length ≤ 1000000) (hb : B ≤ w.heap.size) :
    ∃ v' w', (Builtin.append_ #[36, 36] ty #[v, u]).run Try.prog w = .ok v' w' ∧ Bytes w' B v' (bs ++ raw) ∧ Below B w w' := by
  obtain ⟨ht, i, z, hi, hz, hs, hby, hzs, hpos⟩ := rowByte
  rcases hu.2 with ⟨rfl, rfl⟩ | ⟨x, c, rfl, h2⟩
  · exact ⟨v, w, run_append_owned_none w B 36 ty 5 i 1 ht hi v bs.length (u8s bs) hv, by simpa using hv, Below.refl _ _⟩
  · have hbb : (bs.length + raw.length) * i.bytes ≤ 140737488355328 := Nat.le_trans (Nat.mul_le_mul hn hby) (by decide)
    obtain ⟨v', w', hr, ho, hg, _, hl⟩ := run_append_own_at (P := Try.prog) w B 36 ty 5 i z 1 i.bytes ht hi hz hs rfl hzs (by omega) v bs.length (u8s bs) hv x raw.length c (u8s raw) (by simp [u8s]) (by
      intro j y hy
      simp only [u8s, List.getElem?_map, Option.map_eq_some_iff] at hy
      obtain ⟨z', hz', rfl⟩ := hy
      exact h2 j z' hz') (u8s_one raw) (by simp only [maxLen]; omega) hbb hb
    refine ⟨v', w', hr, ?_, (Below.refl _ _).grown hg hb fun k hk => (World.ownsRow.lt hv k hk).1⟩
    unfold Bytes
    rw [List.length_append, show u8s (bs ++ raw) = u8s bs ++ u8s raw by simp [u8s]]
    exact ho
theorem wpList_append_raw (w : World) {ops : Array Oper} {rest : List Oper} {o : Oper} {a : Act} {Q : Exit → Act → World → Prop} (hgd : o.guard = none) (s x : Operand)
    (ho : o.op = .call { callee := .builtin .append, args := #[s, x], argTypes := #[36, 36] }) (B : Nat) (v u : Value) (bs raw : List Int) (hs : a.eval s = v) (hx : a.eval x = u)
    (hv : Bytes w B v bs) (hu : RawArg w u raw) (hn : bs.length + raw.length ≤ 1000000) (hb : B ≤ w.heap.size)
    (h : ∀ v' w', Bytes w' B v' (bs ++ raw) → Below B w w' → wpList Try.prog ops Q rest (a.put o.dst v') w') : wpList Try.prog ops Q (o :: rest) a w := by
  refine wpList_plain hgd fun K hK => ?_
  obtain ⟨v', w', hr, h2, h3⟩ := run_append_raw (ty := o.type) hv hu hn hb
  unfold Oper.wp execOp
  simp only [ho, resolve, invoke, builtin, Sem.run_bind, Sem.run_pure, Result.andThen_ok, List.map_toArray, List.map_cons, List.map_nil, hs, hx, hr]
  exact hK _ _ (h v' w' h2 h3)

/-- A piece of a row of bytes. -/
theorem piece_read {w : World} {B g cap : Nat} {ts : List Int} (h : Bytes w B (.slice (some ⟨g, 0, none⟩) ts.length cap) ts) (hok : ∀ z ∈ ts, 0 ≤ z ∧ z ≤ 255) (lo n c : Nat) (hn : lo + n ≤ ts.length) :
    ReadB w (.slice (some ⟨g, lo, none⟩) n c) ((ts.drop lo).take n) := by
  have hl : ((ts.drop lo).take n).length = n := by rw [List.length_take, List.length_drop]; omega
  refine ⟨_, _, by rw [hl], fun k hk => ?_⟩
  rw [hl] at hk
  have hk2 : lo + k < ts.length := by omega
  have hg : g < w.heap.size := (World.ownsRow.lt h g rfl).2
  refine ⟨g, lo, ts[lo + k], rfl, hg, ?_, ?_, hok _ (List.getElem_mem hk2)⟩
  · rw [List.getElem?_take_of_lt hk, List.getElem?_drop, List.getElem?_eq_getElem hk2]
  · exact (World.ownsRow.cellAt h (lo + k) (by omega)).trans (by simp [u8s, hk2])
end Go.Proofs.Ytgpjphecgcfikaa
