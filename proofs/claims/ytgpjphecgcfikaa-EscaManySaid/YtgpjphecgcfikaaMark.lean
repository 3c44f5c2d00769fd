/-
  A byte appended to the bytes of a string: behind '[]byte(s)' the row bears a mark behind its last cell, and goes on there, or in a new row. Conditions: at most a million bytes.
-/
import Derived.Test.YtgpjphecgcfikaaCanc
import Derived.Test.YtgpjphecgcfikaaCancel
import Derived.ArgAppend
namespace Go.Proofs.Ytgpjphecgcfikaa
open Go.RowKit

structure MarkRow (w : World) (g : Nat) (b : ByteArray) (cap : Nat) : Prop where
  row : w.heap[g]? = some (.cells (bytesRow b cap) 5 (cap, cap + 1))
  le : b.size ≤ cap
theorem MarkRow.alloc {w : World} {g : Nat} {b : ByteArray} {cap : Nat} (h : MarkRow w g b cap) (o : Obj) : MarkRow (w.alloc o) g b cap :=
  ⟨(Below.heap_alloc w o g (Array.getElem?_eq_some_iff.1 h.row).1).trans h.row, h.le⟩
theorem bytesRow_size (b : ByteArray) (cap : Nat) (h : b.size ≤ cap) : (bytesRow b cap).size = cap := by
  have : b.data.size = b.size := rfl
  simp [bytesRow]
  omega
theorem conv_mark (w : World) (b : ByteArray) : ∃ cap w', (convert 9 36 (.string b)).run Try.prog w = .ok (.slice (some ⟨w.heap.size, 0, none⟩) b.size cap) w' ∧ MarkRow w' w.heap.size b cap ∧ Below w.heap.size w w' ∧ w'.heap.size = w.heap.size + 1 := by
  refine ⟨grownCap w b.size 0 5, _, run_bytes_of_string w 9 36 5 b Try.underlying9 Try.underlying36 Try.underlying5, ⟨?_, grownCap_ge w b.size 0 5⟩, (Below.refl _ w).drew.alloc (Nat.le_refl _) _, by simp⟩
  have := heap_alloc_new w.drew (.cells (bytesRow b (grownCap w b.size 0 5)) 5 ((bytesRow b (grownCap w b.size 0 5)).size, (bytesRow b (grownCap w b.size 0 5)).size + 1))
  rw [bytesRow_size b _ (grownCap_ge w b.size 0 5)] at this ⊢
  exact this

theorem run_append_mark {w : World} {ty : TypeId} {g h cap : Nat} {b : ByteArray} {z : Int} (hm : MarkRow w g b cap) (hz : w.cell? ⟨h, 0, none⟩ = some (.int .u8 z)) (hz0 : 0 ≤ z) (hz1 : z ≤ 255) (hn : b.size ≤ 100000) {B : Nat} (hB : B ≤ g) :
    ∃ v' w', (Builtin.append_ #[36, 36] ty #[.slice (some ⟨g, 0, none⟩) b.size cap, .slice (some ⟨h, 0, none⟩) 1 1]).run Try.prog w = .ok v' w' ∧ ReadB w' v' (bytesOf b ++ [z]) ∧ Below B w w' := by
  obtain ⟨ht, i, zz, hi, hzz, hs, hby, hzs, hpos⟩ := rowByte
  have hg : g < w.heap.size := (Array.getElem?_eq_some_iff.1 hm.row).1
  have hcell : ∀ k, w.cell? ⟨g, k, none⟩ = (bytesRow b cap)[k]? := fun k => cell_of_row w g k _ 5 _ hm.row
  have hnews : ∀ (j : Nat) (u : Value), [Value.int .u8 z][j]? = some u → w.cell? ((⟨h, 0, none⟩ : Addr).add j) = some u := by
    intro j u hu
    cases j with
    | zero => simp only [List.getElem?_cons_zero, Option.some.injEq] at hu; subst hu; simpa [Addr.add] using hz
    | succ j => simp at hu
  by_cases hroom : b.size + 1 ≤ cap
  · have hr := run_append_room_cells (P := Try.prog) w 36 ty 5 i ht hi g 0 b.size cap ⟨h, 0, none⟩ 1 1 [.int .u8 z] (by rw [hs]; rfl) hnews (by intro u hu; simp only [List.mem_singleton] at hu; subst hu; rfl) hroom
      (by
        intro j hj
        have hj0 : j = 0 := by simpa using hj
        subst hj0
        rw [hs, hcell]
        have : 0 + b.size * 1 + 0 < (bytesRow b cap).size := by rw [bytesRow_size b cap hm.le]; omega
        rw [Array.getElem?_eq_getElem this]
        rfl)
      (by
        intro j hj
        have hj0 : j = 0 := by simpa using hj
        subst hj0
        rw [hs]
        simp [World.frozen?, hm.row]
        omega)
    refine ⟨_, _, hr, ?_, ?_⟩
    · rw [hs]
      have e1 : (w.setCells g (0 + b.size * 1) [Value.int .u8 z]) = w.setCell ⟨g, b.size, none⟩ (.int .u8 z) := by
        simp [World.setCells]
      rw [e1]
      refine ⟨some ⟨g, 0, none⟩, cap, by rw [List.length_append, bytesOf_len]; rfl, fun k hk => ?_⟩
      have hk' : k < b.size + 1 := by simpa [bytesOf_len] using hk
      by_cases hkb : k < b.size
      · have hk2 : k < (bytesOf b).length := by rw [bytesOf_len]; exact hkb
        have hb := bytesRow_at b cap k (bytesOf b)[k] (by simp [hk2])
        refine ⟨g, 0, (bytesOf b)[k], rfl, by simpa using hg, ?_, ?_, hb.2⟩
        · rw [List.getElem?_append_left hk2]; simp [hk2]
        · rw [Nat.zero_add, World.cell?_setCell_other _ _ _ _ (by intro he; injection he with _ h2; omega), hcell]
          exact hb.1
      · have hke : k = b.size := by omega
        subst hke
        refine ⟨g, 0, z, rfl, by simpa using hg, ?_, ?_, hz0, hz1⟩
        · rw [List.getElem?_append_right (by rw [bytesOf_len]; exact Nat.le_refl _), bytesOf_len]; simp
        · rw [Nat.zero_add]
          have : b.size < (bytesRow b cap).size := by rw [bytesRow_size b cap hm.le]; omega
          exact World.cell?_setCell_same _ _ _ (u := (bytesRow b cap)[b.size]) ((hcell _).trans (Array.getElem?_eq_getElem this))
    · rw [hs]
      have e1 : (w.setCells g (0 + b.size * 1) [Value.int .u8 z]) = w.setCell ⟨g, b.size, none⟩ (.int .u8 z) := by
        simp [World.setCells]
      rw [e1]
      exact below_set (Below.refl _ _) hB _
  · have hbb : (b.size + 1) * i.bytes ≤ 140737488355328 := Nat.le_trans (Nat.mul_le_mul (Nat.le_refl _) hby) (by omega)
    obtain ⟨v', w', hr, ho, hgr⟩ := run_append_arg_grows (P := Try.prog) w 36 ty 5 i zz 1 i.bytes ht hi hzz hs rfl hzs (by omega) ⟨g, 0, none⟩ b.size cap (u8s (bytesOf b)) (by simp [u8s, bytesOf_len]) (by
        intro j u hu
        simp only [u8s, List.getElem?_map, Option.map_eq_some_iff] at hu
        obtain ⟨z', hz', rfl⟩ := hu
        have hb := bytesRow_at b cap j z' hz'
        have : (⟨g, 0, none⟩ : Addr).add j = ⟨g, j, none⟩ := by unfold Addr.add; split <;> simp_all
        rw [this, hcell]
        exact hb.1) ⟨h, 0, none⟩ 1 1 [.int .u8 z] (by rfl) hnews (by omega) (by simp only [maxLen]; omega) hbb
    refine ⟨v', w', hr, ?_, ⟨hgr.os, hgr.tape, hgr.output, hgr.size, fun k hk => hgr.block k (by omega) (by simp)⟩⟩
    have hb : Bytes w' w.heap.size v' (bytesOf b ++ [z]) := by
      unfold Bytes
      rw [List.length_append, bytesOf_len, show u8s (bytesOf b ++ [z]) = u8s (bytesOf b) ++ [.int .u8 z] by simp [u8s]]
      exact ho
    exact hb.read (by
      intro y hy
      rcases List.mem_append.1 hy with h1 | h1
      · exact bytesOf_ok b y h1
      · simp only [List.mem_singleton] at h1
        subst h1
        exact ⟨hz0, hz1⟩)
theorem wpList_append_mark (w : World) {ops : Array Oper} {rest : List Oper} {o : Oper} {a : Act} {Q : Exit → Act → World → Prop} (hgd : o.guard = none) (s x : Operand)
    (ho : o.op = .call { callee := .builtin .append, args := #[s, x], argTypes := #[36, 36] }) {g h cap : Nat} {b : ByteArray} {z : Int} (hs : a.eval s = .slice (some ⟨g, 0, none⟩) b.size cap) (hx : a.eval x = .slice (some ⟨h, 0, none⟩) 1 1)
    (hm : MarkRow w g b cap) (hz : w.cell? ⟨h, 0, none⟩ = some (.int .u8 z)) (hz0 : 0 ≤ z) (hz1 : z ≤ 255) (hn : b.size ≤ 100000) {B : Nat} (hB : B ≤ g)
    (k : ∀ v' w', ReadB w' v' (bytesOf b ++ [z]) → Below B w w' → wpList Try.prog ops Q rest (a.put o.dst v') w') : wpList Try.prog ops Q (o :: rest) a w := by
  refine wpList_plain hgd fun K hK => ?_
  obtain ⟨v', w', hr, h2, h3⟩ := run_append_mark (ty := o.type) hm hz hz0 hz1 hn hB
  unfold Oper.wp execOp
  simp only [ho, resolve, invoke, builtin, Sem.run_bind, Sem.run_pure, Result.andThen_ok, List.map_toArray, List.map_cons, List.map_nil, hs, hx, hr]
  exact hK _ _ (k v' w' h2 h3)
end Go.Proofs.Ytgpjphecgcfikaa
