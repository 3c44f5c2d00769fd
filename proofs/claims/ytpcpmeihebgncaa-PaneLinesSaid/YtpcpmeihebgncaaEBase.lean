/-
  What a row of this call's own memory is when another such row is appended to it; and plain facts on rows that every walk of this seat uses. Conditions: rows of at most a million elements together, each of at most forty bytes.
-/
import Derived.WalkKit
import Derived.WalkSpells
import Derived.WalkLawsBesides
import Derived.Deep.AppendLies
import Derived.Lib.Hide
import Derived.Laws.Cover4
import Derived.Laws.BytesString
namespace Go.Proofs.Ytpcpmeihebgncaa.Esca
open Go.RowKit
set_option maxRecDepth 100000

/-- A slice type of elements that take sz cells and at most forty bytes. -/
def RowT (P : Program) (t e : TypeId) (sz : Nat) : Prop :=
  P.underlying t = some (.slice e) ∧ ∃ (i : TypeInfo) (z : Value), P.info? e = some i ∧ i.zero = some z ∧ i.size = sz ∧ i.bytes ≤ 40 ∧ z.cells.size = sz ∧ 0 < sz

theorem rowT_mk {P : Program} {t e : TypeId} {z : Value} {b sz : Nat} (hu : P.underlying t = some (.slice e))
    (hi : (P.info? e).map (fun i => (i.zero, i.size, i.bytes)) = some (some z, sz, b)) (hb : b ≤ 40) (hz : z.cells.size = sz) (h0 : 0 < sz) : RowT P t e sz := by
  cases hh : P.info? e with
  | none => simp [hh] at hi
  | some i =>
    simp only [hh, Option.map_some, Option.some.injEq, Prod.mk.injEq] at hi
    exact ⟨hu, i, z, hh, hi.1, hi.2.1, by omega, hz, h0⟩

/-- What an append leaves: the new value's row, all other blocks as they were, and where the row lies. -/
structure Appended (w w' : World) (base : Nat) (e : TypeId) (sz : Nat) (v v' : Value) (n : Nat) (xs : List Value) : Prop where
  own : w'.ownsRow base e sz v' n xs
  grown : w.grownBy w' v.ownBlock
  lies : v'.ownBlock = v.ownBlock ∨ v'.ownBlock = some w.heap.size

theorem Appended.below {w w' : World} {base : Nat} {e : TypeId} {v v' : Value} {sz n n0 : Nat} {xs xs0 : List Value} (h : Appended w w' base e sz v v' n xs) (hv : w.ownsRow base e sz v n0 xs0) (hb : base ≤ w.heap.size) : Below base w w' :=
  (Below.refl _ _).grown h.grown hb fun k hk => (hv.lt k hk).1

section
variable {P : Program} {sz : Nat} (w : World)

theorem run_append_rows {t ty e : TypeId} {base base2 n m : Nat} {v u : Value} {xs ys : List Value} (hT : RowT P t e sz)
    (hv : w.ownsRow base e sz v n xs) (hu : w.ownsRow base2 e sz u m ys) (h1 : ∀ y ∈ ys, y.oneCell' = true) (hn : n + m ≤ 1000000) (hb : base ≤ w.heap.size) :
    ∃ v' w', (Builtin.append_ #[t, t] ty #[v, u]).run P w = .ok v' w' ∧ Appended w w' base e sz v v' (n + m) (xs ++ ys) := by
  obtain ⟨ht, i, z, hi, hz, hs, hby, hzs, hpos⟩ := hT
  rcases hu.2 with ⟨rfl, rfl⟩ | ⟨g, cap, cur, rfl, _⟩
  · have hy : ys = [] := List.eq_nil_of_length_eq_zero (by simpa using hu.1)
    subst hy
    exact ⟨v, w, run_append_owned_none w base t ty e i sz ht hi v n xs hv, by simpa using hv, ⟨rfl, rfl, rfl, Nat.le_refl _, fun _ _ _ => rfl⟩, .inl rfl⟩
  · have hbb : (n + m) * i.bytes ≤ 140737488355328 := Nat.le_trans (Nat.mul_le_mul hn hby) (by decide)
    obtain ⟨v', w', hr, ho, hg, _, hl⟩ := run_append_own_at (P := P) w base t ty e i z sz i.bytes ht hi hz hs rfl hzs hpos v n xs hv ⟨g, 0, none⟩ m cap ys hu.1
      (hu.cells rfl) h1 (by simp only [maxLen]; omega) hbb hb
    exact ⟨v', w', hr, ho, hg, hl⟩

theorem wp_append_rows {o : Oper} {a : Act} {K : Act → World → Prop} {Q : Exit → Act → World → Prop} (s x : Operand) (t : TypeId)
    (ho : o.op = .call { callee := .builtin .append, args := #[s, x], argTypes := #[t, t] }) {e : TypeId} (hT : RowT P t e sz)
    (base base2 n m : Nat) (v u : Value) (xs ys : List Value) (hs : a.eval s = v) (hx : a.eval x = u)
    (hv : w.ownsRow base e sz v n xs) (hu : w.ownsRow base2 e sz u m ys) (h1 : ∀ y ∈ ys, y.oneCell' = true) (hn : n + m ≤ 1000000) (hb : base ≤ w.heap.size)
    (h : ∀ v' w', Appended w w' base e sz v v' (n + m) (xs ++ ys) → K (a.put o.dst v') w') : o.wp P a w K Q := by
  obtain ⟨v', w', hr, h2⟩ := run_append_rows (P := P) (ty := o.type) w hT hv hu h1 hn hb
  unfold Oper.wp execOp
  simp only [ho, resolve, invoke, builtin, Sem.run_bind, Sem.run_pure, Result.andThen_ok, List.map_toArray, List.map_cons, List.map_nil, hs, hx, hr]
  exact h v' w' h2

theorem wpList_append_rows {ops : Array Oper} {rest : List Oper} {o : Oper} {a : Act} {Q : Exit → Act → World → Prop} (hgd : o.guard = none) (s x : Operand) (t : TypeId)
    (ho : o.op = .call { callee := .builtin .append, args := #[s, x], argTypes := #[t, t] }) {e : TypeId} (hT : RowT P t e sz)
    (base base2 n m : Nat) (v u : Value) (xs ys : List Value) (hs : a.eval s = v) (hx : a.eval x = u)
    (hv : w.ownsRow base e sz v n xs) (hu : w.ownsRow base2 e sz u m ys) (h1 : ∀ y ∈ ys, y.oneCell' = true) (hn : n + m ≤ 1000000) (hb : base ≤ w.heap.size)
    (h : ∀ v' w', Appended w w' base e sz v v' (n + m) (xs ++ ys) → wpList P ops Q rest (a.put o.dst v') w') : wpList P ops Q (o :: rest) a w :=
  wpList_plain hgd fun _ hK => wp_append_rows w s x t ho hT base base2 n m v u xs ys hs hx hv hu h1 hn hb fun v' w' h2 => hK _ _ (h v' w' h2)

theorem step_append_rows {ops : Array Oper} {o : Oper} {a : Act} {K : Act → World → Prop} {Q : Exit → Act → World → Prop} {E : Prop} (hgd : o.guard = none) (s x : Operand) (t : TypeId)
    (ho : o.op = .call { callee := .builtin .append, args := #[s, x], argTypes := #[t, t] }) {e : TypeId} (hT : RowT P t e sz)
    (base base2 n m : Nat) (v u : Value) (xs ys : List Value) (hs : a.eval s = v) (hx : a.eval x = u)
    (hv : w.ownsRow base e sz v n xs) (hu : w.ownsRow base2 e sz u m ys) (h1 : ∀ y ∈ ys, y.oneCell' = true) (hn : n + m ≤ 1000000) (hb : base ≤ w.heap.size)
    (h : ∀ v' w', Appended w w' base e sz v v' (n + m) (xs ++ ys) → K (a.put o.dst v') w') :
    if Region.wanted o (yielded ops a.tmps) = true then Oper.wp P o a w K Q else E := by
  rw [if_pos (by simp [Region.wanted, hgd])]
  exact wp_append_rows w s x t ho hT base base2 n m v u xs ys hs hx hv hu h1 hn hb h
end

/-- The runes of a row, as values. -/
def i32s (rs : List Int) : List Value := rs.map (Value.int .i32)
theorem i32s_one (rs : List Int) : ∀ y ∈ i32s rs, y.oneCell' = true := by
  intro y hy
  simp only [i32s, List.mem_map] at hy
  obtain ⟨r, _, rfl⟩ := hy
  rfl
theorem i32s_app (a b : List Int) : i32s a ++ i32s b = i32s (a ++ b) := by simp [i32s]
theorem i32s_len (a : List Int) : (i32s a).length = a.length := by simp [i32s]

/-- A slice value v whose elements are the runes rs, in memory at or above block B. -/
def Runes (w : World) (B : Nat) (v : Value) (rs : List Int) : Prop := w.ownsRow B 21 1 v rs.length (i32s rs)

theorem own_below {w w' : World} {B C : Nat} {e : TypeId} {v : Value} {sz n : Nat} {xs : List Value} (h : w.ownsRow B e sz v n xs) (hb : Below C w w') (hC : w.heap.size ≤ C) : w'.ownsRow B e sz v n xs := by
  refine ⟨h.1, ?_⟩
  rcases h.2 with hn | ⟨g, cap, cur, rfl, hg, hh, rest⟩
  · exact .inl hn
  · refine .inr ⟨g, cap, cur, rfl, hg, ?_, rest⟩
    rw [hb.block g (Nat.lt_of_lt_of_le (Array.getElem?_eq_some_iff.1 hh).1 hC)]
    exact hh
theorem own_base {w : World} {B C : Nat} {e : TypeId} {v : Value} {sz n : Nat} {xs : List Value} (h : w.ownsRow B e sz v n xs) (hC : C ≤ B) : w.ownsRow C e sz v n xs := by
  refine ⟨h.1, ?_⟩
  rcases h.2 with hn | ⟨g, cap, cur, rfl, hg, rest⟩
  · exact .inl hn
  · exact .inr ⟨g, cap, cur, rfl, Nat.le_trans hC hg, rest⟩
theorem own_set {w : World} {B : Nat} {e : TypeId} {v : Value} {sz n : Nat} {xs : List Value} (h : w.ownsRow B e sz v n xs) {p : Addr} (hp : v.ownBlock ≠ some p.block) (u : Value) : (w.setCell p u).ownsRow B e sz v n xs := by
  refine ⟨h.1, ?_⟩
  rcases h.2 with hn | ⟨g, cap, cur, rfl, hg, hh, rest⟩
  · exact .inl hn
  · refine .inr ⟨g, cap, cur, rfl, hg, ?_, rest⟩
    rw [Below.heap_setCell w p u g (fun e => hp (by simp [Value.ownBlock, e]))]
    exact hh

theorem bcell {B : Nat} {w w' : World} (hb : Below B w w') : (∀ b o, b < B → w'.cell? ⟨b, o, none⟩ = w.cell? ⟨b, o, none⟩) ∧ (∀ b o, b < B → w'.frozen? ⟨b, o, none⟩ = w.frozen? ⟨b, o, none⟩) :=
  ⟨fun b o h => hb.cell (p := ⟨b, o, none⟩) h, fun b o h => hb.frozen (p := ⟨b, o, none⟩) h⟩

end Go.Proofs.Ytpcpmeihebgncaa.Esca
