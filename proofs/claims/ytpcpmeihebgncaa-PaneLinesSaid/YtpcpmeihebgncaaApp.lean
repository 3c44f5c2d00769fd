/-
  What append leaves of a row of the call's own and whatever slice that reads as values; what make leaves of a table of rows. Conditions: at most a million elements together.
-/
import Derived.Test.YtpcpmeihebgncaaLines
import Derived.Deep.AppendLies
import Derived.Lib.AppendZeros
import Derived.Laws.OwnMore
namespace Go.Proofs.Ytpcpmeihebgncaa
open Go.RowKit
set_option maxRecDepth 100000

/-- A slice type of elements that take sz cells and at most forty bytes. -/
def RowT (P : Program) (t e : TypeId) (sz : Nat) : Prop :=
  P.underlying t = some (.slice e) ∧ ∃ (i : TypeInfo) (z : Value), P.info? e = some i ∧ i.zero = some z ∧ i.size = sz ∧ i.bytes ≤ 40 ∧ z.cells.size = sz ∧ 0 < sz
theorem rowT_mk {P : Program} {t e : TypeId} {z : Value} {b sz : Nat} (hu : P.underlying t = some (.slice e))
    (hi : (P.info? e).map (fun i => (i.zero, i.size, i.bytes)) = some (some z, sz, b)) (hb : b ≤ 40) (hz : z.cells.size = sz) (h0 : 0 < sz) : RowT P t e sz := by
  cases hh : P.info? e with
  | none => simp [hh] at hi
  | some i =>
    simp only [hh, Option.map_some, Option.some.injEq, Prod.mk.injEq] at hi
    exact ⟨hu, i, z, hh, hi.1, hi.2.1, by omega, hz, h0⟩

/-- A slice that begins at D has the cells vs, in memory's own cells. -/
def Src (w : World) (D : Option Addr) (vs : List Value) : Prop := (D = none → vs = []) ∧ ∀ a, D = some a → ∀ j u, vs[j]? = some u → w.cell? (a.add j) = some u
theorem TabAt.src {B : Nat} {w : World} {D : Option Addr} {vs : List Value} (h : TabAt B w D vs) : Src w D vs := by
  refine ⟨?_, ?_⟩
  · rintro rfl
    cases vs with
    | nil => rfl
    | cons v vs => obtain ⟨b, off, e, _⟩ := h 0 (by simp); cases e
  · rintro a rfl j u hj
    have hk := (List.getElem?_eq_some_iff.1 hj).1
    obtain ⟨b, off, e, _, _, _, h2⟩ := h j hk
    cases e
    rw [Addr.add_lit, h2, ← hj, List.getElem?_eq_getElem hk]
theorem RowAt.src {B : Nat} {w : World} {D : Option Addr} {l : List C} (h : RowAt B w D l) : Src w D (cvs l) := by
  refine ⟨?_, ?_⟩
  · rintro rfl
    cases l with
    | nil => rfl
    | cons v vs => obtain ⟨b, off, e, _⟩ := h 0 (by simp); cases e
  · rintro a rfl j u hj
    have hk := (List.getElem?_eq_some_iff.1 hj).1
    rw [cvs_len] at hk
    obtain ⟨ad, e, hc⟩ := read_flat h.read (by omega)
    cases e
    exact hc j u hj

/-- What an append leaves: the new value's row, and all else as it was. -/
structure Appended (w w' : World) (base : Nat) (e : TypeId) (sz : Nat) (v' : Value) (n : Nat) (xs : List Value) : Prop where
  own : w'.ownsRow base e sz v' n xs
  below : Below base w w'
  held : ∀ g t cs, t ≠ e → Held w g t cs → Held w' g t cs

section
variable {P : Program} {sz : Nat} (w : World)
theorem run_append_src {t ty e : TypeId} {base n m c : Nat} {v : Value} {D : Option Addr} {xs ys : List Value} (hT : RowT P t e sz)
    (hv : w.ownsRow base e sz v n xs) (hu : Src w D ys) (hm : ys.length = m * sz) (h1 : ∀ y ∈ ys, y.oneCell' = true) (hn : n + m ≤ 1000000) (hb : base ≤ w.heap.size) :
    ∃ v' w', (Builtin.append_ #[t, t] ty #[v, .slice D m c]).run P w = .ok v' w' ∧ Appended w w' base e sz v' (n + m) (xs ++ ys) := by
  obtain ⟨ht, i, z, hi, hz, hs, hby, hzs, hpos⟩ := hT
  cases D with
  | none =>
    obtain rfl := hu.1 rfl
    obtain rfl : m = 0 := by
      rcases Nat.eq_zero_or_pos m with h | h
      · exact h
      · have := Nat.mul_pos h hpos
        simp at hm
        omega
    refine ⟨v, w, ?_, by simpa using hv, Below.refl _ _, fun _ _ _ _ h => h⟩
    rcases hv.2 with ⟨rfl, rfl⟩ | ⟨g, cap, cur, rfl, _, _, hnc, _⟩
    · simp [Builtin.append_, run_underlying ht, sizeOf, typeInfo, hi, Builtin.lenOf, Builtin.firstCells]
    · simp [Builtin.append_, run_underlying ht, sizeOf, typeInfo, hi, Builtin.lenOf, Builtin.firstCells, hnc, storeCells]
  | some a =>
    have hbb : (n + m) * i.bytes ≤ 140737488355328 := Nat.le_trans (Nat.mul_le_mul hn hby) (by decide)
    obtain ⟨v', w', hr, ho, hg, _, _⟩ := run_append_own_at (P := P) w base t ty e i z sz i.bytes ht hi hz hs rfl hzs hpos v n xs hv a m c ys hm (hu.2 a rfl) h1 (by simp only [maxLen]; omega) hbb hb
    refine ⟨v', w', hr, ho, (Below.refl _ _).grown hg hb fun k hk => (hv.lt k hk).1, fun q t2 cs hne hq => ?_⟩
    refine (hg.block q hq.lt ?_).trans hq
    intro e1
    rcases hv.2 with ⟨rfl, _⟩ | ⟨g, cap, cur, rfl, _, hh, _⟩
    · cases e1
    · simp only [Value.ownBlock, Option.some.injEq] at e1
      subst e1
      unfold Held at hq
      rw [hh] at hq
      injection hq with hq
      injection hq with _ hq
      exact hne hq.symm

theorem wp_append_src {o : Oper} {a : Act} {K : Act → World → Prop} {Q : Exit → Act → World → Prop} (s x : Operand) (t : TypeId)
    (ho : o.op = .call { callee := .builtin .append, args := #[s, x], argTypes := #[t, t] }) {e : TypeId} (hT : RowT P t e sz)
    (base n m c : Nat) (v : Value) (D : Option Addr) (xs ys : List Value) (hs : a.eval s = v) (hx : a.eval x = .slice D m c)
    (hv : w.ownsRow base e sz v n xs) (hu : Src w D ys) (hm : ys.length = m * sz) (h1 : ∀ y ∈ ys, y.oneCell' = true) (hn : n + m ≤ 1000000) (hb : base ≤ w.heap.size)
    (h : ∀ v' w', Appended w w' base e sz v' (n + m) (xs ++ ys) → K (a.put o.dst v') w') : o.wp P a w K Q := by
  obtain ⟨v', w', hr, h2⟩ := run_append_src (P := P) (ty := o.type) (c := c) w hT hv hu hm h1 hn hb
  unfold Oper.wp execOp
  simp only [ho, resolve, invoke, builtin, Sem.run_bind, Sem.run_pure, Result.andThen_ok, List.map_toArray, List.map_cons, List.map_nil, hs, hx, hr]
  exact h v' w' h2
theorem wpList_append_src {ops : Array Oper} {rest : List Oper} {o : Oper} {a : Act} {Q : Exit → Act → World → Prop} (hgd : o.guard = none) (s x : Operand) (t : TypeId)
    (ho : o.op = .call { callee := .builtin .append, args := #[s, x], argTypes := #[t, t] }) {e : TypeId} (hT : RowT P t e sz)
    (base n m c : Nat) (v : Value) (D : Option Addr) (xs ys : List Value) (hs : a.eval s = v) (hx : a.eval x = .slice D m c)
    (hv : w.ownsRow base e sz v n xs) (hu : Src w D ys) (hm : ys.length = m * sz) (h1 : ∀ y ∈ ys, y.oneCell' = true) (hn : n + m ≤ 1000000) (hb : base ≤ w.heap.size)
    (h : ∀ v' w', Appended w w' base e sz v' (n + m) (xs ++ ys) → wpList P ops Q rest (a.put o.dst v') w') : wpList P ops Q (o :: rest) a w :=
  wpList_plain hgd fun _ hK => wp_append_src w s x t ho hT base n m c v D xs ys hs hx hv hu hm h1 hn hb fun v' w' h2 => hK _ _ (h v' w' h2)
theorem step_append_src {ops : Array Oper} {o : Oper} {a : Act} {K : Act → World → Prop} {Q : Exit → Act → World → Prop} {E : Prop} (hgd : o.guard = none) (s x : Operand) (t : TypeId)
    (ho : o.op = .call { callee := .builtin .append, args := #[s, x], argTypes := #[t, t] }) {e : TypeId} (hT : RowT P t e sz)
    (base n m c : Nat) (v : Value) (D : Option Addr) (xs ys : List Value) (hs : a.eval s = v) (hx : a.eval x = .slice D m c)
    (hv : w.ownsRow base e sz v n xs) (hu : Src w D ys) (hm : ys.length = m * sz) (h1 : ∀ y ∈ ys, y.oneCell' = true) (hn : n + m ≤ 1000000) (hb : base ≤ w.heap.size)
    (h : ∀ v' w', Appended w w' base e sz v' (n + m) (xs ++ ys) → K (a.put o.dst v') w') :
    if Region.wanted o (yielded ops a.tmps) = true then Oper.wp P o a w K Q else E := by
  rw [if_pos (by simp [Region.wanted, hgd])]
  exact wp_append_src w s x t ho hT base n m c v D xs ys hs hx hv hu hm h1 hn hb h
end

theorem rowC : RowT Try.prog 46 48 2 := rowT_mk Try.underlying46 cell_info (by decide) rfl (by decide)
theorem line_info : (Try.prog.info? 46).map (fun i => (i.zero, i.size, i.bytes)) = some (some (.slice none 0 0), 1, 24) := by kernel_rfl
theorem rowL : RowT Try.prog 33 46 1 := rowT_mk Try.underlying33 line_info (by decide) rfl (by decide)

/-- A row that was just laid is the call's own. -/
theorem own_new (w : World) (e : TypeId) (sz n : Nat) (xs : List Value) (hl : xs.length = n * sz) (hn : n ≤ 1000000) : (w.alloc (.cells xs.toArray e)).ownsRow w.heap.size e sz (.slice (some ⟨w.heap.size, 0, none⟩) n n) n xs :=
  ⟨hl, .inr ⟨w.heap.size, n, xs.toArray, rfl, Nat.le_refl _, heap_alloc_new w _, Nat.le_refl _, by unfold maxLen; omega, by simpa using hl, by rw [← hl]; simp⟩⟩

theorem own_below {w w' : World} {B C : Nat} {e : TypeId} {v : Value} {sz n : Nat} {xs : List Value} (h : w.ownsRow B e sz v n xs) (hb : Below C w w') (hC : w.heap.size ≤ C) : w'.ownsRow B e sz v n xs := by
  refine ⟨h.1, ?_⟩
  rcases h.2 with hn | ⟨g, cap, cur, rfl, hg, hh, rest⟩
  · exact .inl hn
  · refine .inr ⟨g, cap, cur, rfl, hg, ?_, rest⟩
    rw [hb.block g (Nat.lt_of_lt_of_le (Array.getElem?_eq_some_iff.1 hh).1 hC)]
    exact hh
theorem own_far {w : World} {B : Nat} {e : TypeId} {v : Value} {sz n : Nat} {xs : List Value} (h : w.ownsRow B e sz v n xs) {p : Addr} (hp : p.block < B) (u : Value) : (w.setCell p u).ownsRow B e sz v n xs := by
  refine ⟨h.1, ?_⟩
  rcases h.2 with hn | ⟨g, cap, cur, rfl, hg, hh, rest⟩
  · exact .inl hn
  · refine .inr ⟨g, cap, cur, rfl, hg, ?_, rest⟩
    rw [Below.heap_setCell w p u g (by omega)]
    exact hh

/-- make of a table of n lines. -/
theorem made_one (z : Value) (n : Nat) : madeCells #[z] n = (List.replicate n z).toArray := by
  apply Array.ext_getElem?
  intro i
  have e : madeCells #[z] n = (Array.range n).map (#[z][· % 1]!) := rfl
  rw [e]
  rcases Nat.lt_or_ge i n with h | h
  · simp [h, Nat.mod_one]
  · simp [h]
theorem run_makeL (w : World) (n : Nat) (hn : n ≤ 1000000) :
    (Instr.makeSlice 33 (.int .i64 n) (.int .i64 n)).run Try.prog w = .ok (.slice (some ⟨w.heap.size, 0, none⟩) n n) (w.alloc (.cells (List.replicate n (Value.slice none 0 0)).toArray 46)) := by
  have hI := line_info
  cases hi : Try.prog.info? 46 with
  | none => simp [hi] at hI
  | some i =>
    simp only [hi, Option.map_some, Option.some.injEq, Prod.mk.injEq] at hI
    obtain ⟨hz, hs, hb⟩ := hI
    have h := run_make (P := Try.prog) w 33 46 i _ Try.underlying33 hi hz .i64 .i64 n n (by omega) (Int.le_refl _) (by rw [hb]; omega) (by omega)
    rw [h, hs, Int.toNat_natCast, Nat.mul_one]
    congr 3
    exact made_one _ n
end Go.Proofs.Ytpcpmeihebgncaa
