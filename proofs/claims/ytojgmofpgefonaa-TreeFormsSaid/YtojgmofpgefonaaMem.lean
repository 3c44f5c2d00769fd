/-
  How rows of nodes, of places, of rectangles and of numbers lie in memory; what append leaves of a row of the call's own. Nothing of the program is walked here. Conditions: at most a million elements together.
-/
import Derived.Test.YtojgmofpgefonaaLeaf
import Derived.Deep.AppendLies
import Derived.Lib.AppendZeros
import Derived.Laws.OwnMore
namespace Go.Proofs.Ytojgmofpgefonaa
open Go.RowKit
set_option maxRecDepth 100000

/-- Nothing in block b is frozen. -/
def Free (w : World) (b : Nat) : Prop := ∀ o, w.frozen? ⟨b, o, none⟩ = false
theorem Free.below {w w' : World} {b C : Nat} (h : Free w b) (hb : Below C w w') (hC : b < C) : Free w' b := fun o => (hb.frozen (p := ⟨b, o, none⟩) hC).trans (h o)
theorem Held.free {w : World} {g : Nat} {t : TypeId} {cs : Array Value} (h : Held w g t cs) : Free w g := fun o => h.frozen o
/-- A slice that begins at D has the elements vs, each of one of memory's cells. -/
def TabAt (B : Nat) (w : World) (D : Option Addr) (vs : List Value) : Prop :=
  ∀ k (hk : k < vs.length), ∃ b off : Nat, D = some ⟨b, off, none⟩ ∧ B ≤ b ∧ b < w.heap.size ∧ Free w b ∧ w.cell? ⟨b, off + k, none⟩ = some vs[k]
theorem TabAt.nil (B : Nat) (w : World) (D : Option Addr) : TabAt B w D [] := fun k hk => by simp at hk
theorem TabAt.below {B C : Nat} {w w' : World} {D : Option Addr} {vs : List Value} (h : TabAt B w D vs) (hb : Below C w w') (hC : w.heap.size ≤ C) : TabAt B w' D vs := fun k hk => by
  obtain ⟨b, off, e, h0, h1, hf, h2⟩ := h k hk
  have hl := Nat.lt_of_lt_of_le h1 hC
  exact ⟨b, off, e, h0, Nat.lt_of_lt_of_le h1 hb.size, hf.below hb hl, (hb.cell (p := ⟨b, off + k, none⟩) hl).trans h2⟩
theorem TabAt.weak {B A : Nat} {w : World} {D : Option Addr} {vs : List Value} (h : TabAt B w D vs) (hA : A ≤ B) : TabAt A w D vs := fun k hk => by
  obtain ⟨b, off, e, h0, r⟩ := h k hk
  exact ⟨b, off, e, Nat.le_trans hA h0, r⟩
theorem TabAt.take {B : Nat} {w : World} {D : Option Addr} {vs : List Value} (h : TabAt B w D vs) (n : Nat) : TabAt B w D (vs.take n) := fun k hk => by
  have hk' : k < vs.length := by rw [List.length_take] at hk; omega
  obtain ⟨b, off, e, h0, h1, hf, h2⟩ := h k hk'
  exact ⟨b, off, e, h0, h1, hf, by rw [h2, List.getElem_take]⟩
theorem Free.set {w : World} {b : Nat} (h : Free w b) (p : Addr) (x : Value) : Free (w.setCell p x) b := fun o => by simpa using h o
theorem cell_far {w : World} {b o : Nat} {p : Addr} (hb : b ≠ p.block) (x : Value) : (w.setCell p x).cell? ⟨b, o, none⟩ = w.cell? ⟨b, o, none⟩ := World.cell?_setCell_other _ _ _ _ (by rintro rfl; exact hb rfl)
theorem TabAt.far {B : Nat} {w : World} {D : Option Addr} {vs : List Value} (h : TabAt B w D vs) {p : Addr} (hp : p.block < B) (x : Value) : TabAt B (w.setCell p x) D vs := fun k hk => by
  obtain ⟨b, off, e, h0, h1, hf, h2⟩ := h k hk
  exact ⟨b, off, e, h0, by simpa using h1, hf.set _ _, (cell_far (by omega) x).trans h2⟩
/-- A slice type of elements that take sz cells and at most forty bytes. -/
def RowT (P : Program) (t e : TypeId) (sz : Nat) : Prop :=
  P.underlying t = some (.slice e) ∧ ∃ (i : TypeInfo) (z : Value), P.info? e = some i ∧ i.zero = some z ∧ i.size = sz ∧ i.bytes ≤ 40 ∧ z.cells.size = sz ∧ 0 < sz
theorem rowT_mk {P : Program} {t e : TypeId} {z : Value} {b sz : Nat} (hu : P.underlying t = some (.slice e))
    (hi : (P.info? e).map (fun i => (i.zero, i.size, i.bytes)) = some (some z, sz, b)) (hb : b ≤ 40) (hz : z.cells.size = sz) (h0 : 0 < sz) : RowT P t e sz := by
  cases hh : P.info? e with
  | none => simp [hh] at hi
  | some i =>
    simp only [hh, Option.map_some, Option.some.injEq, Prod.mk.injEq] at hi
    exact ⟨hu, i, z, hh, hi.1, hi.2.1, by omega, hz, h0⟩
/-- A slice that begins at D has the cells vs, in memory's own cells. -/
def Src (w : World) (D : Option Addr) (vs : List Value) : Prop := (D = none → vs = []) ∧ ∀ a, D = some a → ∀ j u, vs[j]? = some u → w.cell? (a.add j) = some u
theorem TabAt.src {B : Nat} {w : World} {D : Option Addr} {vs : List Value} (h : TabAt B w D vs) : Src w D vs := by
  refine ⟨?_, ?_⟩
  · rintro rfl
    cases vs with
    | nil => rfl
    | cons v vs => obtain ⟨b, off, e, _⟩ := h 0 (by simp); cases e
  · rintro a rfl j u hj
    have hk := (List.getElem?_eq_some_iff.1 hj).1
    obtain ⟨b, off, e, _, _, _, h2⟩ := h j hk
    cases e
    rw [Addr.add_lit, h2, ← hj, List.getElem?_eq_getElem hk]
/-- What an append leaves: the new value's row, and all else as it was. -/
structure Appended (w w' : World) (base : Nat) (e : TypeId) (sz : Nat) (v' : Value) (n : Nat) (xs : List Value) : Prop where
  own : w'.ownsRow base e sz v' n xs
  below : Below base w w'
  held : ∀ g t cs, t ≠ e → Held w g t cs → Held w' g t cs
section
variable {P : Program} {sz : Nat} (w : World)
theorem run_append_src {t ty e : TypeId} {base n m c : Nat} {v : Value} {D : Option Addr} {xs ys : List Value} (hT : RowT P t e sz)
    (hv : w.ownsRow base e sz v n xs) (hu : Src w D ys) (hm : ys.length = m * sz) (h1 : ∀ y ∈ ys, y.oneCell' = true) (hn : n + m ≤ 1000000) (hb : base ≤ w.heap.size) :
    ∃ v' w', (Builtin.append_ #[t, t] ty #[v, .slice D m c]).run P w = .ok v' w' ∧ Appended w w' base e sz v' (n + m) (xs ++ ys) := by
  obtain ⟨ht, i, z, hi, hz, hs, hby, hzs, hpos⟩ := hT
  cases D with
  | none =>
    obtain rfl := hu.1 rfl
    obtain rfl : m = 0 := by
      rcases Nat.eq_zero_or_pos m with h | h
      · exact h
      · have := Nat.mul_pos h hpos
        simp at hm
        omega
    refine ⟨v, w, ?_, by simpa using hv, Below.refl _ _, fun _ _ _ _ h => h⟩
    rcases hv.2 with ⟨rfl, rfl⟩ | ⟨g, cap, cur, rfl, _, _, hnc, _⟩
    · simp [Builtin.append_, run_underlying ht, sizeOf, typeInfo, hi, Builtin.lenOf, Builtin.firstCells]
    · simp [Builtin.append_, run_underlying ht, sizeOf, typeInfo, hi, Builtin.lenOf, Builtin.firstCells, hnc, storeCells]
  | some a =>
    have hbb : (n + m) * i.bytes ≤ 140737488355328 := Nat.le_trans (Nat.mul_le_mul hn hby) (by decide)
    obtain ⟨v', w', hr, ho, hg, _, _⟩ := run_append_own_at (P := P) w base t ty e i z sz i.bytes ht hi hz hs rfl hzs hpos v n xs hv a m c ys hm (hu.2 a rfl) h1 (by simp only [maxLen]; omega) hbb hb
    refine ⟨v', w', hr, ho, (Below.refl _ _).grown hg hb fun k hk => (hv.lt k hk).1, fun q t2 cs hne hq => ?_⟩
    refine (hg.block q hq.lt ?_).trans hq
    intro e1
    rcases hv.2 with ⟨rfl, _⟩ | ⟨g, cap, cur, rfl, _, hh, _⟩
    · cases e1
    · simp only [Value.ownBlock, Option.some.injEq] at e1
      subst e1
      unfold Held at hq
      rw [hh] at hq
      injection hq with hq
      injection hq with _ hq
      exact hne hq.symm

theorem wp_append_src {o : Oper} {a : Act} {K : Act → World → Prop} {Q : Exit → Act → World → Prop} (s x : Operand) (t : TypeId)
    (ho : o.op = .call { callee := .builtin .append, args := #[s, x], argTypes := #[t, t] }) {e : TypeId} (hT : RowT P t e sz)
    (base n m c : Nat) (v : Value) (D : Option Addr) (xs ys : List Value) (hs : a.eval s = v) (hx : a.eval x = .slice D m c)
    (hv : w.ownsRow base e sz v n xs) (hu : Src w D ys) (hm : ys.length = m * sz) (h1 : ∀ y ∈ ys, y.oneCell' = true) (hn : n + m ≤ 1000000) (hb : base ≤ w.heap.size)
    (h : ∀ v' w', Appended w w' base e sz v' (n + m) (xs ++ ys) → K (a.put o.dst v') w') : o.wp P a w K Q := by
  obtain ⟨v', w', hr, h2⟩ := run_append_src (P := P) (ty := o.type) (c := c) w hT hv hu hm h1 hn hb
  unfold Oper.wp execOp
  simp only [ho, resolve, invoke, builtin, Sem.run_bind, Sem.run_pure, Result.andThen_ok, List.map_toArray, List.map_cons, List.map_nil, hs, hx, hr]
  exact h v' w' h2
theorem wpList_append_src {ops : Array Oper} {rest : List Oper} {o : Oper} {a : Act} {Q : Exit → Act → World → Prop} (hgd : o.guard = none) (s x : Operand) (t : TypeId)
    (ho : o.op = .call { callee := .builtin .append, args := #[s, x], argTypes := #[t, t] }) {e : TypeId} (hT : RowT P t e sz)
    (base n m c : Nat) (v : Value) (D : Option Addr) (xs ys : List Value) (hs : a.eval s = v) (hx : a.eval x = .slice D m c)
    (hv : w.ownsRow base e sz v n xs) (hu : Src w D ys) (hm : ys.length = m * sz) (h1 : ∀ y ∈ ys, y.oneCell' = true) (hn : n + m ≤ 1000000) (hb : base ≤ w.heap.size)
    (h : ∀ v' w', Appended w w' base e sz v' (n + m) (xs ++ ys) → wpList P ops Q rest (a.put o.dst v') w') : wpList P ops Q (o :: rest) a w :=
  wpList_plain hgd fun _ hK => wp_append_src w s x t ho hT base n m c v D xs ys hs hx hv hu hm h1 hn hb fun v' w' h2 => hK _ _ (h v' w' h2)
theorem step_append_src {ops : Array Oper} {o : Oper} {a : Act} {K : Act → World → Prop} {Q : Exit → Act → World → Prop} {E : Prop} (hgd : o.guard = none) (s x : Operand) (t : TypeId)
    (ho : o.op = .call { callee := .builtin .append, args := #[s, x], argTypes := #[t, t] }) {e : TypeId} (hT : RowT P t e sz)
    (base n m c : Nat) (v : Value) (D : Option Addr) (xs ys : List Value) (hs : a.eval s = v) (hx : a.eval x = .slice D m c)
    (hv : w.ownsRow base e sz v n xs) (hu : Src w D ys) (hm : ys.length = m * sz) (h1 : ∀ y ∈ ys, y.oneCell' = true) (hn : n + m ≤ 1000000) (hb : base ≤ w.heap.size)
    (h : ∀ v' w', Appended w w' base e sz v' (n + m) (xs ++ ys) → K (a.put o.dst v') w') :
    if Region.wanted o (yielded ops a.tmps) = true then Oper.wp P o a w K Q else E := by
  rw [if_pos (by simp [Region.wanted, hgd])]
  exact wp_append_src w s x t ho hT base n m c v D xs ys hs hx hv hu hm h1 hn hb h
end

/-- A row that was just laid is the call's own. -/
theorem own_new (w : World) (e : TypeId) (sz n : Nat) (xs : List Value) (hl : xs.length = n * sz) (hn : n ≤ 1000000) : (w.alloc (.cells xs.toArray e)).ownsRow w.heap.size e sz (.slice (some ⟨w.heap.size, 0, none⟩) n n) n xs :=
  ⟨hl, .inr ⟨w.heap.size, n, xs.toArray, rfl, Nat.le_refl _, heap_alloc_new w _, Nat.le_refl _, by unfold maxLen; omega, by simpa using hl, by rw [← hl]; simp⟩⟩
theorem own_below {w w' : World} {B C : Nat} {e : TypeId} {v : Value} {sz n : Nat} {xs : List Value} (h : w.ownsRow B e sz v n xs) (hb : Below C w w') (hC : w.heap.size ≤ C) : w'.ownsRow B e sz v n xs := by
  refine ⟨h.1, ?_⟩
  rcases h.2 with hn | ⟨g, cap, cur, rfl, hg, hh, rest⟩
  · exact .inl hn
  · refine .inr ⟨g, cap, cur, rfl, hg, ?_, rest⟩
    rw [hb.block g (Nat.lt_of_lt_of_le (Array.getElem?_eq_some_iff.1 hh).1 hC)]
    exact hh
theorem own_far {w : World} {B : Nat} {e : TypeId} {v : Value} {sz n : Nat} {xs : List Value} (h : w.ownsRow B e sz v n xs) {p : Addr} (hp : p.block < B) (u : Value) : (w.setCell p u).ownsRow B e sz v n xs := by
  refine ⟨h.1, ?_⟩
  rcases h.2 with hn | ⟨g, cap, cur, rfl, hg, hh, rest⟩
  · exact .inl hn
  · refine .inr ⟨g, cap, cur, rfl, hg, ?_, rest⟩
    rw [Below.heap_setCell w p u g (by omega)]
    exact hh

theorem own_weak {w : World} {B A : Nat} {e : TypeId} {v : Value} {sz n : Nat} {xs : List Value} (h : w.ownsRow B e sz v n xs) (hA : A ≤ B) : w.ownsRow A e sz v n xs := by
  refine ⟨h.1, ?_⟩
  rcases h.2 with hn | ⟨g, cap, cur, rfl, hg, rest⟩
  · exact .inl hn
  · exact .inr ⟨g, cap, cur, rfl, Nat.le_trans hA hg, rest⟩

/-- How an element is told in memory's cells. -/
structure Enc (α : Type) where
  cs : α → List Value
  sz : Nat
  len : ∀ a, (cs a).length = sz
  one : ∀ a, ∀ y ∈ cs a, y.oneCell' = true
section
variable {α : Type} (E : Enc α)
def Enc.flat (l : List α) : List Value := (l.map E.cs).flatten
theorem Enc.flat_len (l : List α) : (E.flat l).length = l.length * E.sz := by
  induction l with
  | nil => simp [flat]
  | cons a l ih =>
    unfold flat at *
    rw [List.map_cons, List.flatten_cons, List.length_append, ih, E.len, List.length_cons, Nat.add_mul, Nat.one_mul, Nat.add_comm]
theorem Enc.flat_app (l m : List α) : E.flat (l ++ m) = E.flat l ++ E.flat m := by simp [flat]
theorem Enc.flat_one (a : α) : E.flat [a] = E.cs a := by simp [flat]
theorem Enc.flat_all (l : List α) : ∀ y ∈ E.flat l, y.oneCell' = true := by
  intro y hy
  unfold flat at hy
  rw [List.mem_flatten] at hy
  obtain ⟨c, hc, hy⟩ := hy
  rw [List.mem_map] at hc
  obtain ⟨a, _, rfl⟩ := hc
  exact E.one a y hy
theorem Enc.flat_at (l : List α) (k j : Nat) (hk : k < l.length) (hj : j < E.sz) : (E.flat l)[k * E.sz + j]? = (E.cs l[k])[j]? := by
  induction l generalizing k with
  | nil => simp at hk
  | cons a l ih =>
    have e0 : E.flat (a :: l) = E.cs a ++ E.flat l := by simp [flat]
    rw [e0]
    cases k with
    | zero =>
      rw [Nat.zero_mul, Nat.zero_add, List.getElem?_append_left (by rw [E.len]; exact hj)]
      rfl
    | succ k =>
      rw [List.getElem?_append_right (by rw [E.len, Nat.add_mul, Nat.one_mul]; omega), E.len]
      have e : (k + 1) * E.sz + j - E.sz = k * E.sz + j := by rw [Nat.add_mul, Nat.one_mul]; omega
      rw [e, ih k (by simpa using hk)]
      rfl
theorem Enc.flat_take (l : List α) (n : Nat) : (E.flat l).take (n * E.sz) = E.flat (l.take n) := by
  rcases Nat.le_total n l.length with h | h
  · have : E.flat l = E.flat (l.take n) ++ E.flat (l.drop n) := by rw [← E.flat_app, List.take_append_drop]
    rw [this, List.take_left' (by rw [E.flat_len, List.length_take, Nat.min_eq_left h])]
  · rw [List.take_of_length_le h, List.take_of_length_le (by rw [E.flat_len]; exact Nat.mul_le_mul_right _ h)]
theorem Enc.flat_drop (l : List α) (n : Nat) : (E.flat l).drop (n * E.sz) = E.flat (l.drop n) := by
  rcases Nat.le_total n l.length with h | h
  · have : E.flat l = E.flat (l.take n) ++ E.flat (l.drop n) := by rw [← E.flat_app, List.take_append_drop]
    rw [this, List.drop_left' (by rw [E.flat_len, List.length_take, Nat.min_eq_left h])]
  · rw [List.drop_of_length_le h, List.drop_of_length_le (by rw [E.flat_len]; exact Nat.mul_le_mul_right _ h)]
    rfl

/-- A slice that begins at D reads as the elements l. -/
def ArrAt (B : Nat) (w : World) (D : Option Addr) (l : List α) : Prop := TabAt B w D (E.flat l)
/-- The slice value v reads as the elements l. -/
def SV (B : Nat) (w : World) (v : Value) (l : List α) : Prop := ∃ D c, v = .slice D l.length c ∧ l.length ≤ c ∧ TabAt B w D (E.flat l)
variable {E}
theorem SV.below {B C : Nat} {w w' : World} {v : Value} {l : List α} (h : SV E B w v l) (hb : Below C w w') (hC : w.heap.size ≤ C) : SV E B w' v l := by
  obtain ⟨D, c, e, h1, h2⟩ := h
  exact ⟨D, c, e, h1, h2.below hb hC⟩
theorem SV.weak {B A : Nat} {w : World} {v : Value} {l : List α} (h : SV E B w v l) (hA : A ≤ B) : SV E A w v l := by
  obtain ⟨D, c, e, h1, h2⟩ := h
  exact ⟨D, c, e, h1, h2.weak hA⟩
theorem SV.far {B : Nat} {w : World} {v : Value} {l : List α} (h : SV E B w v l) {p : Addr} (hp : p.block < B) (x : Value) : SV E B (w.setCell p x) v l := by
  obtain ⟨D, c, e, h1, h2⟩ := h
  exact ⟨D, c, e, h1, h2.far hp x⟩
theorem SV.nil (B : Nat) (w : World) : SV E B w (.slice none 0 0) [] := ⟨none, 0, rfl, Nat.le_refl _, TabAt.nil _ _ _⟩
theorem SV.form {B : Nat} {w : World} {v : Value} {l : List α} (h : SV E B w v l) : ∃ D c, v = .slice D l.length c := by
  obtain ⟨D, c, e, _⟩ := h
  exact ⟨D, c, e⟩
/-- Element k's cells. -/
theorem tab_at {B : Nat} {w : World} {D : Option Addr} {l : List α} (h : TabAt B w D (E.flat l)) (h0 : 0 < E.sz) (k : Nat) (hk : k < l.length) :
    ∃ b off : Nat, D = some ⟨b, off, none⟩ ∧ B ≤ b ∧ b < w.heap.size ∧ Free w b ∧ ∀ j u, (E.cs l[k])[j]? = some u → w.cell? ⟨b, off + (k * E.sz + j), none⟩ = some u := by
  have hl : ∀ j, j < E.sz → k * E.sz + j < (E.flat l).length := by
    intro j hj
    rw [E.flat_len]
    calc k * E.sz + j < k * E.sz + E.sz := by omega
      _ = (k + 1) * E.sz := by rw [Nat.add_mul, Nat.one_mul]
      _ ≤ l.length * E.sz := Nat.mul_le_mul_right _ hk
  obtain ⟨b, off, e, h1, h2, h3, _⟩ := h _ (hl 0 h0)
  refine ⟨b, off, e, h1, h2, h3, fun j u hj => ?_⟩
  have hj' : j < E.sz := by
    have := (List.getElem?_eq_some_iff.1 hj).1
    rwa [E.len] at this
  obtain ⟨b', off', e', _, _, _, h4⟩ := h _ (hl j hj')
  rw [e] at e'
  simp only [Option.some.injEq, Addr.mk.injEq, and_true] at e'
  obtain ⟨rfl, rfl⟩ := e'
  rw [h4, ← hj, ← E.flat_at l k j hk hj', List.getElem?_eq_getElem (hl j hj')]
theorem SV.of_own {B : Nat} {w : World} {e : TypeId} {v : Value} {n : Nat} {l : List α} (h : w.ownsRow B e E.sz v n (E.flat l)) (h0 : 0 < E.sz) : SV E B w v l := by
  have hn : n = l.length := by
    have := h.1
    rw [E.flat_len] at this
    exact (Nat.eq_of_mul_eq_mul_right h0 this).symm
  subst hn
  rcases h.2 with ⟨rfl, h1⟩ | ⟨g, cap, cur, rfl, hg, hh, h1, h2, h3, h4⟩
  · have : l = [] := List.eq_nil_of_length_eq_zero h1
    subst this
    exact SV.nil _ _
  · refine ⟨_, cap, rfl, h1, fun k hk => ⟨g, 0, rfl, hg, Held.lt hh, Held.free hh, ?_⟩⟩
    have hk' : k < l.length * E.sz := by rw [← E.flat_len]; exact hk
    rw [Nat.zero_add, Held.cell hh k, ← Array.getElem?_toList, ← List.getElem?_eq_getElem hk, ← h4, List.getElem?_take_of_lt hk']
theorem SV.src {B : Nat} {w : World} {D : Option Addr} {c n : Nat} {l : List α} (h : SV E B w (.slice D n c) l) : Src w D (E.flat l) ∧ n = l.length := by
  obtain ⟨D', c', e, h1, h2⟩ := h
  simp only [Value.slice.injEq] at e
  obtain ⟨rfl, rfl, rfl⟩ := e
  exact ⟨h2.src, rfl⟩
end

/-- A node. -/
structure N where
  p : Int
  d : Int
  f : Int
  a : Int
  b : Int
deriving DecidableEq, Inhabited
/-- A pane's place. -/
structure Sp where
  p : Int
  r : R
deriving DecidableEq
def nv (n : N) : Value := .agg #[.int .i64 n.p, .int .i64 n.d, .int .i64 n.f, .int .i64 n.a, .int .i64 n.b]
def ncs (n : N) : List Value := [.int .i64 n.p, .int .i64 n.d, .int .i64 n.f, .int .i64 n.a, .int .i64 n.b]
def scs (s : Sp) : List Value := [.int .i64 s.p, .int .i64 s.r.X, .int .i64 s.r.Y, .int .i64 s.r.W, .int .i64 s.r.H]
def EN : Enc N := ⟨ncs, 5, fun _ => rfl, by intro a y hy; simp [ncs] at hy; rcases hy with rfl | rfl | rfl | rfl | rfl <;> rfl⟩
def ES : Enc Sp := ⟨scs, 5, fun _ => rfl, by intro a y hy; simp [scs] at hy; rcases hy with rfl | rfl | rfl | rfl | rfl <;> rfl⟩
def ER : Enc R := ⟨fun r => [.int .i64 r.X, .int .i64 r.Y, .int .i64 r.W, .int .i64 r.H], 4, fun _ => rfl, by intro a y hy; simp at hy; rcases hy with rfl | rfl | rfl | rfl <;> rfl⟩
def EI : Enc Int := ⟨fun r => [.int .i64 r], 1, fun _ => rfl, by intro a y hy; simp at hy; subst hy; rfl⟩
/-- Node k. -/
theorem node_at {B : Nat} {w : World} {D : Option Addr} {l : List N} (h : TabAt B w D (EN.flat l)) (k : Nat) (n : N) (hk : l[k]? = some n) :
    ∃ b off : Nat, D = some ⟨b, off, none⟩ ∧ B ≤ b ∧ b < w.heap.size ∧ Free w b ∧ w.cell? ⟨b, off + k * 5, none⟩ = some (.int .i64 n.p) ∧ w.cell? ⟨b, off + k * 5 + 1, none⟩ = some (.int .i64 n.d) ∧
      w.cell? ⟨b, off + k * 5 + 2, none⟩ = some (.int .i64 n.f) ∧ w.cell? ⟨b, off + k * 5 + 3, none⟩ = some (.int .i64 n.a) ∧ w.cell? ⟨b, off + k * 5 + 4, none⟩ = some (.int .i64 n.b) := by
  obtain ⟨hl, rfl⟩ := List.getElem?_eq_some_iff.1 hk
  obtain ⟨b, off, e, h1, h2, h3, h4⟩ := tab_at h (by decide) k hl
  exact ⟨b, off, e, h1, h2, h3, h4 0 _ rfl, h4 1 _ rfl, h4 2 _ rfl, h4 3 _ rfl, h4 4 _ rfl⟩
/-- Place k. -/
theorem spot_at {B : Nat} {w : World} {D : Option Addr} {l : List Sp} (h : TabAt B w D (ES.flat l)) (k : Nat) (n : Sp) (hk : l[k]? = some n) :
    ∃ b off : Nat, D = some ⟨b, off, none⟩ ∧ B ≤ b ∧ b < w.heap.size ∧ Free w b ∧ w.cell? ⟨b, off + k * 5, none⟩ = some (.int .i64 n.p) ∧ w.cell? ⟨b, off + k * 5 + 1, none⟩ = some (.int .i64 n.r.X) ∧
      w.cell? ⟨b, off + k * 5 + 2, none⟩ = some (.int .i64 n.r.Y) ∧ w.cell? ⟨b, off + k * 5 + 3, none⟩ = some (.int .i64 n.r.W) ∧ w.cell? ⟨b, off + k * 5 + 4, none⟩ = some (.int .i64 n.r.H) := by
  obtain ⟨hl, rfl⟩ := List.getElem?_eq_some_iff.1 hk
  obtain ⟨b, off, e, h1, h2, h3, h4⟩ := tab_at h (by decide) k hl
  exact ⟨b, off, e, h1, h2, h3, h4 0 _ rfl, h4 1 _ rfl, h4 2 _ rfl, h4 3 _ rfl, h4 4 _ rfl⟩
/-- Rectangle k. -/
theorem rect_at {B : Nat} {w : World} {D : Option Addr} {l : List R} (h : TabAt B w D (ER.flat l)) (k : Nat) (n : R) (hk : l[k]? = some n) :
    ∃ b off : Nat, D = some ⟨b, off, none⟩ ∧ B ≤ b ∧ b < w.heap.size ∧ Free w b ∧ w.cell? ⟨b, off + k * 4, none⟩ = some (.int .i64 n.X) ∧ w.cell? ⟨b, off + k * 4 + 1, none⟩ = some (.int .i64 n.Y) ∧
      w.cell? ⟨b, off + k * 4 + 2, none⟩ = some (.int .i64 n.W) ∧ w.cell? ⟨b, off + k * 4 + 3, none⟩ = some (.int .i64 n.H) := by
  obtain ⟨hl, rfl⟩ := List.getElem?_eq_some_iff.1 hk
  obtain ⟨b, off, e, h1, h2, h3, h4⟩ := tab_at h (by decide) k hl
  exact ⟨b, off, e, h1, h2, h3, h4 0 _ rfl, h4 1 _ rfl, h4 2 _ rfl, h4 3 _ rfl⟩
/-- Number k. -/
theorem int_at {B : Nat} {w : World} {D : Option Addr} {l : List Int} (h : TabAt B w D (EI.flat l)) (k : Nat) (n : Int) (hk : l[k]? = some n) :
    ∃ b off : Nat, D = some ⟨b, off, none⟩ ∧ B ≤ b ∧ b < w.heap.size ∧ Free w b ∧ w.cell? ⟨b, off + k, none⟩ = some (.int .i64 n) := by
  obtain ⟨hl, rfl⟩ := List.getElem?_eq_some_iff.1 hk
  obtain ⟨b, off, e, h1, h2, h3, h4⟩ := tab_at h (by decide) k hl
  have := h4 0 _ rfl
  exact ⟨b, off, e, h1, h2, h3, by rw [← this]; simp [EI]⟩

theorem node_info : (Try.prog.info? 23).map (fun i => (i.zero, i.size, i.bytes)) = some (some (.agg #[.int .i64 0, .int .i64 0, .int .i64 0, .int .i64 0, .int .i64 0]), 5, 40) := by kernel_rfl
theorem spot_info : (Try.prog.info? 50).map (fun i => (i.zero, i.size, i.bytes)) = some (some (.agg #[.int .i64 0, .int .i64 0, .int .i64 0, .int .i64 0, .int .i64 0]), 5, 40) := by kernel_rfl
theorem rect_info : (Try.prog.info? 48).map (fun i => (i.zero, i.size, i.bytes)) = some (some (.agg #[.int .i64 0, .int .i64 0, .int .i64 0, .int .i64 0]), 4, 32) := by kernel_rfl
theorem int_info : (Try.prog.info? 3).map (fun i => (i.zero, i.size, i.bytes)) = some (some (.int .i64 0), 1, 8) := by kernel_rfl
theorem rowN : RowT Try.prog 26 23 5 := rowT_mk Try.underlying26 node_info (by decide) rfl (by decide)
theorem rowS : RowT Try.prog 43 50 5 := rowT_mk Try.underlying43 spot_info (by decide) rfl (by decide)
theorem rowR : RowT Try.prog 44 48 4 := rowT_mk Try.underlying44 rect_info (by decide) rfl (by decide)
theorem rowI : RowT Try.prog 34 3 1 := rowT_mk Try.underlying34 int_info (by decide) rfl (by decide)
end Go.Proofs.Ytojgmofpgefonaa
