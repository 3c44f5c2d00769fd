/-
  Lines of cells as plain lists: what each call of package rows makes of them; how such a list lies in memory. Nothing of the program is named here. No condition.
-/
import Derived.WalkKit
import Derived.Laws.CopyOwn
import Derived.Lib.Hide
namespace Go.Proofs.Ytpcpmeihebgncaa
open Go.RowKit
set_option maxRecDepth 100000

/-- A cell: its rune, its attribute. -/
structure C where
  r : Int
  a : Int
def C.blank : C := ⟨32, 0⟩

/-! ### what the calls make -/
def withinF (n m : Int) : Int := max 0 (min n m)
def blanksF (n : Nat) : List C := List.replicate n C.blank
def placeB (n : Nat) (x : Int) : Bool := decide (0 ≤ x ∧ x < n)
def blankF (w : Int) : List C := blanksF (withinF w 1000).toNat
def fitF (l : List C) (w : Int) : List C := splice (blankF w) 0 (l.take (withinF w 1000).toNat)
def putF (l : List C) (x : Int) (c : C) : List C := if placeB l.length x then l.set x.toNat c else l
/-- l with blank ones from i on, ahead of j. -/
def clearN (l : List C) (i j : Nat) : List C := l.mapIdx fun k c => if i ≤ k ∧ k < j then C.blank else c
def clearF (l : List C) (i j : Int) : List C := clearN l (withinF i l.length).toNat (withinF j l.length).toNat
def insertN (l : List C) (x k : Nat) : List C := splice (splice (blanksF l.length) 0 (l.take x)) (x + k) ((l.drop x).take (l.length - (x + k)))
def insertF (l : List C) (x n : Int) : List C := if placeB l.length x then insertN l x.toNat (withinF n (l.length - x)).toNat else l
def deleteN (l : List C) (x k : Nat) : List C := splice (splice (blanksF l.length) 0 (l.take x)) x ((l.drop (x + k)).take (l.length - x))
def deleteF (l : List C) (x n : Int) : List C := if placeB l.length x then deleteN l x.toNat (withinF n (l.length - x)).toNat else l

theorem within_nat (n : Int) (m : Nat) : 0 ≤ withinF n m ∧ withinF n m ≤ m := by unfold withinF; omega
theorem blanksF_len (n : Nat) : (blanksF n).length = n := by simp [blanksF]
theorem clearN_len (l : List C) (i j : Nat) : (clearN l i j).length = l.length := by simp [clearN]
theorem insertN_len (l : List C) (x k : Nat) (h : x + k ≤ l.length) : (insertN l x k).length = l.length := by
  simp only [insertN, splice, blanksF, List.length_append, List.length_take, List.length_drop, List.length_replicate]; omega
theorem deleteN_len (l : List C) (x k : Nat) (h : x + k ≤ l.length) : (deleteN l x k).length = l.length := by
  simp only [deleteN, splice, blanksF, List.length_append, List.length_take, List.length_drop, List.length_replicate]; omega
theorem putF_len (l : List C) (x : Int) (c : C) : (putF l x c).length = l.length := by unfold putF; split <;> simp
theorem clearF_len (l : List C) (i j : Int) : (clearF l i j).length = l.length := clearN_len _ _ _
theorem place_iff {n : Nat} {x : Int} : placeB n x = true ↔ 0 ≤ x ∧ x < n := by simp [placeB]
theorem insertF_len (l : List C) (x n : Int) : (insertF l x n).length = l.length := by
  unfold insertF
  split
  · rename_i h
    have := place_iff.1 h
    refine insertN_len _ _ _ ?_
    unfold withinF; omega
  · rfl
theorem deleteF_len (l : List C) (x n : Int) : (deleteF l x n).length = l.length := by
  unfold deleteF
  split
  · rename_i h
    have := place_iff.1 h
    refine deleteN_len _ _ _ ?_
    unfold withinF; omega
  · rfl
theorem blankF_len (w : Int) : (blankF w).length = (withinF w 1000).toNat := blanksF_len _
theorem fitF_len (l : List C) (w : Int) : (fitF l w).length = (withinF w 1000).toNat := by
  unfold fitF
  rw [length_splice _ _ _ (by rw [blankF_len, List.length_take]; omega), blankF_len]

/-! ### a list of cells in memory: two of memory's cells each -/
def cv (c : C) : List Value := [.int .i32 c.r, .int .i64 c.a]
def cvs (l : List C) : List Value := l.flatMap cv
theorem cvs_nil : cvs [] = [] := rfl
theorem cvs_cons (c : C) (l : List C) : cvs (c :: l) = .int .i32 c.r :: .int .i64 c.a :: cvs l := rfl
theorem cvs_app (a b : List C) : cvs (a ++ b) = cvs a ++ cvs b := by simp [cvs]
theorem cvs_len (l : List C) : (cvs l).length = l.length * 2 := by
  induction l with
  | nil => rfl
  | cons c l ih => simp only [cvs_cons, List.length_cons, ih]; omega
theorem cvs_one (l : List C) : ∀ y ∈ cvs l, y.oneCell' = true := by
  intro y hy
  simp only [cvs, cv, List.mem_flatMap, List.mem_cons, List.not_mem_nil, or_false] at hy
  obtain ⟨x, _, rfl | rfl⟩ := hy <;> rfl
theorem cvs_take : ∀ (l : List C) (k : Nat), (cvs l).take (k * 2) = cvs (l.take k)
  | l, 0 => by simp [cvs]
  | [], k + 1 => by simp [cvs]
  | c :: l, k + 1 => by
    have e : (k + 1) * 2 = k * 2 + 1 + 1 := by omega
    rw [e, cvs_cons, List.take_succ_cons, List.take_succ_cons, cvs_take l k, List.take_succ_cons, cvs_cons]
theorem cvs_drop : ∀ (l : List C) (k : Nat), (cvs l).drop (k * 2) = cvs (l.drop k)
  | l, 0 => by simp
  | [], k + 1 => by simp [cvs]
  | c :: l, k + 1 => by
    have e : (k + 1) * 2 = k * 2 + 1 + 1 := by omega
    rw [e, cvs_cons, List.drop_succ_cons, List.drop_succ_cons, cvs_drop l k, List.drop_succ_cons]
theorem cvs_splice (L cs : List C) (off : Nat) : splice (cvs L) (off * 2) (cvs cs) = cvs (splice L off cs) := by
  have e : off * 2 + cs.length * 2 = (off + cs.length) * 2 := by omega
  unfold splice
  rw [cvs_take, cvs_len, e, cvs_drop, cvs_app, cvs_app]
theorem cvs_at : ∀ (l : List C) (k : Nat) (h : k < l.length), (cvs l)[k * 2]? = some (.int .i32 l[k].r) ∧ (cvs l)[k * 2 + 1]? = some (.int .i64 l[k].a)
  | [], k, h => by simp at h
  | c :: l, 0, _ => ⟨rfl, rfl⟩
  | c :: l, k + 1, h => by
    have e : (k + 1) * 2 = k * 2 + 1 + 1 := by omega
    rw [e, cvs_cons]
    simpa using cvs_at l k (by simpa using h)
theorem cvs_set : ∀ (l : List C) (k : Nat) (c : C), ((cvs l).set (k * 2) (.int .i32 c.r)).set (k * 2 + 1) (.int .i64 c.a) = cvs (l.set k c)
  | [], k, c => rfl
  | d :: l, 0, c => rfl
  | d :: l, k + 1, c => by
    have e : (k + 1) * 2 = k * 2 + 1 + 1 := by omega
    rw [e, cvs_cons]
    simp only [List.set_cons_succ, cvs_cons, cvs_set l k c]
theorem cvs_setA : ∀ (l : List C) (k : Nat) (h : k < l.length) (a : Int), (cvs l).set (k * 2 + 1) (.int .i64 a) = cvs (l.set k ⟨l[k].r, a⟩)
  | [], k, h, a => by simp at h
  | d :: l, 0, _, a => rfl
  | d :: l, k + 1, h, a => by
    have e : (k + 1) * 2 + 1 = k * 2 + 1 + 1 + 1 := by omega
    rw [e, cvs_cons]
    simp only [List.set_cons_succ, List.getElem_cons_succ, cvs_cons, cvs_setA l k (by simpa using h) a]

/-! ### blocks that are known whole; rows that are read -/
/-- Block g of world w is the cells cs. -/
def Held (w : World) (g : Nat) (t : TypeId) (cs : Array Value) : Prop := w.heap[g]? = some (.cells cs t (0, 0))
theorem Held.new (w : World) (t : TypeId) (cs : Array Value) : Held (w.alloc (.cells cs t)) w.heap.size t cs := heap_alloc_new w _
theorem Held.lt {w : World} {g : Nat} {t : TypeId} {cs : Array Value} (h : Held w g t cs) : g < w.heap.size := (Array.getElem?_eq_some_iff.1 h).1
theorem Held.below {w w' : World} {g B : Nat} {t : TypeId} {cs : Array Value} (h : Held w g t cs) (hb : Below B w w') (hg : g < B) : Held w' g t cs := (hb.block g hg).trans h
theorem Held.alloc {w : World} {g : Nat} {t : TypeId} {cs : Array Value} (h : Held w g t cs) (o : Obj) : Held (w.alloc o) g t cs := (Below.heap_alloc w o g h.lt).trans h
theorem Held.cell {w : World} {g : Nat} {t : TypeId} {cs : Array Value} (h : Held w g t cs) (o : Nat) : w.cell? ⟨g, o, none⟩ = cs[o]? := cell_of_row w g o cs t (0, 0) h
theorem Held.frozen {w : World} {g : Nat} {t : TypeId} {cs : Array Value} (h : Held w g t cs) (o : Nat) : w.frozen? ⟨g, o, none⟩ = false := frozen_of_row w g o cs t h
theorem Held.set1 {w : World} {g : Nat} {t : TypeId} {cs : Array Value} (h : Held w g t cs) (i : Nat) (x : Value) : Held (w.setCell ⟨g, i, none⟩ x) g t (cs.setIfInBounds i x) := heap_setCell_same w g i cs t x h
theorem Held.far {w : World} {g : Nat} {t : TypeId} {cs : Array Value} (h : Held w g t cs) {p : Addr} (hp : g ≠ p.block) (x : Value) : Held (w.setCell p x) g t cs := (Below.heap_setCell w p x g hp).trans h
theorem Held.ne {w : World} {g k : Nat} {t u : TypeId} {cs ds : Array Value} (h : Held w g t cs) (h' : Held w k u ds) (hne : t ≠ u) : g ≠ k := by
  rintro rfl
  unfold Held at h h'
  rw [h] at h'
  injection h' with h'
  injection h' with _ ht
  exact hne ht

/-- Block g holds the cells l, and nothing else. -/
def Row (w : World) (g : Nat) (l : List C) : Prop := Held w g 48 (cvs l).toArray
theorem Row.lt {w : World} {g : Nat} {l : List C} (h : Row w g l) : g < w.heap.size := Held.lt h
theorem Row.below {w w' : World} {g B : Nat} {l : List C} (h : Row w g l) (hb : Below B w w') (hg : g < B) : Row w' g l := Held.below h hb hg
theorem Row.alloc {w : World} {g : Nat} {l : List C} (h : Row w g l) (o : Obj) : Row (w.alloc o) g l := Held.alloc h o
theorem Row.cells {w : World} {g : Nat} {l : List C} (h : Row w g l) (k : Nat) (hk : k < l.length) : w.cell? ⟨g, k * 2, none⟩ = some (.int .i32 l[k].r) ∧ w.cell? ⟨g, k * 2 + 1, none⟩ = some (.int .i64 l[k].a) := by
  obtain ⟨h0, h1⟩ := cvs_at l k hk
  exact ⟨(Held.cell h _).trans (by simpa using h0), (Held.cell h _).trans (by simpa using h1)⟩
theorem Row.frozen {w : World} {g : Nat} {l : List C} (h : Row w g l) (o : Nat) : w.frozen? ⟨g, o, none⟩ = false := Held.frozen h o
theorem Row.set {w : World} {g : Nat} {l : List C} (h : Row w g l) (k : Nat) (c : C) : Row ((w.setCell ⟨g, k * 2, none⟩ (.int .i32 c.r)).setCell ⟨g, k * 2 + 1, none⟩ (.int .i64 c.a)) g (l.set k c) := by
  have := (Held.set1 h (k * 2) (.int .i32 c.r)).set1 (k * 2 + 1) (.int .i64 c.a)
  unfold Row
  rw [← cvs_set]
  simpa using this
theorem Row.setA {w : World} {g : Nat} {l : List C} (h : Row w g l) (k : Nat) (hk : k < l.length) (a : Int) : Row (w.setCell ⟨g, k * 2 + 1, none⟩ (.int .i64 a)) g (l.set k ⟨l[k].r, a⟩) := by
  have := Held.set1 h (k * 2 + 1) (.int .i64 a)
  unfold Row
  rw [← cvs_setA]
  simpa using this

/-- A slice that begins at D reads as the cells l. -/
def ReadC (w : World) (D : Option Addr) (l : List C) : Prop :=
  ∀ k (hk : k < l.length), ∃ b off : Nat, D = some ⟨b, off, none⟩ ∧ b < w.heap.size ∧ w.cell? ⟨b, off + k * 2, none⟩ = some (.int .i32 l[k].r) ∧ w.cell? ⟨b, off + k * 2 + 1, none⟩ = some (.int .i64 l[k].a)
theorem readC_nil (w : World) (D : Option Addr) : ReadC w D [] := fun k hk => by simp at hk
theorem ReadC.below {w w' : World} {B : Nat} {D : Option Addr} {l : List C} (h : ReadC w D l) (hb : Below B w w') (hB : w.heap.size ≤ B) : ReadC w' D l := fun k hk => by
  obtain ⟨b, off, e, h1, h2, h3⟩ := h k hk
  exact ⟨b, off, e, Nat.lt_of_lt_of_le h1 hb.size, (hb.cell (p := ⟨b, off + k * 2, none⟩) (Nat.lt_of_lt_of_le h1 hB)).trans h2, (hb.cell (p := ⟨b, off + k * 2 + 1, none⟩) (Nat.lt_of_lt_of_le h1 hB)).trans h3⟩
theorem ReadC.alloc {w : World} {D : Option Addr} {l : List C} (h : ReadC w D l) (o : Obj) : ReadC (w.alloc o) D l := h.below ((Below.refl _ _).alloc (Nat.le_refl _) _) (Nat.le_refl _)
theorem Row.read {w : World} {g : Nat} {l : List C} (h : Row w g l) : ReadC w (some ⟨g, 0, none⟩) l := fun k hk => by
  obtain ⟨h0, h1⟩ := h.cells k hk
  exact ⟨g, 0, rfl, h.lt, by rw [Nat.zero_add]; exact h0, by rw [Nat.zero_add]; exact h1⟩
/-- 'r[x:]'. -/
theorem ReadC.cut {w : World} {b off x cap : Nat} {l : List C} (h : ReadC w (some ⟨b, off, none⟩) l) (hl : l.length ≤ cap) :
    ReadC w (if cap = x then some ⟨b, off, none⟩ else some ⟨b, off + x * 2, none⟩) (l.drop x) := fun k hk => by
  have hk' : x + k < l.length := by rw [List.length_drop] at hk; omega
  obtain ⟨b', off', e, h1, h2, h3⟩ := h (x + k) hk'
  simp only [Option.some.injEq, Addr.mk.injEq, and_true] at e
  obtain ⟨rfl, rfl⟩ := e
  rw [if_neg (by omega)]
  have e0 : off + x * 2 + k * 2 = off + (x + k) * 2 := by omega
  refine ⟨b, off + x * 2, rfl, h1, ?_, ?_⟩
  · rw [e0, h2, List.getElem_drop]
  · rw [e0, h3, List.getElem_drop]
theorem read_flat {w : World} {D : Option Addr} {l : List C} (h : ReadC w D l) (h0 : 0 < l.length) : ∃ ad, D = some ad ∧ ∀ j v, (cvs l)[j]? = some v → w.cell? (ad.add j) = some v := by
  obtain ⟨b, off, rfl, _⟩ := h 0 h0
  refine ⟨_, rfl, fun j v hj => ?_⟩
  have hjl : j < l.length * 2 := by rw [← cvs_len]; exact (List.getElem?_eq_some_iff.1 hj).1
  have hadd : (⟨b, off, none⟩ : Addr).add j = ⟨b, off + j, none⟩ := by unfold Addr.add; split <;> simp_all
  obtain ⟨b', off', e, _, h2, h3⟩ := h (j / 2) (by omega)
  simp only [Option.some.injEq, Addr.mk.injEq, and_true] at e
  obtain ⟨rfl, rfl⟩ := e
  obtain ⟨q0, q1⟩ := cvs_at l (j / 2) (by omega)
  rw [hadd]
  rcases Nat.mod_two_eq_zero_or_one j with hm | hm
  · have ej : j / 2 * 2 = j := by omega
    rw [ej] at h2 q0
    rw [h2, ← q0, hj]
  · have ej : j / 2 * 2 + 1 = j := by omega
    rw [Nat.add_assoc, ej] at h3
    rw [ej] at q1
    rw [h3, ← q1, hj]
theorem ReadC.take {w : World} {D : Option Addr} {l : List C} (h : ReadC w D l) (n : Nat) : ReadC w D (l.take n) := fun k hk => by
  have hk' : k < l.length := by rw [List.length_take] at hk; omega
  obtain ⟨b, off, e, h1, h2, h3⟩ := h k hk'
  exact ⟨b, off, e, h1, by rw [h2, List.getElem_take], by rw [h3, List.getElem_take]⟩
end Go.Proofs.Ytpcpmeihebgncaa
