/-
  Lines of cells as plain lists: what each call of package rows makes of them; how such a list lies in memory. Nothing of the program is named here. No condition.
-/
import Derived.WalkKit
import Derived.Laws.CopyOwn
import Derived.Lib.Hide
import Derived.Test.YtpcpmeihebgncaaRows
import Derived.WalkSpells
import Derived.WalkLawsBesides
import Derived.Deep.AppendLies
import Derived.Lib.AppendZeros
import Derived.Laws.OwnMore
import Derived.StillTailTactics
import Derived.Deep.RegionLaw
import Derived.Deep.RegionHeld3
import Derived.BigQuiet
import Derived.Deep.QuietTactic
import Derived.Deep.WholeRow
import Derived.Deep.Cut
import Derived.Deep.DeepCutAuto
namespace Go.Proofs.Ytpcpmeihebgncaa
open Go.RowKit
set_option maxRecDepth 100000

/-- A cell: its rune, its attribute. -/
structure C where
  r : Int
  a : Int
def C.blank : C := ⟨32, 0⟩

/-! ### what the calls make -/
def withinF (n m : Int) : Int := max 0 (min n m)
def blanksF (n : Nat) : List C := List.replicate n C.blank
def placeB (n : Nat) (x : Int) : Bool := decide (0 ≤ x ∧ x < n)
def blankF (w : Int) : List C := blanksF (withinF w 1000).toNat
def fitF (l : List C) (w : Int) : List C := splice (blankF w) 0 (l.take (withinF w 1000).toNat)
def putF (l : List C) (x : Int) (c : C) : List C := if placeB l.length x then l.set x.toNat c else l
/-- l with blank ones from i on, ahead of j. -/
def clearN (l : List C) (i j : Nat) : List C := l.mapIdx fun k c => if i ≤ k ∧ k < j then C.blank else c
def clearF (l : List C) (i j : Int) : List C := clearN l (withinF i l.length).toNat (withinF j l.length).toNat
def insertN (l : List C) (x k : Nat) : List C := splice (splice (blanksF l.length) 0 (l.take x)) (x + k) ((l.drop x).take (l.length - (x + k)))
def insertF (l : List C) (x n : Int) : List C := if placeB l.length x then insertN l x.toNat (withinF n (l.length - x)).toNat else l
def deleteN (l : List C) (x k : Nat) : List C := splice (splice (blanksF l.length) 0 (l.take x)) x ((l.drop (x + k)).take (l.length - x))
def deleteF (l : List C) (x n : Int) : List C := if placeB l.length x then deleteN l x.toNat (withinF n (l.length - x)).toNat else l

theorem within_nat (n : Int) (m : Nat) : 0 ≤ withinF n m ∧ withinF n m ≤ m := by unfold withinF; omega
theorem blanksF_len (n : Nat) : (blanksF n).length = n := by simp [blanksF]
theorem clearN_len (l : List C) (i j : Nat) : (clearN l i j).length = l.length := by simp [clearN]
theorem insertN_len (l : List C) (x k : Nat) (h : x + k ≤ l.length) : (insertN l x k).length = l.length := by
  simp only [insertN, splice, blanksF, List.length_append, List.length_take, List.length_drop, List.length_replicate]; omega
theorem deleteN_len (l : List C) (x k : Nat) (h : x + k ≤ l.length) : (deleteN l x k).length = l.length := by
  simp only [deleteN, splice, blanksF, List.length_append, List.length_take, List.length_drop, List.length_replicate]; omega
theorem putF_len (l : List C) (x : Int) (c : C) : (putF l x c).length = l.length := by unfold putF; split <;> simp
theorem clearF_len (l : List C) (i j : Int) : (clearF l i j).length = l.length := clearN_len _ _ _
theorem place_iff {n : Nat} {x : Int} : placeB n x = true ↔ 0 ≤ x ∧ x < n := by simp [placeB]
theorem insertF_len (l : List C) (x n : Int) : (insertF l x n).length = l.length := by
  unfold insertF
  split
  · rename_i h
    have := place_iff.1 h
    refine insertN_len _ _ _ ?_
    unfold withinF; omega
  · rfl
theorem deleteF_len (l : List C) (x n : Int) : (deleteF l x n).length = l.length := by
  unfold deleteF
  split
  · rename_i h
    have := place_iff.1 h
    refine deleteN_len _ _ _ ?_
    unfold withinF; omega
  · rfl
theorem blankF_len (w : Int) : (blankF w).length = (withinF w 1000).toNat := blanksF_len _
theorem fitF_len (l : List C) (w : Int) : (fitF l w).length = (withinF w 1000).toNat := by
  unfold fitF
  rw [length_splice _ _ _ (by rw [blankF_len, List.length_take]; omega), blankF_len]

/-! ### a list of cells in memory: two of memory's cells each -/
def cv (c : C) : List Value := [.int .i32 c.r, .int .i64 c.a]
def cvs (l : List C) : List Value := l.flatMap cv
theorem cvs_nil : cvs [] = [] := rfl
theorem cvs_cons (c : C) (l : List C) : cvs (c :: l) = .int .i32 c.r :: .int .i64 c.a :: cvs l := rfl
theorem cvs_app (a b : List C) : cvs (a ++ b) = cvs a ++ cvs b := by simp [cvs]
theorem cvs_len (l : List C) : (cvs l).length = l.length * 2 := by
  induction l with
  | nil => rfl
  | cons c l ih => simp only [cvs_cons, List.length_cons, ih]; omega
theorem cvs_one (l : List C) : ∀ y ∈ cvs l, y.oneCell' = true := by
  intro y hy
  simp only [cvs, cv, List.mem_flatMap, List.mem_cons, List.not_mem_nil, or_false] at hy
  obtain ⟨x, _, rfl | rfl⟩ := hy <;> rfl
theorem cvs_take : ∀ (l : List C) (k : Nat), (cvs l).take (k * 2) = cvs (l.take k)
  | l, 0 => by simp [cvs]
  | [], k + 1 => by simp [cvs]
  | c :: l, k + 1 => by
    have e : (k + 1) * 2 = k * 2 + 1 + 1 := by omega
    rw [e, cvs_cons, List.take_succ_cons, List.take_succ_cons, cvs_take l k, List.take_succ_cons, cvs_cons]
theorem cvs_drop : ∀ (l : List C) (k : Nat), (cvs l).drop (k * 2) = cvs (l.drop k)
  | l, 0 => by simp
  | [], k + 1 => by simp [cvs]
  | c :: l, k + 1 => by
    have e : (k + 1) * 2 = k * 2 + 1 + 1 := by omega
    rw [e, cvs_cons, List.drop_succ_cons, List.drop_succ_cons, cvs_drop l k, List.drop_succ_cons]
theorem cvs_splice (L cs : List C) (off : Nat) : splice (cvs L) (off * 2) (cvs cs) = cvs (splice L off cs) := by
  have e : off * 2 + cs.length * 2 = (off + cs.length) * 2 := by omega
  unfold splice
  rw [cvs_take, cvs_len, e, cvs_drop, cvs_app, cvs_app]
theorem cvs_at : ∀ (l : List C) (k : Nat) (h : k < l.length), (cvs l)[k * 2]? = some (.int .i32 l[k].r) ∧ (cvs l)[k * 2 + 1]? = some (.int .i64 l[k].a)
  | [], k, h => by simp at h
  | c :: l, 0, _ => ⟨rfl, rfl⟩
  | c :: l, k + 1, h => by
    have e : (k + 1) * 2 = k * 2 + 1 + 1 := by omega
    rw [e, cvs_cons]
    simpa using cvs_at l k (by simpa using h)
theorem cvs_set : ∀ (l : List C) (k : Nat) (c : C), ((cvs l).set (k * 2) (.int .i32 c.r)).set (k * 2 + 1) (.int .i64 c.a) = cvs (l.set k c)
  | [], k, c => rfl
  | d :: l, 0, c => rfl
  | d :: l, k + 1, c => by
    have e : (k + 1) * 2 = k * 2 + 1 + 1 := by omega
    rw [e, cvs_cons]
    simp only [List.set_cons_succ, cvs_cons, cvs_set l k c]
theorem cvs_setA : ∀ (l : List C) (k : Nat) (h : k < l.length) (a : Int), (cvs l).set (k * 2 + 1) (.int .i64 a) = cvs (l.set k ⟨l[k].r, a⟩)
  | [], k, h, a => by simp at h
  | d :: l, 0, _, a => rfl
  | d :: l, k + 1, h, a => by
    have e : (k + 1) * 2 + 1 = k * 2 + 1 + 1 + 1 := by omega
    rw [e, cvs_cons]
    simp only [List.set_cons_succ, List.getElem_cons_succ, cvs_cons, cvs_setA l k (by simpa using h) a]

/-! ### blocks that are known whole; rows that are read -/
/-- Block g of world w is the cells cs. -/
def Held (w : World) (g : Nat) (t : TypeId) (cs : Array Value) : Prop := w.heap[g]? = some (.cells cs t (0, 0))
theorem Held.new (w : World) (t : TypeId) (cs : Array Value) : Held (w.alloc (.cells cs t)) w.heap.size t cs := heap_alloc_new w _
theorem Held.lt {w : World} {g : Nat} {t : TypeId} {cs : Array Value} (h : Held w g t cs) : g < w.heap.size := (Array.getElem?_eq_some_iff.1 h).1
theorem Held.below {w w' : World} {g B : Nat} {t : TypeId} {cs : Array Value} (h : Held w g t cs) (hb : Below B w w') (hg : g < B) : Held w' g t cs := (hb.block g hg).trans h
theorem Held.alloc {w : World} {g : Nat} {t : TypeId} {cs : Array Value} (h : Held w g t cs) (o : Obj) : Held (w.alloc o) g t cs := (Below.heap_alloc w o g h.lt).trans h
theorem Held.cell {w : World} {g : Nat} {t : TypeId} {cs : Array Value} (h : Held w g t cs) (o : Nat) : w.cell? ⟨g, o, none⟩ = cs[o]? := cell_of_row w g o cs t (0, 0) h
theorem Held.frozen {w : World} {g : Nat} {t : TypeId} {cs : Array Value} (h : Held w g t cs) (o : Nat) : w.frozen? ⟨g, o, none⟩ = false := frozen_of_row w g o cs t h
theorem Held.set1 {w : World} {g : Nat} {t : TypeId} {cs : Array Value} (h : Held w g t cs) (i : Nat) (x : Value) : Held (w.setCell ⟨g, i, none⟩ x) g t (cs.setIfInBounds i x) := heap_setCell_same w g i cs t x h
theorem Held.far {w : World} {g : Nat} {t : TypeId} {cs : Array Value} (h : Held w g t cs) {p : Addr} (hp : g ≠ p.block) (x : Value) : Held (w.setCell p x) g t cs := (Below.heap_setCell w p x g hp).trans h
theorem Held.ne {w : World} {g k : Nat} {t u : TypeId} {cs ds : Array Value} (h : Held w g t cs) (h' : Held w k u ds) (hne : t ≠ u) : g ≠ k := by
  rintro rfl
  unfold Held at h h'
  rw [h] at h'
  injection h' with h'
  injection h' with _ ht
  exact hne ht

/-- Block g holds the cells l, and nothing else. -/
def Row (w : World) (g : Nat) (l : List C) : Prop := Held w g 48 (cvs l).toArray
theorem Row.lt {w : World} {g : Nat} {l : List C} (h : Row w g l) : g < w.heap.size := Held.lt h
theorem Row.below {w w' : World} {g B : Nat} {l : List C} (h : Row w g l) (hb : Below B w w') (hg : g < B) : Row w' g l := Held.below h hb hg
theorem Row.alloc {w : World} {g : Nat} {l : List C} (h : Row w g l) (o : Obj) : Row (w.alloc o) g l := Held.alloc h o
theorem Row.cells {w : World} {g : Nat} {l : List C} (h : Row w g l) (k : Nat) (hk : k < l.length) : w.cell? ⟨g, k * 2, none⟩ = some (.int .i32 l[k].r) ∧ w.cell? ⟨g, k * 2 + 1, none⟩ = some (.int .i64 l[k].a) := by
  obtain ⟨h0, h1⟩ := cvs_at l k hk
  exact ⟨(Held.cell h _).trans (by simpa using h0), (Held.cell h _).trans (by simpa using h1)⟩
theorem Row.frozen {w : World} {g : Nat} {l : List C} (h : Row w g l) (o : Nat) : w.frozen? ⟨g, o, none⟩ = false := Held.frozen h o
theorem Row.set {w : World} {g : Nat} {l : List C} (h : Row w g l) (k : Nat) (c : C) : Row ((w.setCell ⟨g, k * 2, none⟩ (.int .i32 c.r)).setCell ⟨g, k * 2 + 1, none⟩ (.int .i64 c.a)) g (l.set k c) := by
  have := (Held.set1 h (k * 2) (.int .i32 c.r)).set1 (k * 2 + 1) (.int .i64 c.a)
  unfold Row
  rw [← cvs_set]
  simpa using this
theorem Row.setA {w : World} {g : Nat} {l : List C} (h : Row w g l) (k : Nat) (hk : k < l.length) (a : Int) : Row (w.setCell ⟨g, k * 2 + 1, none⟩ (.int .i64 a)) g (l.set k ⟨l[k].r, a⟩) := by
  have := Held.set1 h (k * 2 + 1) (.int .i64 a)
  unfold Row
  rw [← cvs_setA]
  simpa using this

/-- A slice that begins at D reads as the cells l. -/
def ReadC (w : World) (D : Option Addr) (l : List C) : Prop :=
  ∀ k (hk : k < l.length), ∃ b off : Nat, D = some ⟨b, off, none⟩ ∧ b < w.heap.size ∧ w.cell? ⟨b, off + k * 2, none⟩ = some (.int .i32 l[k].r) ∧ w.cell? ⟨b, off + k * 2 + 1, none⟩ = some (.int .i64 l[k].a)
theorem readC_nil (w : World) (D : Option Addr) : ReadC w D [] := fun k hk => by simp at hk
theorem ReadC.below {w w' : World} {B : Nat} {D : Option Addr} {l : List C} (h : ReadC w D l) (hb : Below B w w') (hB : w.heap.size ≤ B) : ReadC w' D l := fun k hk => by
  obtain ⟨b, off, e, h1, h2, h3⟩ := h k hk
  exact ⟨b, off, e, Nat.lt_of_lt_of_le h1 hb.size, (hb.cell (p := ⟨b, off + k * 2, none⟩) (Nat.lt_of_lt_of_le h1 hB)).trans h2, (hb.cell (p := ⟨b, off + k * 2 + 1, none⟩) (Nat.lt_of_lt_of_le h1 hB)).trans h3⟩
theorem ReadC.alloc {w : World} {D : Option Addr} {l : List C} (h : ReadC w D l) (o : Obj) : ReadC (w.alloc o) D l := h.below ((Below.refl _ _).alloc (Nat.le_refl _) _) (Nat.le_refl _)
theorem Row.read {w : World} {g : Nat} {l : List C} (h : Row w g l) : ReadC w (some ⟨g, 0, none⟩) l := fun k hk => by
  obtain ⟨h0, h1⟩ := h.cells k hk
  exact ⟨g, 0, rfl, h.lt, by rw [Nat.zero_add]; exact h0, by rw [Nat.zero_add]; exact h1⟩
/-- 'r[x:]'. -/
theorem ReadC.cut {w : World} {b off x cap : Nat} {l : List C} (h : ReadC w (some ⟨b, off, none⟩) l) (hl : l.length ≤ cap) :
    ReadC w (if cap = x then some ⟨b, off, none⟩ else some ⟨b, off + x * 2, none⟩) (l.drop x) := fun k hk => by
  have hk' : x + k < l.length := by rw [List.length_drop] at hk; omega
  obtain ⟨b', off', e, h1, h2, h3⟩ := h (x + k) hk'
  simp only [Option.some.injEq, Addr.mk.injEq, and_true] at e
  obtain ⟨rfl, rfl⟩ := e
  rw [if_neg (by omega)]
  have e0 : off + x * 2 + k * 2 = off + (x + k) * 2 := by omega
  refine ⟨b, off + x * 2, rfl, h1, ?_, ?_⟩
  · rw [e0, h2, List.getElem_drop]
  · rw [e0, h3, List.getElem_drop]
theorem read_flat {w : World} {D : Option Addr} {l : List C} (h : ReadC w D l) (h0 : 0 < l.length) : ∃ ad, D = some ad ∧ ∀ j v, (cvs l)[j]? = some v → w.cell? (ad.add j) = some v := by
  obtain ⟨b, off, rfl, _⟩ := h 0 h0
  refine ⟨_, rfl, fun j v hj => ?_⟩
  have hjl : j < l.length * 2 := by rw [← cvs_len]; exact (List.getElem?_eq_some_iff.1 hj).1
  have hadd : (⟨b, off, none⟩ : Addr).add j = ⟨b, off + j, none⟩ := by unfold Addr.add; split <;> simp_all
  obtain ⟨b', off', e, _, h2, h3⟩ := h (j / 2) (by omega)
  simp only [Option.some.injEq, Addr.mk.injEq, and_true] at e
  obtain ⟨rfl, rfl⟩ := e
  obtain ⟨q0, q1⟩ := cvs_at l (j / 2) (by omega)
  rw [hadd]
  rcases Nat.mod_two_eq_zero_or_one j with hm | hm
  · have ej : j / 2 * 2 = j := by omega
    rw [ej] at h2 q0
    rw [h2, ← q0, hj]
  · have ej : j / 2 * 2 + 1 = j := by omega
    rw [Nat.add_assoc, ej] at h3
    rw [ej] at q1
    rw [h3, ← q1, hj]
theorem ReadC.take {w : World} {D : Option Addr} {l : List C} (h : ReadC w D l) (n : Nat) : ReadC w D (l.take n) := fun k hk => by
  have hk' : k < l.length := by rw [List.length_take] at hk; omega
  obtain ⟨b, off, e, h1, h2, h3⟩ := h k hk'
  exact ⟨b, off, e, h1, by rw [h2, List.getElem_take], by rw [h3, List.getElem_take]⟩
end Go.Proofs.Ytpcpmeihebgncaa

/-
  What the builtin copy does to a row of cells of the call's own, from whatever row that reads as cells. Conditions: the row is known whole; the place lies within it.
-/
namespace Go.Proofs.Ytpcpmeihebgncaa
open Go.RowKit
set_option maxRecDepth 100000

section
variable {P : Program}

theorem run_copy_wide (w : World) (dT sT ty elem : TypeId) (sz g o dLen dCap : Nat) (a : Addr) (sLen sCap : Nat) (cur : Array Value) (t : TypeId) (cs : List Value)
    (hu : P.underlying dT = some (.slice elem)) (hs : (P.info? elem).map (·.size) = some sz)
    (hg : w.heap[g]? = some (.cells cur t (0, 0))) (hn : cs.length = Nat.min sLen dLen * sz)
    (hsrc : ∀ j v, cs[j]? = some v → w.cell? (a.add j) = some v) (hfit : o + cs.length ≤ cur.size) (h1 : ∀ v ∈ cs, v.oneCell' = true) :
    (Builtin.copy_ #[dT, sT] ty #[.slice (some ⟨g, o, none⟩) dLen dCap, .slice (some a) sLen sCap]).run P w =
      .ok (goInt (Nat.min sLen dLen)) (w.setRow g (cur.toList.take o ++ cs ++ cur.toList.drop (o + cs.length)).toArray) := by
  have hl := run_loadCells_list (P := P) w a cs hsrc
  have hst := run_storeCells_at P g o t cs 0 cur w hg (by simpa using hfit) h1
  rw [hn] at hl
  cases hq : P.info? elem with
  | none => simp [hq] at hs
  | some i =>
    have hi : i.size = sz := by simpa [hq] using hs
    simp [Builtin.copy_, run_underlying hu, Builtin.lenOf, Builtin.firstCells, sizeOf, typeInfo, hq, hi, hl, hst]

theorem run_copy_wide_none (w : World) (dT sT ty elem : TypeId) (sz : Nat) (d a : Option Addr) (dLen dCap sLen sCap : Nat) (hu : P.underlying dT = some (.slice elem)) (hs : (P.info? elem).map (·.size) = some sz) (hn : Nat.min sLen dLen = 0) :
    (Builtin.copy_ #[dT, sT] ty #[.slice d dLen dCap, .slice a sLen sCap]).run P w = .ok (goInt 0) w := by
  cases hq : P.info? elem with
  | none => simp [hq] at hs
  | some i =>
    have hl : ∀ (x : Addr), (loadCells x 0).run P w = .ok #[] w := fun x => by simpa using run_loadCells_list (P := P) w x [] (by simp)
    cases d <;> cases a <;> simp [Builtin.copy_, run_underlying hu, Builtin.lenOf, Builtin.firstCells, sizeOf, typeInfo, hq, hn, storeCells, hl]

/-- What a slice type of cells is. -/
def CellT (P : Program) : Prop := P.underlying 46 = some (.slice 48) ∧ (P.info? 48).map (·.size) = some 2

theorem run_copyC (hT : CellT P) (w : World) (ty : TypeId) (dp sp : Option Addr) (dLen dCap sCap : Nat) (g off : Nat) (L l : List C) (hg : Row w g L) (hr : ReadC w sp l)
    (hpos : 0 < dLen → 0 < l.length → dp = some ⟨g, off * 2, none⟩) (hfit : off + min l.length dLen ≤ L.length) :
    ∃ w', (Builtin.copy_ #[46, 46] ty #[.slice dp dLen dCap, .slice sp l.length sCap]).run P w = .ok (goInt (Nat.min l.length dLen)) w' ∧ Row w' g (splice L off (l.take dLen)) ∧
      ∀ B w0, Below B w0 w → B ≤ g → Below B w0 w' := by
  obtain ⟨hu, hs⟩ := hT
  by_cases h0 : Nat.min l.length dLen = 0
  · refine ⟨w, by rw [run_copy_wide_none (P := P) w 46 46 ty 48 2 dp sp dLen dCap l.length sCap hu hs h0, h0]; rfl, ?_, fun _ _ h _ => h⟩
    have e : l.take dLen = [] := List.eq_nil_of_length_eq_zero (by rw [List.length_take, Nat.min_comm]; exact h0)
    rw [e]
    simpa [splice] using hg
  · have hm : Nat.min l.length dLen = min l.length dLen := rfl
    obtain rfl := hpos (by omega) (by omega)
    have hlen : (l.take dLen).length = min l.length dLen := by rw [List.length_take, Nat.min_comm]
    obtain ⟨ad, rfl, hcell⟩ := read_flat (hr.take dLen) (by omega)
    have hcl : (cvs (l.take dLen)).length = Nat.min l.length dLen * 2 := by rw [cvs_len, hlen]
    refine ⟨_, run_copy_wide (P := P) w 46 46 ty 48 2 g (off * 2) dLen dCap ad l.length sCap (cvs L).toArray 48 (cvs (l.take dLen)) hu hs hg hcl hcell (by rw [hcl]; simp only [List.size_toArray, cvs_len]; omega) (cvs_one _), ?_, fun B w0 hb hB => below_setRow hb hB _⟩
    have := setRow_heap w g (cvs L).toArray (splice (cvs L) (off * 2) (cvs (l.take dLen))).toArray 48 (0, 0) hg
    unfold Row Held
    rw [← cvs_splice]
    simpa [splice] using this

theorem wp_copyC (hT : CellT P) {w : World} {o : Oper} {a : Act} {K : Act → World → Prop} {Q : Exit → Act → World → Prop} (d s : Operand)
    (ho : o.op = .call { callee := .builtin .copy, args := #[d, s], argTypes := #[46, 46] }) (dp sp : Option Addr) (dLen dCap sLen sCap : Nat) (hd : a.eval d = .slice dp dLen dCap) (hs : a.eval s = .slice sp sLen sCap)
    (g off : Nat) (L l : List C) (hg : Row w g L) (hr : ReadC w sp l) (hl : sLen = l.length)
    (hpos : 0 < dLen → 0 < l.length → dp = some ⟨g, off * 2, none⟩) (hfit : off + min l.length dLen ≤ L.length) (B : Nat) (w0 : World) (hb : Below B w0 w) (hBg : B ≤ g)
    (h : ∀ w', Hid (Row w' g (splice L off (l.take dLen))) → Below B w0 w' → K (a.put o.dst (goInt (Nat.min sLen dLen))) w') : o.wp P a w K Q := by
  subst hl
  obtain ⟨w', hrun, h1, h2⟩ := run_copyC hT w o.type dp sp dLen dCap sCap g off L l hg hr hpos hfit
  unfold Oper.wp execOp
  simp only [ho, resolve, invoke, builtin, Sem.run_bind, Sem.run_pure, Result.andThen_ok, List.map_toArray, List.map_cons, List.map_nil, hd, hs, hrun]
  exact h w' h1 (h2 B w0 hb hBg)

theorem wpList_copyC (hT : CellT P) {w : World} {ops : Array Oper} {rest : List Oper} {o : Oper} {a : Act} {Q : Exit → Act → World → Prop} (hgd : o.guard = none) (d s : Operand)
    (ho : o.op = .call { callee := .builtin .copy, args := #[d, s], argTypes := #[46, 46] }) (dp sp : Option Addr) (dLen dCap sLen sCap : Nat) (hd : a.eval d = .slice dp dLen dCap) (hs : a.eval s = .slice sp sLen sCap)
    (g off : Nat) (L l : List C) (hg : Row w g L) (hr : ReadC w sp l) (hl : sLen = l.length)
    (hpos : 0 < dLen → 0 < l.length → dp = some ⟨g, off * 2, none⟩) (hfit : off + min l.length dLen ≤ L.length) (B : Nat) (w0 : World) (hb : Below B w0 w) (hBg : B ≤ g)
    (h : ∀ w', Hid (Row w' g (splice L off (l.take dLen))) → Below B w0 w' → wpList P ops Q rest (a.put o.dst (goInt (Nat.min sLen dLen))) w') : wpList P ops Q (o :: rest) a w :=
  wpList_plain hgd fun _ hK => wp_copyC hT d s ho dp sp dLen dCap sLen sCap hd hs g off L l hg hr hl hpos hfit B w0 hb hBg fun w' h1 h2 => hK _ _ (h w' h1 h2)

theorem step_copyC (hT : CellT P) {ops : Array Oper} {o : Oper} {a : Act} {w : World} {K : Act → World → Prop} {Q : Exit → Act → World → Prop} {E : Prop} (hgd : o.guard = none) (d s : Operand)
    (ho : o.op = .call { callee := .builtin .copy, args := #[d, s], argTypes := #[46, 46] }) (dp sp : Option Addr) (dLen dCap sLen sCap : Nat) (hd : a.eval d = .slice dp dLen dCap) (hs : a.eval s = .slice sp sLen sCap)
    (g off : Nat) (L l : List C) (hg : Row w g L) (hr : ReadC w sp l) (hl : sLen = l.length)
    (hpos : 0 < dLen → 0 < l.length → dp = some ⟨g, off * 2, none⟩) (hfit : off + min l.length dLen ≤ L.length) (B : Nat) (w0 : World) (hb : Below B w0 w) (hBg : B ≤ g)
    (h : ∀ w', Hid (Row w' g (splice L off (l.take dLen))) → Below B w0 w' → K (a.put o.dst (goInt (Nat.min sLen dLen))) w') :
    if Region.wanted o (yielded ops a.tmps) = true then Oper.wp P o a w K Q else E := by
  rw [if_pos (by simp [Region.wanted, hgd])]
  exact wp_copyC hT d s ho dp sp dLen dCap sLen sCap hd hs g off L l hg hr hl hpos hfit B w0 hb hBg h
end
end Go.Proofs.Ytpcpmeihebgncaa

/-
  What the small functions answer: within of rows and of grid, blank, held, side; what make of a row of cells leaves. Conditions: at most a million cells.
-/
namespace Go.Proofs.Ytpcpmeihebgncaa
open Go.RowKit
set_option maxRecDepth 100000

theorem cellT : CellT Try.prog := ⟨Try.underlying46, by kernel_rfl⟩
theorem cell_info : (Try.prog.info? 48).map (fun i => (i.zero, i.size, i.bytes)) = some (some (.agg #[.int .i32 0, .int .i64 0]), 2, 16) := by kernel_rfl
theorem ret_i {a b : Int} (h : a = b) : Ending.returned (.int .i64 a) = .returned (.int .i64 b) := by rw [h]

set_option maxHeartbeats 400000 in
theorem within_any (n m : Int) (w : World) : Calls Try.prog 140 #[.int .i64 n, .int .i64 m] w fun e w' => e = .returned (.int .i64 (withinF n m)) ∧ w = w' := by
  go_enter Try.func140, Try.ntmps140
  go_wp2
  all_goals
    go_ret
    refine ⟨ret_i ?_, rfl⟩
    unfold withinF
    rename_i h1
    split at h1 <;> omega

def blankV : Value := .agg #[.int .i32 32, .int .i64 0]
def BlankPost (w : World) (e : Ending) (w' : World) : Prop := e = .returned blankV ∧ Below w.heap.size w w'
set_option maxHeartbeats 400000 in
theorem blank_any (w : World) : Calls Try.prog 141 #[] w (BlankPost w) := by
  go_enter Try.func141, Try.ntmps141
  go_wp2
  refine bodyPost_ret (v := blankV) (by simp [results, Try.results141, go_sem, blankV]) rfl ⟨rfl, ?_⟩
  exact (Below.refl _ _).alloc (Nat.le_refl _) _

/-- A row of the call's own comes back. -/
def RowPost (w : World) (l : List C) (e : Ending) (w' : World) : Prop := ∃ g, e = .returned (.slice (some ⟨g, 0, none⟩) l.length l.length) ∧ w.heap.size ≤ g ∧ Row w' g l ∧ Below w.heap.size w w'

/-- What make leaves, of n cells. -/
def zeros (n : Nat) : List C := List.replicate n ⟨0, 0⟩
theorem made_eq (n : Nat) : madeCells #[.int .i32 0, .int .i64 0] (n * 2) = (cvs (zeros n)).toArray := by
  apply Array.ext_getElem?
  intro i
  rcases Nat.lt_or_ge i (n * 2) with h | h
  · obtain ⟨q0, q1⟩ := cvs_at (zeros n) (i / 2) (by simp [zeros]; omega)
    have e : madeCells #[.int .i32 0, .int .i64 0] (n * 2) = (Array.range (n * 2)).map (#[Value.int .i32 0, .int .i64 0][· % 2]!) := rfl
    rw [e]
    rcases Nat.mod_two_eq_zero_or_one i with hm | hm
    · have ej : i / 2 * 2 = i := by omega
      rw [ej] at q0
      simpa [h, hm, zeros] using q0.symm
    · have ej : i / 2 * 2 + 1 = i := by omega
      rw [ej] at q1
      simpa [h, hm, zeros] using q1.symm
  · rw [Array.getElem?_eq_none (by rw [size_madeCells]; exact h), Array.getElem?_eq_none (by simp [cvs_len, zeros]; exact h)]

/-- The operation make, for the walk. -/
theorem run_makeC (w : World) (n : Nat) (hn : n ≤ 1000000) :
    (Instr.makeSlice 46 (.int .i64 n) (.int .i64 n)).run Try.prog w = .ok (.slice (some ⟨w.heap.size, 0, none⟩) n n) (w.alloc (.cells (cvs (zeros n)).toArray 48)) := by
  have hI := cell_info
  cases hi : Try.prog.info? 48 with
  | none => simp [hi] at hI
  | some i =>
    simp only [hi, Option.map_some, Option.some.injEq, Prod.mk.injEq] at hI
    obtain ⟨hz, hs, hb⟩ := hI
    have h := run_make (P := Try.prog) w 46 48 i _ Try.underlying46 hi hz .i64 .i64 n n (by omega) (Int.le_refl _) (by rw [hb]; omega) (by omega)
    rw [h, hs, Int.toNat_natCast]
    congr 3
    exact made_eq n


/-! ### numbers that are held -/
def heldF (n lo hi : Int) : Int := min (max n lo) hi
def sideF (n : Int) : Int := max 1 (min n 1000)
set_option maxHeartbeats 400000 in
theorem gwithin_any (n m : Int) (w : World) : Calls Try.prog 91 #[.int .i64 n, .int .i64 m] w fun e w' => e = .returned (.int .i64 (withinF n m)) ∧ w = w' := by
  go_enter Try.func91, Try.ntmps91
  go_wp2
  all_goals
    go_ret
    refine ⟨ret_i ?_, rfl⟩
    unfold withinF
    rename_i h1
    split at h1 <;> omega
set_option maxHeartbeats 400000 in
theorem held_any (n lo hi : Int) (w : World) : Calls Try.prog 47 #[.int .i64 n, .int .i64 lo, .int .i64 hi] w fun e w' => e = .returned (.int .i64 (heldF n lo hi)) ∧ w = w' := by
  go_enter Try.func47, Try.ntmps47
  go_wp2
  all_goals
    go_ret
    refine ⟨ret_i ?_, rfl⟩
    unfold heldF
    rename_i h1
    split at h1 <;> omega
set_option maxHeartbeats 400000 in
theorem side_any (n : Int) (w : World) : Calls Try.prog 87 #[.int .i64 n] w fun e w' => e = .returned (.int .i64 (sideF n)) ∧ w = w' := by
  go_enter Try.func87, Try.ntmps87
  go_wp2
  all_goals
    go_ret
    refine ⟨ret_i ?_, rfl⟩
    unfold sideF
    rename_i h1
    split at h1 <;> omega
end Go.Proofs.Ytpcpmeihebgncaa

/-
  What blanks, Blank and Fit of package rows answer. Conditions: rows of at most a thousand cells, no longer than their room.
-/
namespace Go.Proofs.Ytpcpmeihebgncaa
open Go.RowKit
set_option maxRecDepth 100000

theorem below_next {a w w1 : World} (h : Below a.heap.size a w) (h1 : Below w.heap.size w w1) : Below a.heap.size a w1 := h.trans (h1.mono h.size)
theorem below_set2 {a w : World} {B k : Nat} (h : Below B a w) (hk : B ≤ k) (i j : Nat) (x y : Value) : Below B a ((w.setCell ⟨k, i, none⟩ x).setCell ⟨k, j, none⟩ y) :=
  (h.setCell (p := ⟨k, i, none⟩) hk x).setCell (p := ⟨k, j, none⟩) hk y

/-- k blank ones, the others as made. -/
def part (n k : Nat) : List C := blanksF k ++ zeros (n - k)
theorem part_len (n k : Nat) (h : k ≤ n) : (part n k).length = n := by simp [part, blanksF, zeros]; omega
theorem part_next (n k : Nat) (h : k < n) : (part n k).set k C.blank = part n (k + 1) := by
  unfold part zeros
  obtain ⟨m, rfl⟩ : ∃ m, n = k + (m + 1) := ⟨n - k - 1, by omega⟩
  have e1 : k + (m + 1) - k = m + 1 := by omega
  have e2 : k + (m + 1) - (k + 1) = m := by omega
  rw [e1, e2, List.replicate_succ, List.set_append_right _ _ (by simp [blanksF]), blanksF_len, Nat.sub_self, List.set_cons_zero]
  simp [blanksF, List.replicate_succ']
def BlanksRel (w : World) (g n : Nat) (i : Value) (wr : World) : Prop := ∃ k : Nat, i = .int .i64 k ∧ k ≤ n ∧ Row wr g (part n k) ∧ Below w.heap.size w wr

set_option maxHeartbeats 400000 in
theorem blanks_any (n : Nat) (w : World) (hn : n ≤ 1000) : Calls Try.prog 139 #[.int .i64 n] w (RowPost w (blanksF n)) := by
  have hm := run_makeC w n (by omega)
  have hR : Row (w.alloc (.cells (cvs (zeros n)).toArray 48)) w.heap.size (zeros n) := Held.new _ _ _
  have HR := Lib.hid hR
  clear hR
  go_enter Try.func139, Try.ntmps139
  go_wp2_with fail
  go_loopw [9] (BlanksRel w w.heap.size n) (fun i _ => n - (intOf i).toNat)
  case atStart => exact ⟨0, rfl, Nat.zero_le _, HR.out, (Below.refl _ _).alloc (Nat.le_refl _) _⟩
  case round =>
    obtain ⟨k, rfl, hle, hrow, hb⟩ := hrel
    have hz := hrow.lt
    by_cases hlt : k < n
    · have hki : (k : Int) < (n : Int) := by omega
      have hpl := part_len n k hle
      go_wp2_with (
        go_at_call 141
        refine (blank_any _).mono ?_
        rintro e w1 ⟨rfl, hb1⟩
        unfold blankV
        have hrow1 := hrow.below hb1 hz
        obtain ⟨c0, c1⟩ := hrow1.cells k (by omega)
        have cf := hrow1.frozen)
      go_roundw
      case rel =>
        refine ⟨k + 1, by go_num, by omega, ?_, ?_⟩
        · rw [← part_next n k hlt]
          exact hrow1.set k C.blank
        · exact below_set2 (below_next hb hb1) (Nat.le_refl _) _ _ _ _
      case measure => simp [intOf]; omega
    · have ek : k = n := by omega
      subst ek
      go_wp2_with fail
      go_ret
      refine ⟨w.heap.size, ?_, Nat.le_refl _, ?_, hb⟩
      · rw [blanksF_len]
        rfl
      · have e : part k k = blanksF k := by simp [part, zeros]
        rw [← e]
        exact hrow

set_option maxHeartbeats 400000 in
theorem blankR_any (x : Int) (w : World) : Calls Try.prog 128 #[.int .i64 x] w (RowPost w (blankF x)) := by
  obtain ⟨h0, h1⟩ : 0 ≤ withinF x 1000 ∧ withinF x 1000 ≤ 1000 := by unfold withinF; omega
  obtain ⟨n, hn⟩ : ∃ n : Nat, withinF x 1000 = n := ⟨(withinF x 1000).toNat, by omega⟩
  have hC : Hid (∀ w, Calls Try.prog 140 #[.int .i64 x, .int .i64 1000] w fun e w' => e = .returned (.int .i64 n) ∧ w = w') := fun w => by rw [← hn]; exact within_any x 1000 w
  have hB : Hid (∀ w, Calls Try.prog 139 #[.int .i64 n] w (RowPost w (blankF x))) := fun w => by
    unfold blankF
    rw [hn, Int.toNat_natCast]
    exact blanks_any n w (by omega)
  clear hn h0 h1
  obtain ⟨l, hl⟩ : ∃ l, l = blankF x := ⟨_, rfl⟩
  rw [← hl] at hB ⊢
  clear hl
  go_enter Try.func128, Try.ntmps128
  go_wp2_with (first
    | (go_at_call 140; refine (hC.out _).mono ?_; rintro e w' ⟨rfl, rfl⟩)
    | (go_at_call 139; refine (hB.out _).mono ?_; rintro e w1 ⟨g, rfl, hg, hrow, hb⟩))
  go_ret
  exact ⟨g, rfl, hg, hrow, hb⟩

set_option maxHeartbeats 400000 in
theorem fit_any (D : Option Addr) (c : Nat) (l : List C) (x : Int) (w : World) (hr : ReadC w D l) : Calls Try.prog 127 #[.slice D l.length c, .int .i64 x] w (RowPost w (fitF l x)) := by
  have hB := Lib.hid (fun w => blankR_any x w)
  have hlen := blankF_len x
  have HE : Hid (fitF l x = splice (blankF x) 0 (l.take (blankF x).length)) := by
    show _ = _
    rw [hlen]
    rfl
  have HF : Hid ((fitF l x).length = (blankF x).length) := by
    show _ = _
    rw [hlen, fitF_len]
  have HR := Lib.hid hr
  clear hr hlen
  obtain ⟨q, hq⟩ : ∃ q, q = blankF x := ⟨_, rfl⟩
  rw [← hq] at hB HE HF
  clear hq
  go_enter Try.func127, Try.ntmps127
  go_wp2_with (first
    | (go_at_call 128; refine (hB.out _).mono ?_; rintro e w1 ⟨g, rfl, hg, hrow, hb⟩; have hr1 := HR.out.below hb (Nat.le_refl _))
    | (with_reducible refine wpList_copyC cellT rfl (.tmp 8) (.tmp 9) rfl _ _ _ _ _ _ rfl rfl g 0 q l hrow hr1 rfl (fun _ _ => rfl) (by omega) w.heap.size w hb hg ?_
       intro w2 hg2 hb2))
  go_ret
  refine ⟨g, ?_, hg, ?_, hb2⟩
  · rw [HF.out]
    rfl
  · rw [HE.out]
    exact hg2.out

end Go.Proofs.Ytpcpmeihebgncaa

/-
  How rows of cells, and lines of such rows, lie in memory: at or above a block, none of it frozen; what of it stays when the world goes on. Nothing of the program is walked here. No condition.
-/
namespace Go.Proofs.Ytpcpmeihebgncaa
open Go.RowKit
set_option maxRecDepth 100000

/-- Nothing in block b is frozen. -/
def Free (w : World) (b : Nat) : Prop := ∀ o, w.frozen? ⟨b, o, none⟩ = false
theorem Free.below {w w' : World} {b C : Nat} (h : Free w b) (hb : Below C w w') (hC : b < C) : Free w' b := fun o => (hb.frozen (p := ⟨b, o, none⟩) hC).trans (h o)
theorem Held.free {w : World} {g : Nat} {t : TypeId} {cs : Array Value} (h : Held w g t cs) : Free w g := fun o => h.frozen o

/-- A slice that begins at D reads as the cells l. -/
def RowAt (B : Nat) (w : World) (D : Option Addr) (l : List C) : Prop :=
  ∀ k (hk : k < l.length), ∃ b off : Nat, D = some ⟨b, off, none⟩ ∧ B ≤ b ∧ b < w.heap.size ∧ Free w b ∧ w.cell? ⟨b, off + k * 2, none⟩ = some (.int .i32 l[k].r) ∧ w.cell? ⟨b, off + k * 2 + 1, none⟩ = some (.int .i64 l[k].a)
theorem RowAt.nil (B : Nat) (w : World) (D : Option Addr) : RowAt B w D [] := fun k hk => by simp at hk
theorem RowAt.read {B : Nat} {w : World} {D : Option Addr} {l : List C} (h : RowAt B w D l) : ReadC w D l := fun k hk => by
  obtain ⟨b, off, e, _, h1, _, h2, h3⟩ := h k hk
  exact ⟨b, off, e, h1, h2, h3⟩
theorem RowAt.below {B C : Nat} {w w' : World} {D : Option Addr} {l : List Ytpcpmeihebgncaa.C} (h : RowAt B w D l) (hb : Below C w w') (hC : w.heap.size ≤ C) : RowAt B w' D l := fun k hk => by
  obtain ⟨b, off, e, h0, h1, hf, h2, h3⟩ := h k hk
  have hl := Nat.lt_of_lt_of_le h1 hC
  exact ⟨b, off, e, h0, Nat.lt_of_lt_of_le h1 hb.size, hf.below hb hl, (hb.cell (p := ⟨b, off + k * 2, none⟩) hl).trans h2, (hb.cell (p := ⟨b, off + k * 2 + 1, none⟩) hl).trans h3⟩
theorem RowAt.weak {B A : Nat} {w : World} {D : Option Addr} {l : List C} (h : RowAt B w D l) (hA : A ≤ B) : RowAt A w D l := fun k hk => by
  obtain ⟨b, off, e, h0, r⟩ := h k hk
  exact ⟨b, off, e, Nat.le_trans hA h0, r⟩
theorem Row.at {B : Nat} {w : World} {g : Nat} {l : List C} (h : Row w g l) (hg : B ≤ g) : RowAt B w (some ⟨g, 0, none⟩) l := fun k hk => by
  obtain ⟨h0, h1⟩ := h.cells k hk
  exact ⟨g, 0, rfl, hg, h.lt, Held.free h, by rw [Nat.zero_add]; exact h0, by rw [Nat.zero_add]; exact h1⟩

/-- The slice value v reads as the cells l. -/
def RowV (B : Nat) (w : World) (v : Value) (l : List C) : Prop := ∃ D c, v = .slice D l.length c ∧ l.length ≤ c ∧ RowAt B w D l
theorem RowV.below {B C : Nat} {w w' : World} {v : Value} {l : List Ytpcpmeihebgncaa.C} (h : RowV B w v l) (hb : Below C w w') (hC : w.heap.size ≤ C) : RowV B w' v l := by
  obtain ⟨D, c, e, h1, h2⟩ := h
  exact ⟨D, c, e, h1, h2.below hb hC⟩
theorem RowV.weak {B A : Nat} {w : World} {v : Value} {l : List C} (h : RowV B w v l) (hA : A ≤ B) : RowV A w v l := by
  obtain ⟨D, c, e, h1, h2⟩ := h
  exact ⟨D, c, e, h1, h2.weak hA⟩

/-- A slice that begins at D has the elements vs, each of one of memory's cells. -/
def TabAt (B : Nat) (w : World) (D : Option Addr) (vs : List Value) : Prop :=
  ∀ k (hk : k < vs.length), ∃ b off : Nat, D = some ⟨b, off, none⟩ ∧ B ≤ b ∧ b < w.heap.size ∧ Free w b ∧ w.cell? ⟨b, off + k, none⟩ = some vs[k]
theorem TabAt.nil (B : Nat) (w : World) (D : Option Addr) : TabAt B w D [] := fun k hk => by simp at hk
theorem TabAt.below {B C : Nat} {w w' : World} {D : Option Addr} {vs : List Value} (h : TabAt B w D vs) (hb : Below C w w') (hC : w.heap.size ≤ C) : TabAt B w' D vs := fun k hk => by
  obtain ⟨b, off, e, h0, h1, hf, h2⟩ := h k hk
  have hl := Nat.lt_of_lt_of_le h1 hC
  exact ⟨b, off, e, h0, Nat.lt_of_lt_of_le h1 hb.size, hf.below hb hl, (hb.cell (p := ⟨b, off + k, none⟩) hl).trans h2⟩
theorem TabAt.weak {B A : Nat} {w : World} {D : Option Addr} {vs : List Value} (h : TabAt B w D vs) (hA : A ≤ B) : TabAt A w D vs := fun k hk => by
  obtain ⟨b, off, e, h0, r⟩ := h k hk
  exact ⟨b, off, e, Nat.le_trans hA h0, r⟩
theorem TabAt.take {B : Nat} {w : World} {D : Option Addr} {vs : List Value} (h : TabAt B w D vs) (n : Nat) : TabAt B w D (vs.take n) := fun k hk => by
  have hk' : k < vs.length := by rw [List.length_take] at hk; omega
  obtain ⟨b, off, e, h0, h1, hf, h2⟩ := h k hk'
  exact ⟨b, off, e, h0, h1, hf, by rw [h2, List.getElem_take]⟩
/-- 'x[lo:]' and 'x[lo:hi]'. -/
theorem TabAt.cut {B : Nat} {w : World} {b off lo cap : Nat} {vs : List Value} (h : TabAt B w (some ⟨b, off, none⟩) vs) (hl : vs.length ≤ cap) :
    TabAt B w (if cap = lo then some ⟨b, off, none⟩ else some ⟨b, off + lo, none⟩) (vs.drop lo) := fun k hk => by
  have hk' : lo + k < vs.length := by rw [List.length_drop] at hk; omega
  obtain ⟨b', off', e, h0, h1, hf, h2⟩ := h (lo + k) hk'
  simp only [Option.some.injEq, Addr.mk.injEq, and_true] at e
  obtain ⟨rfl, rfl⟩ := e
  rw [if_neg (by omega)]
  exact ⟨b, off + lo, rfl, h0, h1, hf, by rw [Nat.add_assoc, h2, List.getElem_drop]⟩
theorem Held.tab {B : Nat} {w : World} {g : Nat} {t : TypeId} {vs : List Value} (h : Held w g t vs.toArray) (hg : B ≤ g) : TabAt B w (some ⟨g, 0, none⟩) vs := fun k hk =>
  ⟨g, 0, rfl, hg, h.lt, h.free, by rw [Nat.zero_add, h.cell k]; simp [hk]⟩

/-- The values vs read as the lines L, one by one. -/
def RowsV (B : Nat) (w : World) (vs : List Value) (L : List (List C)) : Prop := vs.length = L.length ∧ ∀ k (h : k < vs.length) (h' : k < L.length), RowV B w vs[k] L[k]
theorem RowsV.nil (B : Nat) (w : World) : RowsV B w [] [] := ⟨rfl, fun k h => by simp at h⟩
theorem RowsV.below {B C : Nat} {w w' : World} {vs : List Value} {L : List (List Ytpcpmeihebgncaa.C)} (h : RowsV B w vs L) (hb : Below C w w') (hC : w.heap.size ≤ C) : RowsV B w' vs L := ⟨h.1, fun k h1 h2 => (h.2 k h1 h2).below hb hC⟩
theorem RowsV.weak {B A : Nat} {w : World} {vs : List Value} {L : List (List C)} (h : RowsV B w vs L) (hA : A ≤ B) : RowsV A w vs L := ⟨h.1, fun k h1 h2 => (h.2 k h1 h2).weak hA⟩
theorem RowsV.take {B : Nat} {w : World} {vs : List Value} {L : List (List C)} (h : RowsV B w vs L) (n : Nat) : RowsV B w (vs.take n) (L.take n) := by
  refine ⟨by simp [h.1], fun k h1 h2 => ?_⟩
  rw [List.getElem_take, List.getElem_take]
  exact h.2 k _ _
theorem RowsV.drop {B : Nat} {w : World} {vs : List Value} {L : List (List C)} (h : RowsV B w vs L) (n : Nat) : RowsV B w (vs.drop n) (L.drop n) := by
  refine ⟨by simp [h.1], fun k h1 h2 => ?_⟩
  rw [List.getElem_drop, List.getElem_drop]
  exact h.2 _ _ _
theorem RowsV.append {B : Nat} {w : World} {vs us : List Value} {L M : List (List C)} (h : RowsV B w vs L) (h' : RowsV B w us M) : RowsV B w (vs ++ us) (L ++ M) := by
  refine ⟨by simp [h.1, h'.1], fun k h1 h2 => ?_⟩
  have e := h.1
  rw [List.getElem_append, List.getElem_append]
  by_cases hk : k < vs.length
  · rw [dif_pos hk, dif_pos (by omega)]
    exact h.2 _ _ _
  · rw [dif_neg hk, dif_neg (by omega)]
    have := h'.2 (k - vs.length) (by simp at h1; omega) (by simp at h2; omega)
    simp only [e] at this ⊢
    exact this
theorem RowsV.one {B : Nat} {w : World} {v : Value} {l : List C} (h : RowV B w v l) : RowsV B w [v] [l] := by
  refine ⟨rfl, fun k h1 _ => ?_⟩
  have : k = 0 := by simp at h1; omega
  subst this
  exact h

theorem RowsV.one_cell {B : Nat} {w : World} {vs : List Value} {L : List (List C)} (h : RowsV B w vs L) : ∀ y ∈ vs, y.oneCell' = true := by
  intro y hy
  obtain ⟨k, hk, rfl⟩ := List.getElem_of_mem hy
  obtain ⟨D, c, e, _⟩ := h.2 k hk (by rw [← h.1]; exact hk)
  rw [e]
  rfl
/-- A slice that begins at D reads as the lines L. -/
def Lines (B : Nat) (w : World) (D : Option Addr) (L : List (List C)) : Prop := ∃ vs, TabAt B w D vs ∧ RowsV B w vs L
theorem Lines.below {B C : Nat} {w w' : World} {D : Option Addr} {L : List (List Ytpcpmeihebgncaa.C)} (h : Lines B w D L) (hb : Below C w w') (hC : w.heap.size ≤ C) : Lines B w' D L := by
  obtain ⟨vs, h1, h2⟩ := h
  exact ⟨vs, h1.below hb hC, h2.below hb hC⟩
theorem Lines.weak {B A : Nat} {w : World} {D : Option Addr} {L : List (List C)} (h : Lines B w D L) (hA : A ≤ B) : Lines A w D L := by
  obtain ⟨vs, h1, h2⟩ := h
  exact ⟨vs, h1.weak hA, h2.weak hA⟩
theorem Lines.nil (B : Nat) (w : World) (D : Option Addr) : Lines B w D [] := ⟨[], TabAt.nil _ _ _, RowsV.nil _ _⟩
/-- Line k. -/
theorem Lines.at {B : Nat} {w : World} {D : Option Addr} {L : List (List C)} (h : Lines B w D L) (k : Nat) (hk : k < L.length) :
    ∃ (b off : Nat) (E : Option Addr) (c : Nat), D = some ⟨b, off, none⟩ ∧ B ≤ b ∧ b < w.heap.size ∧ Free w b ∧ w.cell? ⟨b, off + k, none⟩ = some (.slice E L[k].length c) ∧ L[k].length ≤ c ∧ RowAt B w E L[k] := by
  obtain ⟨vs, h1, h2⟩ := h
  have hv : k < vs.length := by rw [h2.1]; exact hk
  obtain ⟨b, off, e, h3, h4, h5, h6⟩ := h1 k hv
  obtain ⟨E, c, e', h7, h8⟩ := h2.2 k hv hk
  exact ⟨b, off, E, c, e, h3, h4, h5, by rw [h6, e'], h7, h8⟩

/-! ### what is stored below them -/
theorem Free.set {w : World} {b : Nat} (h : Free w b) (p : Addr) (x : Value) : Free (w.setCell p x) b := fun o => by simpa using h o
theorem cell_far {w : World} {b o : Nat} {p : Addr} (hb : b ≠ p.block) (x : Value) : (w.setCell p x).cell? ⟨b, o, none⟩ = w.cell? ⟨b, o, none⟩ := World.cell?_setCell_other _ _ _ _ (by rintro rfl; exact hb rfl)
theorem RowAt.far {B : Nat} {w : World} {D : Option Addr} {l : List C} (h : RowAt B w D l) {p : Addr} (hp : p.block < B) (x : Value) : RowAt B (w.setCell p x) D l := fun k hk => by
  obtain ⟨b, off, e, h0, h1, hf, h2, h3⟩ := h k hk
  exact ⟨b, off, e, h0, by simpa using h1, hf.set _ _, (cell_far (by omega) x).trans h2, (cell_far (by omega) x).trans h3⟩
theorem RowV.far {B : Nat} {w : World} {v : Value} {l : List C} (h : RowV B w v l) {p : Addr} (hp : p.block < B) (x : Value) : RowV B (w.setCell p x) v l := by
  obtain ⟨D, c, e, h1, h2⟩ := h
  exact ⟨D, c, e, h1, h2.far hp x⟩
theorem TabAt.far {B : Nat} {w : World} {D : Option Addr} {vs : List Value} (h : TabAt B w D vs) {p : Addr} (hp : p.block < B) (x : Value) : TabAt B (w.setCell p x) D vs := fun k hk => by
  obtain ⟨b, off, e, h0, h1, hf, h2⟩ := h k hk
  exact ⟨b, off, e, h0, by simpa using h1, hf.set _ _, (cell_far (by omega) x).trans h2⟩
theorem Lines.far {B : Nat} {w : World} {D : Option Addr} {L : List (List C)} (h : Lines B w D L) {p : Addr} (hp : p.block < B) (x : Value) : Lines B (w.setCell p x) D L := by
  obtain ⟨vs, h1, h2⟩ := h
  exact ⟨vs, h1.far hp x, h2.1, fun k a b => (h2.2 k a b).far hp x⟩

/-! ### rows of the call's own -/
theorem own_tab {B : Nat} {w : World} {e : TypeId} {v : Value} {n : Nat} {vs : List Value} (h : w.ownsRow B e 1 v n vs) : ∃ D c, v = .slice D vs.length c ∧ vs.length ≤ c ∧ TabAt B w D vs := by
  have hl : vs.length = n := by have := h.1; omega
  rcases h.2 with ⟨rfl, rfl⟩ | ⟨g, cap, cur, rfl, hg, hh, hcap, hmax, hsz, htk⟩
  · have : vs = [] := List.eq_nil_of_length_eq_zero hl
    subst this
    exact ⟨none, 0, rfl, Nat.le_refl _, TabAt.nil _ _ _⟩
  · refine ⟨some ⟨g, 0, none⟩, cap, by rw [hl], by omega, fun k hk => ⟨g, 0, rfl, hg, (Array.getElem?_eq_some_iff.1 hh).1, fun o => frozen_of_row w g o cur e hh, ?_⟩⟩
    rw [Nat.zero_add]
    exact (World.ownsRow.cellAt h k (by omega)).trans (by simp [hk])
theorem own_row {B : Nat} {w : World} {e : TypeId} {v : Value} {n : Nat} {l : List C} (h : w.ownsRow B e 2 v n (cvs l)) : RowV B w v l := by
  have hl : l.length = n := by have := h.1; rw [cvs_len] at this; omega
  rcases h.2 with ⟨rfl, rfl⟩ | ⟨g, cap, cur, rfl, hg, hh, hcap, hmax, hsz, htk⟩
  · have : l = [] := List.eq_nil_of_length_eq_zero hl
    subst this
    exact ⟨none, 0, rfl, Nat.le_refl _, RowAt.nil _ _ _⟩
  · refine ⟨some ⟨g, 0, none⟩, cap, by rw [hl], by omega, fun k hk => ?_⟩
    obtain ⟨q0, q1⟩ := cvs_at l k hk
    refine ⟨g, 0, rfl, hg, (Array.getElem?_eq_some_iff.1 hh).1, fun o => frozen_of_row w g o cur e hh, ?_, ?_⟩
    · rw [Nat.zero_add]
      exact (World.ownsRow.cellAt h _ (by omega)).trans q0
    · rw [Nat.zero_add]
      exact (World.ownsRow.cellAt h _ (by omega)).trans q1
end Go.Proofs.Ytpcpmeihebgncaa

/-
  What append leaves of a row of the call's own and whatever slice that reads as values; what make leaves of a table of rows. Conditions: at most a million elements together.
-/
namespace Go.Proofs.Ytpcpmeihebgncaa
open Go.RowKit
set_option maxRecDepth 100000

/-- A slice type of elements that take sz cells and at most forty bytes. -/
def RowT (P : Program) (t e : TypeId) (sz : Nat) : Prop :=
  P.underlying t = some (.slice e) ∧ ∃ (i : TypeInfo) (z : Value), P.info? e = some i ∧ i.zero = some z ∧ i.size = sz ∧ i.bytes ≤ 40 ∧ z.cells.size = sz ∧ 0 < sz
theorem rowT_mk {P : Program} {t e : TypeId} {z : Value} {b sz : Nat} (hu : P.underlying t = some (.slice e))
    (hi : (P.info? e).map (fun i => (i.zero, i.size, i.bytes)) = some (some z, sz, b)) (hb : b ≤ 40) (hz : z.cells.size = sz) (h0 : 0 < sz) : RowT P t e sz := by
  cases hh : P.info? e with
  | none => simp [hh] at hi
  | some i =>
    simp only [hh, Option.map_some, Option.some.injEq, Prod.mk.injEq] at hi
    exact ⟨hu, i, z, hh, hi.1, hi.2.1, by omega, hz, h0⟩

/-- A slice that begins at D has the cells vs, in memory's own cells. -/
def Src (w : World) (D : Option Addr) (vs : List Value) : Prop := (D = none → vs = []) ∧ ∀ a, D = some a → ∀ j u, vs[j]? = some u → w.cell? (a.add j) = some u
theorem TabAt.src {B : Nat} {w : World} {D : Option Addr} {vs : List Value} (h : TabAt B w D vs) : Src w D vs := by
  refine ⟨?_, ?_⟩
  · rintro rfl
    cases vs with
    | nil => rfl
    | cons v vs => obtain ⟨b, off, e, _⟩ := h 0 (by simp); cases e
  · rintro a rfl j u hj
    have hk := (List.getElem?_eq_some_iff.1 hj).1
    obtain ⟨b, off, e, _, _, _, h2⟩ := h j hk
    cases e
    rw [Addr.add_lit, h2, ← hj, List.getElem?_eq_getElem hk]
theorem RowAt.src {B : Nat} {w : World} {D : Option Addr} {l : List C} (h : RowAt B w D l) : Src w D (cvs l) := by
  refine ⟨?_, ?_⟩
  · rintro rfl
    cases l with
    | nil => rfl
    | cons v vs => obtain ⟨b, off, e, _⟩ := h 0 (by simp); cases e
  · rintro a rfl j u hj
    have hk := (List.getElem?_eq_some_iff.1 hj).1
    rw [cvs_len] at hk
    obtain ⟨ad, e, hc⟩ := read_flat h.read (by omega)
    cases e
    exact hc j u hj

/-- What an append leaves: the new value's row, and all else as it was. -/
structure Appended (w w' : World) (base : Nat) (e : TypeId) (sz : Nat) (v' : Value) (n : Nat) (xs : List Value) : Prop where
  own : w'.ownsRow base e sz v' n xs
  below : Below base w w'
  held : ∀ g t cs, t ≠ e → Held w g t cs → Held w' g t cs

section
variable {P : Program} {sz : Nat} (w : World)
theorem run_append_src {t ty e : TypeId} {base n m c : Nat} {v : Value} {D : Option Addr} {xs ys : List Value} (hT : RowT P t e sz)
    (hv : w.ownsRow base e sz v n xs) (hu : Src w D ys) (hm : ys.length = m * sz) (h1 : ∀ y ∈ ys, y.oneCell' = true) (hn : n + m ≤ 1000000) (hb : base ≤ w.heap.size) :
    ∃ v' w', (Builtin.append_ #[t, t] ty #[v, .slice D m c]).run P w = .ok v' w' ∧ Appended w w' base e sz v' (n + m) (xs ++ ys) := by
  obtain ⟨ht, i, z, hi, hz, hs, hby, hzs, hpos⟩ := hT
  cases D with
  | none =>
    obtain rfl := hu.1 rfl
    obtain rfl : m = 0 := by
      rcases Nat.eq_zero_or_pos m with h | h
      · exact h
      · have := Nat.mul_pos h hpos
        simp at hm
        omega
    refine ⟨v, w, ?_, by simpa using hv, Below.refl _ _, fun _ _ _ _ h => h⟩
    rcases hv.2 with ⟨rfl, rfl⟩ | ⟨g, cap, cur, rfl, _, _, hnc, _⟩
    · simp [Builtin.append_, run_underlying ht, sizeOf, typeInfo, hi, Builtin.lenOf, Builtin.firstCells]
    · simp [Builtin.append_, run_underlying ht, sizeOf, typeInfo, hi, Builtin.lenOf, Builtin.firstCells, hnc, storeCells]
  | some a =>
    have hbb : (n + m) * i.bytes ≤ 140737488355328 := Nat.le_trans (Nat.mul_le_mul hn hby) (by decide)
    obtain ⟨v', w', hr, ho, hg, _, _⟩ := run_append_own_at (P := P) w base t ty e i z sz i.bytes ht hi hz hs rfl hzs hpos v n xs hv a m c ys hm (hu.2 a rfl) h1 (by simp only [maxLen]; omega) hbb hb
    refine ⟨v', w', hr, ho, (Below.refl _ _).grown hg hb fun k hk => (hv.lt k hk).1, fun q t2 cs hne hq => ?_⟩
    refine (hg.block q hq.lt ?_).trans hq
    intro e1
    rcases hv.2 with ⟨rfl, _⟩ | ⟨g, cap, cur, rfl, _, hh, _⟩
    · cases e1
    · simp only [Value.ownBlock, Option.some.injEq] at e1
      subst e1
      unfold Held at hq
      rw [hh] at hq
      injection hq with hq
      injection hq with _ hq
      exact hne hq.symm

theorem wp_append_src {o : Oper} {a : Act} {K : Act → World → Prop} {Q : Exit → Act → World → Prop} (s x : Operand) (t : TypeId)
    (ho : o.op = .call { callee := .builtin .append, args := #[s, x], argTypes := #[t, t] }) {e : TypeId} (hT : RowT P t e sz)
    (base n m c : Nat) (v : Value) (D : Option Addr) (xs ys : List Value) (hs : a.eval s = v) (hx : a.eval x = .slice D m c)
    (hv : w.ownsRow base e sz v n xs) (hu : Src w D ys) (hm : ys.length = m * sz) (h1 : ∀ y ∈ ys, y.oneCell' = true) (hn : n + m ≤ 1000000) (hb : base ≤ w.heap.size)
    (h : ∀ v' w', Appended w w' base e sz v' (n + m) (xs ++ ys) → K (a.put o.dst v') w') : o.wp P a w K Q := by
  obtain ⟨v', w', hr, h2⟩ := run_append_src (P := P) (ty := o.type) (c := c) w hT hv hu hm h1 hn hb
  unfold Oper.wp execOp
  simp only [ho, resolve, invoke, builtin, Sem.run_bind, Sem.run_pure, Result.andThen_ok, List.map_toArray, List.map_cons, List.map_nil, hs, hx, hr]
  exact h v' w' h2
theorem wpList_append_src {ops : Array Oper} {rest : List Oper} {o : Oper} {a : Act} {Q : Exit → Act → World → Prop} (hgd : o.guard = none) (s x : Operand) (t : TypeId)
    (ho : o.op = .call { callee := .builtin .append, args := #[s, x], argTypes := #[t, t] }) {e : TypeId} (hT : RowT P t e sz)
    (base n m c : Nat) (v : Value) (D : Option Addr) (xs ys : List Value) (hs : a.eval s = v) (hx : a.eval x = .slice D m c)
    (hv : w.ownsRow base e sz v n xs) (hu : Src w D ys) (hm : ys.length = m * sz) (h1 : ∀ y ∈ ys, y.oneCell' = true) (hn : n + m ≤ 1000000) (hb : base ≤ w.heap.size)
    (h : ∀ v' w', Appended w w' base e sz v' (n + m) (xs ++ ys) → wpList P ops Q rest (a.put o.dst v') w') : wpList P ops Q (o :: rest) a w :=
  wpList_plain hgd fun _ hK => wp_append_src w s x t ho hT base n m c v D xs ys hs hx hv hu hm h1 hn hb fun v' w' h2 => hK _ _ (h v' w' h2)
theorem step_append_src {ops : Array Oper} {o : Oper} {a : Act} {K : Act → World → Prop} {Q : Exit → Act → World → Prop} {E : Prop} (hgd : o.guard = none) (s x : Operand) (t : TypeId)
    (ho : o.op = .call { callee := .builtin .append, args := #[s, x], argTypes := #[t, t] }) {e : TypeId} (hT : RowT P t e sz)
    (base n m c : Nat) (v : Value) (D : Option Addr) (xs ys : List Value) (hs : a.eval s = v) (hx : a.eval x = .slice D m c)
    (hv : w.ownsRow base e sz v n xs) (hu : Src w D ys) (hm : ys.length = m * sz) (h1 : ∀ y ∈ ys, y.oneCell' = true) (hn : n + m ≤ 1000000) (hb : base ≤ w.heap.size)
    (h : ∀ v' w', Appended w w' base e sz v' (n + m) (xs ++ ys) → K (a.put o.dst v') w') :
    if Region.wanted o (yielded ops a.tmps) = true then Oper.wp P o a w K Q else E := by
  rw [if_pos (by simp [Region.wanted, hgd])]
  exact wp_append_src w s x t ho hT base n m c v D xs ys hs hx hv hu hm h1 hn hb h
end

theorem rowC : RowT Try.prog 46 48 2 := rowT_mk Try.underlying46 cell_info (by decide) rfl (by decide)
theorem line_info : (Try.prog.info? 46).map (fun i => (i.zero, i.size, i.bytes)) = some (some (.slice none 0 0), 1, 24) := by kernel_rfl
theorem rowL : RowT Try.prog 33 46 1 := rowT_mk Try.underlying33 line_info (by decide) rfl (by decide)

/-- A row that was just laid is the call's own. -/
theorem own_new (w : World) (e : TypeId) (sz n : Nat) (xs : List Value) (hl : xs.length = n * sz) (hn : n ≤ 1000000) : (w.alloc (.cells xs.toArray e)).ownsRow w.heap.size e sz (.slice (some ⟨w.heap.size, 0, none⟩) n n) n xs :=
  ⟨hl, .inr ⟨w.heap.size, n, xs.toArray, rfl, Nat.le_refl _, heap_alloc_new w _, Nat.le_refl _, by unfold maxLen; omega, by simpa using hl, by rw [← hl]; simp⟩⟩

theorem own_below {w w' : World} {B C : Nat} {e : TypeId} {v : Value} {sz n : Nat} {xs : List Value} (h : w.ownsRow B e sz v n xs) (hb : Below C w w') (hC : w.heap.size ≤ C) : w'.ownsRow B e sz v n xs := by
  refine ⟨h.1, ?_⟩
  rcases h.2 with hn | ⟨g, cap, cur, rfl, hg, hh, rest⟩
  · exact .inl hn
  · refine .inr ⟨g, cap, cur, rfl, hg, ?_, rest⟩
    rw [hb.block g (Nat.lt_of_lt_of_le (Array.getElem?_eq_some_iff.1 hh).1 hC)]
    exact hh
theorem own_far {w : World} {B : Nat} {e : TypeId} {v : Value} {sz n : Nat} {xs : List Value} (h : w.ownsRow B e sz v n xs) {p : Addr} (hp : p.block < B) (u : Value) : (w.setCell p u).ownsRow B e sz v n xs := by
  refine ⟨h.1, ?_⟩
  rcases h.2 with hn | ⟨g, cap, cur, rfl, hg, hh, rest⟩
  · exact .inl hn
  · refine .inr ⟨g, cap, cur, rfl, hg, ?_, rest⟩
    rw [Below.heap_setCell w p u g (by omega)]
    exact hh

/-- make of a table of n lines. -/
theorem made_one (z : Value) (n : Nat) : madeCells #[z] n = (List.replicate n z).toArray := by
  apply Array.ext_getElem?
  intro i
  have e : madeCells #[z] n = (Array.range n).map (#[z][· % 1]!) := rfl
  rw [e]
  rcases Nat.lt_or_ge i n with h | h
  · simp [h, Nat.mod_one]
  · simp [h]
theorem run_makeL (w : World) (n : Nat) (hn : n ≤ 1000000) :
    (Instr.makeSlice 33 (.int .i64 n) (.int .i64 n)).run Try.prog w = .ok (.slice (some ⟨w.heap.size, 0, none⟩) n n) (w.alloc (.cells (List.replicate n (Value.slice none 0 0)).toArray 46)) := by
  have hI := line_info
  cases hi : Try.prog.info? 46 with
  | none => simp [hi] at hI
  | some i =>
    simp only [hi, Option.map_some, Option.some.injEq, Prod.mk.injEq] at hI
    obtain ⟨hz, hs, hb⟩ := hI
    have h := run_make (P := Try.prog) w 33 46 i _ Try.underlying33 hi hz .i64 .i64 n n (by omega) (Int.le_refl _) (by rw [hb]; omega) (by omega)
    rw [h, hs, Int.toNat_natCast, Nat.mul_one]
    congr 3
    exact made_one _ n
end Go.Proofs.Ytpcpmeihebgncaa

/-
  What slices.Clone of a row answers, and what own, fitted and blanks of package grid answer. Conditions: rows of at most a thousand cells, tables of at most a thousand and fifty lines.
-/
namespace Go.Proofs.Ytpcpmeihebgncaa
open Go.RowKit
set_option maxRecDepth 100000

/-- A row of the call's own comes back. -/
def VPost (w : World) (l : List C) (e : Ending) (w' : World) : Prop := ∃ D c, e = .returned (.slice D l.length c) ∧ l.length ≤ c ∧ RowAt w.heap.size w' D l ∧ Below w.heap.size w w'
theorem RowPost.v {w : World} {l : List C} {e : Ending} {w' : World} (h : RowPost w l e w') : VPost w l e w' := by
  obtain ⟨g, rfl, hg, hr, hb⟩ := h
  exact ⟨some ⟨g, 0, none⟩, _, rfl, Nat.le_refl _, hr.at hg, hb⟩

set_option maxHeartbeats 400000 in
theorem clone_any (D : Option Addr) (c : Nat) (l : List C) (w : World) (hr : RowAt 0 w D l) (hn : l.length ≤ 1000) : Calls Try.prog 95 #[.slice D l.length c] w (VPost w l) := by
  cases D with
  | none =>
    obtain rfl : l = [] := by
      cases l with
      | nil => rfl
      | cons v vs => obtain ⟨b, off, e, _⟩ := hr 0 (by simp); cases e
    clear hr
    have q := fun (w : World) (a : Option Addr) (n c n' c' : Nat) => Lib.run_eql_slice_nil (P := Try.prog) w 46 48 a n c n' c' Try.underlying46
    go_enter Try.func95, Try.ntmps95
    go_wp2
    go_ret
    exact ⟨none, 0, rfl, Nat.le_refl _, RowAt.nil _ _ _, Below.refl _ _⟩
  | some a =>
    have hs := (hr.below ((Below.refl w.heap.size w).alloc (Nat.le_refl _) (.cells #[] 48)) (Nat.le_refl _)).src
    have ho := own_new w 48 2 0 [] rfl (by decide)
    have HS := Lib.hid hs
    have HO := Lib.hid ho
    clear hs ho hr
    have HL := Lib.hid (cvs_len l)
    have q := fun (w : World) (a : Option Addr) (n c n' c' : Nat) => Lib.run_eql_slice_nil (P := Try.prog) w 46 48 a n c n' c' Try.underlying46
    go_enter Try.func95, Try.ntmps95
    go_wp2_with (
      at_builtin
      refine wpList_append_src _ rfl (.tmp 5) (.tmp 6) 46 rfl rowC w.heap.size 0 l.length c _ (some a) [] (cvs l) rfl rfl HO.out HS.out HL.out (cvs_one l) (by omega) (by simp) ?_
      rintro v1 w1 ⟨ho1, hb1, _⟩)
    go_ret
    obtain ⟨D', c', rfl, h1, h2⟩ := own_row ho1
    exact ⟨D', c', rfl, h1, h2, ((Below.refl _ _).alloc (Nat.le_refl _) _).trans hb1⟩

/-! ### tables that are filled line by line -/
def nilV : Value := .slice none 0 0
/-- The first lines are there, the others are nil. -/
def fillV (vs : List Value) (n : Nat) : List Value := vs ++ List.replicate (n - vs.length) nilV
theorem fillV_len (vs : List Value) (n : Nat) (h : vs.length ≤ n) : (fillV vs n).length = n := by simp [fillV]; omega
theorem fillV_next (vs : List Value) (n : Nat) (v : Value) (h : vs.length < n) : (fillV vs n).set vs.length v = fillV (vs ++ [v]) n := by
  unfold fillV
  obtain ⟨m, hm⟩ : ∃ m, n - vs.length = m + 1 := ⟨n - vs.length - 1, by omega⟩
  have hm2 : n - (vs ++ [v]).length = m := by simp; omega
  rw [hm, hm2, List.set_append_right _ _ (Nat.le_refl _), Nat.sub_self, List.replicate_succ, List.set_cons_zero]
  simp
theorem fillV_cell {w : World} {g : Nat} {vs : List Value} {n : Nat} (h : Held w g 46 (fillV vs n).toArray) (hl : vs.length < n) : w.cell? ⟨g, vs.length, none⟩ = some nilV := by
  rw [h.cell]
  have hr : 0 < n - vs.length := by omega
  simp [fillV, hr]
theorem fillV_set {w : World} {g : Nat} {vs : List Value} {n : Nat} (h : Held w g 46 (fillV vs n).toArray) (hl : vs.length < n) (v : Value) : Held (w.setCell ⟨g, vs.length, none⟩ v) g 46 (fillV (vs ++ [v]) n).toArray := by
  rw [← fillV_next vs n v hl]
  simpa using h.set1 vs.length v

/-- The table in block g holds the first lines of M. -/
structure FillSt (w : World) (g : Nat) (M : List (List C)) (vs : List Value) (wr : World) : Prop where
  le : vs.length ≤ M.length
  table : Held wr g 46 (fillV vs M.length).toArray
  rows : RowsV w.heap.size wr vs (M.take vs.length)
  below : Below w.heap.size w wr
def FillRel (w : World) (g : Nat) (M : List (List C)) (i : Value) (wr : World) : Prop := ∃ vs, i = .int .i64 (vs.length : Int) ∧ FillSt w g M vs wr

/-- Lines of the call's own come back. -/
def LinesPost (w : World) (M : List (List C)) (e : Ending) (w' : World) : Prop := ∃ g, e = .returned (.slice (some ⟨g, 0, none⟩) M.length M.length) ∧ Lines w.heap.size w' (some ⟨g, 0, none⟩) M ∧ Below w.heap.size w w'
theorem FillSt.start (w : World) (M : List (List C)) : FillSt w w.heap.size M [] (w.alloc (.cells (List.replicate M.length (Value.slice none 0 0)).toArray 46)) :=
  ⟨Nat.zero_le _, Held.new _ _ _, RowsV.nil _ _, (Below.refl _ _).alloc (Nat.le_refl _) _⟩
theorem setCell_below (w : World) (g i : Nat) (v : Value) : Below g w (w.setCell ⟨g, i, none⟩ v) := (Below.refl g w).setCell (p := ⟨g, i, none⟩) (Nat.le_refl _) v
/-- A row that lies in other blocks than g. -/
theorem RowV.set {B : Nat} {w : World} {v : Value} {l : List C} (h : RowV B w v l) (p : Addr) (u x : Value) (hp : w.cell? p = some u) (hu : ∀ k n, u ≠ .int k n) : RowV B (w.setCell p x) v l := by
  obtain ⟨D, c, e, h1, h2⟩ := h
  refine ⟨D, c, e, h1, fun k hk => ?_⟩
  obtain ⟨b, off, e', h0, h3, hf, h4, h5⟩ := h2 k hk
  refine ⟨b, off, e', h0, by simpa using h3, fun o => by simpa using hf o, ?_, ?_⟩
  · rw [World.cell?_setCell_other _ _ _ _ (by rintro rfl; rw [h4] at hp; cases hp; exact hu _ _ rfl)]
    exact h4
  · rw [World.cell?_setCell_other _ _ _ _ (by rintro rfl; rw [h5] at hp; cases hp; exact hu _ _ rfl)]
    exact h5
theorem FillSt.next {w wr w1 : World} {g : Nat} {M : List (List C)} {vs : List Value} (h : FillSt w g M vs wr) (hg : w.heap.size ≤ g) (hb : Below wr.heap.size wr w1) (hk : vs.length < M.length) {v : Value} (hv : RowV wr.heap.size w1 v M[vs.length]) :
    FillSt w g M (vs ++ [v]) (w1.setCell ⟨g, vs.length, none⟩ v) := by
  have ht := h.table.below hb h.table.lt
  have hc := fillV_cell ht hk
  refine ⟨by simp; omega, fillV_set ht hk v, ?_, (below_next h.below hb).setCell (p := ⟨g, vs.length, none⟩) hg v⟩
  have h1 : RowsV w.heap.size w1 (vs ++ [v]) (M.take (vs ++ [v]).length) := by
    have e : M.take (vs ++ [v]).length = M.take vs.length ++ [M[vs.length]] := by simp
    rw [e]
    exact (h.rows.below hb (Nat.le_refl _)).append (RowsV.one (hv.weak h.below.size))
  exact ⟨h1.1, fun k a b => (h1.2 k a b).set _ nilV v hc (by intro _ _ e; cases e)⟩
theorem FillSt.post {w wr : World} {g : Nat} {M : List (List C)} {vs : List Value} (h : FillSt w g M vs wr) (hg : w.heap.size ≤ g) (hk : vs.length = M.length) : LinesPost w M (.returned (.slice (some ⟨g, 0, none⟩) M.length M.length)) wr := by
  refine ⟨g, rfl, ⟨vs, ?_, ?_⟩, h.below⟩
  · have := h.table
    rw [fillV, hk, Nat.sub_self, List.replicate_zero, List.append_nil] at this
    exact this.tab hg
  · have := h.rows
    rw [hk, List.take_length] at this
    exact this

set_option maxHeartbeats 400000 in
theorem own_any (D : Option Addr) (c : Nat) (M : List (List C)) (w : World) (hr : Lines 0 w D M) (hn : M.length ≤ 1050) (hl : ∀ r ∈ M, r.length ≤ 1000) : Calls Try.prog 92 #[.slice D M.length c] w (LinesPost w M) := by
  have hm := run_makeL w M.length (by omega)
  have HS := Lib.hid (FillSt.start w M)
  have HR := Lib.hid hr
  clear hr
  go_enter Try.func92, Try.ntmps92
  go_wp2_with fail
  go_loopw [11] (FillRel w w.heap.size M) (fun i _ => M.length - (intOf i).toNat)
  case atStart => exact ⟨[], rfl, HS.out⟩
  case round =>
    obtain ⟨vs, rfl, hst⟩ := hrel
    by_cases hlt : vs.length < M.length
    · have hki : (vs.length : Int) < (M.length : Int) := by omega
      obtain ⟨b, off, E, ce, rfl, _, hbl, _, hcell, hce, hrow⟩ := (HR.out.below hst.below (Nat.le_refl _)).at vs.length hlt
      have hrn : M[vs.length].length ≤ 1000 := hl _ (List.getElem_mem _)
      have HROW := Lib.hid hrow
      clear hrow
      have HCL := Lib.hid (clone_any E ce M[vs.length] wr HROW.out hrn)
      have HST := Lib.hid hst
      have hfl := fillV_cell hst.table hlt
      have hgl := hst.table.lt
      have hfz := hst.table.frozen
      clear hst hrn
      generalize hq : M[vs.length] = q at *
      have HQ := Lib.hid hq
      clear hq
      go_wp2_with (
        go_at_call 95
        refine HCL.out.mono ?_
        rintro e w1 ⟨D1, c1, rfl, hc1, hr1, hb1⟩
        have hfl1 := (fillV_cell (HST.out.table.below hb1 hgl) hlt)
        have hfz1 := (HST.out.table.below hb1 hgl).frozen)
      go_roundw
      case rel =>
        refine ⟨vs ++ [.slice D1 q.length c1], by simp, HST.out.next (Nat.le_refl _) hb1 hlt ⟨D1, c1, ?_, ?_, ?_⟩⟩
        · rw [HQ.out]
        · rw [HQ.out]; exact hc1
        · rw [HQ.out]; exact hr1
      case measure => simp [intOf]; omega
    · have ek : vs.length = M.length := by have := hst.le; omega
      have hki : ¬ (vs.length : Int) < (M.length : Int) := by omega
      have HP := Lib.hid (hst.post (Nat.le_refl _) ek)
      clear hst ek
      go_wp2_with fail
      go_ret
      exact HP.out

theorem own_own (B n : Nat) (v : Value) (vs : List Value) (M : List (List C)) (w : World) (h : w.ownsRow B 46 1 v n vs) (hr : RowsV 0 w vs M) (hn : M.length ≤ 1050) (hl : ∀ r ∈ M, r.length ≤ 1000) : Calls Try.prog 92 #[v] w (LinesPost w M) := by
  obtain ⟨D, c, rfl, _, ht⟩ := own_tab h
  rw [hr.1]
  exact own_any D c M w ⟨vs, ht.weak (Nat.zero_le _), hr⟩ hn hl

def fittedF (L : List (List C)) (x : Int) (h : Nat) : List (List C) := (List.range h).map fun y => if hy : y < L.length then fitF L[y] x else blankF x
theorem fittedF_len (L : List (List C)) (x : Int) (h : Nat) : (fittedF L x h).length = h := by simp [fittedF]
theorem fittedF_in (L : List (List C)) (x : Int) (h y : Nat) (hy : y < (fittedF L x h).length) (hl : y < L.length) : (fittedF L x h)[y] = fitF L[y] x := by simp [fittedF, hl]
theorem fittedF_out (L : List (List C)) (x : Int) (h y : Nat) (hy : y < (fittedF L x h).length) (hl : ¬ y < L.length) : (fittedF L x h)[y] = blankF x := by simp [fittedF, hl]

set_option maxHeartbeats 400000 in
theorem fitted_any (D : Option Addr) (c : Nat) (L : List (List C)) (x : Int) (h : Nat) (w : World) (hr : Lines 0 w D L) (hn : h ≤ 1050) : Calls Try.prog 90 #[.slice D L.length c, .int .i64 x, .int .i64 h] w (LinesPost w (fittedF L x h)) := by
  have hm := run_makeL w h (by omega)
  have hS := FillSt.start w (fittedF L x h)
  have HF := Lib.hid (fittedF_in L x h)
  have HO := Lib.hid (fittedF_out L x h)
  have hlen := fittedF_len L x h
  obtain ⟨M, hM⟩ : ∃ M, M = fittedF L x h := ⟨_, rfl⟩
  rw [← hM] at hS HF HO hlen ⊢
  clear hM
  subst hlen
  have HS := Lib.hid hS
  have HR := Lib.hid hr
  clear hr hS
  go_enter Try.func90, Try.ntmps90
  go_wp2_with fail
  go_loopw [13] (FillRel w w.heap.size M) (fun i _ => M.length - (intOf i).toNat)
  case atStart => exact ⟨[], rfl, HS.out⟩
  case round =>
    obtain ⟨vs, rfl, hst⟩ := hrel
    by_cases hlt : vs.length < M.length
    · have hki : (vs.length : Int) < (M.length : Int) := by omega
      have HST := Lib.hid hst
      have hgl := hst.table.lt
      have hfl := fillV_cell hst.table hlt
      have hfz := hst.table.frozen
      by_cases hL : vs.length < L.length
      · have hLi : (vs.length : Int) < (L.length : Int) := by omega
        obtain ⟨b, off, E, ce, rfl, _, hbl, _, hcell, hce, hrow⟩ := (HR.out.below hst.below (Nat.le_refl _)).at vs.length hL
        have HROW := Lib.hid hrow.read
        have HCL := Lib.hid (fit_any E ce L[vs.length] x wr HROW.out)
        have HQ := Lib.hid (HF.out vs.length hlt hL)
        clear hst hrow HROW
        generalize L[vs.length] = q at *
        generalize fitF q x = r at *
        go_wp2_with (
          go_at_call 127
          refine HCL.out.mono ?_
          rintro e w1 hp1
          obtain ⟨D1, c1, rfl, hc1, hr1, hb1⟩ := hp1.v
          have hfl1 := (fillV_cell (HST.out.table.below hb1 hgl) hlt)
          have hfz1 := (HST.out.table.below hb1 hgl).frozen)
        go_roundw
        case rel =>
          refine ⟨vs ++ [.slice D1 r.length c1], by simp, HST.out.next (Nat.le_refl _) hb1 hlt ⟨D1, c1, ?_, ?_, ?_⟩⟩
          · rw [HQ.out]
          · rw [HQ.out]; exact hc1
          · rw [HQ.out]; exact hr1
        case measure => simp [intOf]; omega
      · have hLi : ¬ (vs.length : Int) < (L.length : Int) := by omega
        have HCL := Lib.hid (blankR_any x wr)
        have HQ := Lib.hid (HO.out vs.length hlt hL)
        clear hst
        generalize blankF x = r at *
        go_wp2_with (
          go_at_call 128
          refine HCL.out.mono ?_
          rintro e w1 hp1
          obtain ⟨D1, c1, rfl, hc1, hr1, hb1⟩ := hp1.v
          have hfl1 := (fillV_cell (HST.out.table.below hb1 hgl) hlt)
          have hfz1 := (HST.out.table.below hb1 hgl).frozen)
        go_roundw
        case rel =>
          refine ⟨vs ++ [.slice D1 r.length c1], by simp, HST.out.next (Nat.le_refl _) hb1 hlt ⟨D1, c1, ?_, ?_, ?_⟩⟩
          · rw [HQ.out]
          · rw [HQ.out]; exact hc1
          · rw [HQ.out]; exact hr1
        case measure => simp [intOf]; omega
    · have ek : vs.length = M.length := by have := hst.le; omega
      have hki : ¬ (vs.length : Int) < (M.length : Int) := by omega
      have HP := Lib.hid (hst.post (Nat.le_refl _) ek)
      clear hst ek
      go_wp2_with fail
      go_ret
      exact HP.out
end Go.Proofs.Ytpcpmeihebgncaa

/-
  What own, isPlace and Put of package rows answer. Conditions: a row has at most a thousand cells.
-/
namespace Go.Proofs.Ytpcpmeihebgncaa
open Go.RowKit
set_option maxRecDepth 100000

set_option maxHeartbeats 400000 in
theorem place_yes (D : Option Addr) (n c : Nat) (x : Int) (w : World) (h0 : 0 ≤ x) (h1 : x < n) : Calls Try.prog 98 #[.slice D n c, .int .i64 x] w fun e w' => e = .returned (.bool true) ∧ w = w' := by
  go_enter Try.func98, Try.ntmps98
  go_wp2
  go_ret
  exact ⟨rfl, rfl⟩
set_option maxHeartbeats 400000 in
theorem place_no (D : Option Addr) (n c : Nat) (x : Int) (w : World) (h0 : ¬ (0 ≤ x ∧ x < n)) : Calls Try.prog 98 #[.slice D n c, .int .i64 x] w fun e w' => e = .returned (.bool false) ∧ w = w' := by
  by_cases h1 : 0 ≤ x
  · have h2 : ¬ x < n := fun h => h0 ⟨h1, h⟩
    clear h0
    go_enter Try.func98, Try.ntmps98
    go_wp2
    go_ret
    exact ⟨rfl, rfl⟩
  · clear h0
    go_enter Try.func98, Try.ntmps98
    go_wp2
    go_ret
    exact ⟨rfl, rfl⟩
set_option maxHeartbeats 400000 in
theorem rown_any (D : Option Addr) (c : Nat) (l : List C) (w : World) (hr : ReadC w D l) (hn : l.length ≤ 1000) : Calls Try.prog 97 #[.slice D l.length c] w (RowPost w l) := by
  have hm := run_makeC w l.length (by omega)
  have hR : Row (w.alloc (.cells (cvs (zeros l.length)).toArray 48)) w.heap.size (zeros l.length) := Held.new _ _ _
  have hr1 := hr.alloc (.cells (cvs (zeros l.length)).toArray 48)
  have hb1 : Below w.heap.size w (w.alloc (.cells (cvs (zeros l.length)).toArray 48)) := (Below.refl _ _).alloc (Nat.le_refl _) _
  have hz : (zeros l.length).length = l.length := by simp [zeros]
  have HZ := Lib.hid hz
  clear hz
  go_enter Try.func97, Try.ntmps97
  go_wp2_with (
    with_reducible refine wpList_copyC cellT rfl (.tmp 7) (.tmp 8) rfl _ _ _ _ _ _ rfl rfl w.heap.size 0 (zeros l.length) l hR hr1 rfl (fun _ _ => rfl) (by rw [HZ.out]; omega) w.heap.size w hb1 (Nat.le_refl _) ?_
    intro w2 hg2 hb2)
  go_ret
  refine ⟨w.heap.size, rfl, Nat.le_refl _, ?_, hb2⟩
  have e : splice (zeros l.length) 0 (l.take l.length) = l := by simp [splice, zeros]
  rw [← e]
  exact hg2.out
set_option maxHeartbeats 400000 in
theorem put_any (D : Option Addr) (cp : Nat) (l : List C) (x : Int) (c : C) (w : World) (hr : ReadC w D l) (hn : l.length ≤ 1000) : Calls Try.prog 53 #[.slice D l.length cp, .int .i64 x, .agg #[.int .i32 c.r, .int .i64 c.a]] w (RowPost w (putF l x c)) := by
  have hO := Lib.hid (fun w hr => rown_any D cp l w hr hn)
  have HR := Lib.hid hr
  clear hr
  by_cases hp : 0 ≤ x ∧ x < l.length
  · obtain ⟨h0, h1⟩ := hp
    have e : putF l x c = l.set x.toNat c := by unfold putF; rw [if_pos (place_iff.2 ⟨h0, h1⟩)]
    rw [e]
    clear e
    obtain ⟨k, rfl⟩ : ∃ k : Nat, x = k := ⟨x.toNat, by omega⟩
    have hk : k < l.length := by omega
    rw [Int.toNat_natCast]
    go_enter Try.func53, Try.ntmps53
    go_wp2_with (first
      | (go_at_call 97
         refine (hO.out _ (HR.out.alloc _)).mono ?_
         rintro e w1 ⟨g, rfl, hg, hrow, hb⟩
         have hbox := (Held.new w 48 #[.int .i32 c.r, .int .i64 c.a]).below hb (by simp)
         have hx0 := hbox.cell 0
         have hx1 := hbox.cell 1
         obtain ⟨c0, c1⟩ := hrow.cells k hk
         have cf := hrow.frozen)
      | (go_at_call 98; refine (place_yes _ _ _ _ _ h0 h1).mono ?_; rintro e w' ⟨rfl, rfl⟩))
    go_ret
    refine ⟨g, ?_, by have := hg; simp at this; omega, hrow.set k c, below_set2 (((Below.refl _ _).alloc (Nat.le_refl _) _).trans (hb.mono (by simp))) (by have := hg; simp at this; omega) _ _ _ _⟩
    rw [List.length_set]
    rfl
  · have e : putF l x c = l := by unfold putF; rw [if_neg (fun h => hp (place_iff.1 h))]
    rw [e]
    clear e
    have HP := Lib.hid (fun w => place_no D l.length cp x w hp)
    clear hp
    go_enter Try.func53, Try.ntmps53
    go_wp2_with (first
      | (go_at_call 97
         refine (hO.out _ (HR.out.alloc _)).mono ?_
         rintro e w1 ⟨g, rfl, hg, hrow, hb⟩)
      | (go_at_call 98; refine (HP.out _).mono ?_; rintro e w' ⟨rfl, rfl⟩))
    go_ret
    exact ⟨g, rfl, by have := hg; simp at this; omega, hrow, ((Below.refl _ _).alloc (Nat.le_refl _) _).trans (hb.mono (by simp))⟩
end Go.Proofs.Ytpcpmeihebgncaa

/-
  What Clear of package rows answers. Conditions: a row of at most a thousand cells.
-/
namespace Go.Proofs.Ytpcpmeihebgncaa
open Go.RowKit
set_option maxRecDepth 100000

theorem clear_none (l : List C) (a b : Nat) (h : b ≤ a) : clearN l a b = l := by
  apply List.ext_getElem
  · simp [clearN]
  · intro i h1 h2
    simp only [clearN, List.getElem_mapIdx]
    rw [if_neg (by omega)]
theorem clear_next (l : List C) (a k : Nat) (h : a ≤ k) : (clearN l a k).set k C.blank = clearN l a (k + 1) := by
  apply List.ext_getElem
  · simp [clearN]
  · intro i h1 h2
    simp only [clearN, List.getElem_set, List.getElem_mapIdx]
    by_cases e : k = i
    · rw [if_pos e, if_pos (by omega)]
    · rw [if_neg e]
      by_cases c : a ≤ i ∧ i < k
      · rw [if_pos c, if_pos (by omega)]
      · rw [if_neg c, if_neg (by omega)]

def ClearRel (w : World) (g : Nat) (l : List C) (a b : Nat) (i : Value) (wr : World) : Prop := ∃ k : Nat, i = .int .i64 k ∧ a ≤ k ∧ (k ≤ b ∨ k = a) ∧ Row wr g (clearN l a k) ∧ Below w.heap.size w wr

set_option maxHeartbeats 400000 in
theorem clear_any (D : Option Addr) (cp : Nat) (l : List C) (x y : Int) (w : World) (hr : ReadC w D l) (hn : l.length ≤ 1000) : Calls Try.prog 112 #[.slice D l.length cp, .int .i64 x, .int .i64 y] w (RowPost w (clearF l x y)) := by
  have hO := Lib.hid (rown_any D cp l w hr hn)
  clear hr
  obtain ⟨x0, x1⟩ := within_nat x l.length
  obtain ⟨y0, y1⟩ := within_nat y l.length
  obtain ⟨a, ha⟩ : ∃ a : Nat, withinF x l.length = a := ⟨(withinF x l.length).toNat, by omega⟩
  obtain ⟨b, hb⟩ : ∃ b : Nat, withinF y l.length = b := ⟨(withinF y l.length).toNat, by omega⟩
  have hA : Hid (∀ w, Calls Try.prog 140 #[.int .i64 x, .int .i64 l.length] w fun e w' => e = .returned (.int .i64 a) ∧ w = w') := fun w => by rw [← ha]; exact within_any x l.length w
  have hB : Hid (∀ w, Calls Try.prog 140 #[.int .i64 y, .int .i64 l.length] w fun e w' => e = .returned (.int .i64 b) ∧ w = w') := fun w => by rw [← hb]; exact within_any y l.length w
  have e : clearF l x y = clearN l a b := by unfold clearF; rw [ha, hb]; rfl
  rw [e]
  rw [ha] at x1
  rw [hb] at y1
  have hal : a ≤ l.length := by omega
  have hbl : b ≤ l.length := by omega
  clear e ha hb x0 y0 x1 y1
  have H0 : Hid (clearN l a a = l) := clear_none l a a (Nat.le_refl _)
  go_enter Try.func112, Try.ntmps112
  go_wp2_with (first
    | (go_at_call 97; refine hO.out.mono ?_; rintro e w1 ⟨g, rfl, hg, hrow, hb1⟩)
    | (go_at_call 140; refine (hA.out _).mono ?_; rintro e w' ⟨rfl, rfl⟩))
  go_loopw [8] (ClearRel w g l a b) (fun i _ => b - (intOf i).toNat)
  case atStart => exact ⟨a, rfl, Nat.le_refl _, .inr rfl, by rw [H0.out]; exact hrow, hb1⟩
  case round =>
    obtain ⟨k, rfl, hak, hkb, hrow2, hb2⟩ := hrel
    have hz := hrow2.lt
    by_cases hlt : k < b
    · have hki : (k : Int) < (b : Int) := by omega
      have hcl := clearN_len l a k
      have hkl : k < l.length := by omega
      go_wp2_with (first
        | (go_at_call 140; refine (hB.out _).mono ?_; rintro e w' ⟨rfl, rfl⟩)
        | (go_at_call 141
           refine (blank_any _).mono ?_
           rintro e w3 ⟨rfl, hb3⟩
           unfold blankV
           have hrow3 := hrow2.below hb3 hz
           obtain ⟨c0, c1⟩ := hrow3.cells k (by omega)
           have cf := hrow3.frozen))
      go_roundw
      case rel =>
        refine ⟨k + 1, by go_num, by omega, by omega, ?_, ?_⟩
        · rw [← clear_next l a k hak]
          exact hrow3.set k C.blank
        · exact below_set2 (below_next hb2 hb3) hg _ _ _ _
      case measure => simp [intOf]; omega
    · have hki : ¬ (k : Int) < (b : Int) := by omega
      have e : clearN l a k = clearN l a b := by
        rcases hkb with h | h
        · rw [show k = b by omega]
        · subst h
          rw [clear_none _ _ _ (Nat.le_refl _), clear_none _ _ _ (by omega)]
      have he : (clearN l a b).length = l.length := clearN_len _ _ _
      have HE := Lib.hid e
      have HL := Lib.hid he
      clear e he
      go_wp2_with (go_at_call 140; refine (hB.out _).mono ?_; rintro e w' ⟨rfl, rfl⟩)
      go_ret
      refine ⟨g, ?_, hg, ?_, hb2⟩
      · rw [HL.out]
        rfl
      · rw [← HE.out]
        exact hrow2
end Go.Proofs.Ytpcpmeihebgncaa

/-
  What Insert and Delete of package rows answer. Conditions: a row of at most a thousand cells that is no longer than its room.
-/
namespace Go.Proofs.Ytpcpmeihebgncaa
open Go.RowKit
set_option maxRecDepth 100000

set_option maxHeartbeats 1000000 in
theorem insert_yes (D : Option Addr) (cp : Nat) (l : List C) (x : Nat) (n : Int) (w : World) (hr : ReadC w D l) (hc : l.length ≤ cp) (hn : l.length ≤ 1000) (hx : x < l.length) :
    Calls Try.prog 108 #[.slice D l.length cp, .int .i64 x, .int .i64 n] w (RowPost w (insertN l x (withinF n (l.length - x)).toNat)) := by
  obtain ⟨b0, o0, rfl, _⟩ := hr x hx
  obtain ⟨k, hk⟩ : ∃ k : Nat, withinF n (l.length - x) = k := ⟨(withinF n (l.length - x)).toNat, by unfold withinF; omega⟩
  have hkl : x + k ≤ l.length := by have : withinF n (l.length - x) ≤ l.length - x := by unfold withinF; omega
                                    omega
  have hK : Hid (∀ w, Calls Try.prog 140 #[.int .i64 n, .int .i64 (l.length - x)] w fun e w' => e = .returned (.int .i64 k) ∧ w = w') := fun w => by rw [← hk]; exact within_any n _ w
  have hB := Lib.hid (fun w => blanks_any l.length w hn)
  rw [hk, Int.toNat_natCast]
  clear hk
  have HR := Lib.hid hr
  clear hr
  have HL : Hid ((insertN l x k).length = l.length) := insertN_len l x k hkl
  have hxi : (x : Int) < (l.length : Int) := by omega
  have hcx : ¬ cp = x := by omega
  go_enter Try.func108, Try.ntmps108
  go_wp2_with (first
    | (go_at_call 98; refine (place_yes _ _ _ _ _ (by omega) hxi).mono ?_; rintro e w' ⟨rfl, rfl⟩)
    | (go_at_call 139; refine (hB.out _).mono ?_; rintro e w1 ⟨g, rfl, hg, hrow, hb1⟩; have hq := blanksF_len l.length; have hr1 := HR.out.below hb1 (Nat.le_refl _))
    | (with_reducible refine wpList_copyC cellT rfl (.tmp 19) (.tmp 20) rfl _ _ _ _ _ _ rfl rfl g 0 _ l hrow hr1 rfl (fun _ _ => rfl) (by omega) w.heap.size w hb1 hg ?_
       intro w2 hg2 hb2))
  have s1 : IntKind.i64.wrap ((l.length : Int) - x) = (l.length : Int) - x := IntWalk.i64_in _ (by omega)
  have s2 : IntKind.i64.wrap ((x : Int) + k) = (x : Int) + k := IntWalk.i64_in _ (by omega)
  have t1 : (0 : Int) ≤ (x : Int) + k := by omega
  have t2 : ((x : Int) + k).toNat = x + k := by omega
  have t3 : (x : Int) + k ≤ (l.length : Int) := by omega
  have t4 : x ≤ l.length := by omega
  go_still_tail 13, (by kernel_rfl)
  still_call ((hK.out _).mono fun _ _ ⟨h1, h2⟩ => ⟨h1, h2.symm⟩)
  repeat still_step
  refine wpStill_nil ?_
  change wpList _ _ _ _ _ w2.drew
  have hr2 : ReadC w2.drew (some ⟨b0, o0 + x * 2, none⟩) (l.drop x) := by
    have := (HR.out.below hb2 (Nat.le_refl _)).cut (x := x) hc
    rw [if_neg hcx] at this
    exact this
  have hrow2 : Row w2.drew g (splice (blanksF l.length) 0 (l.take x)) := hg2.out
  have hb3 : Below w.heap.size w w2.drew := below_drewN hb2 1
  have hsl : (splice (blanksF l.length) 0 (l.take x)).length = l.length := by rw [length_splice _ _ _ (by rw [blanksF_len, List.length_take]; omega), blanksF_len]
  have hdl : (l.drop x).length = l.length - x := by simp
  have hE : 0 < l.length - (x + k) → (if l.length = x + k then some (⟨g, 0, none⟩ : Addr) else some ⟨g, (x + k) * 2, none⟩) = some ⟨g, (x + k) * 2, none⟩ := fun h => by rw [if_neg (by omega)]
  generalize (if l.length = x + k then some (⟨g, 0, none⟩ : Addr) else some ⟨g, (x + k) * 2, none⟩) = E at hE ⊢
  generalize w2.drew = w3 at *
  with_reducible refine wpList_copyC cellT rfl (.tmp 31) (.tmp 34) rfl _ _ _ _ _ _ rfl rfl g (x + k) _ (l.drop x) hrow2 hr2 hdl.symm (fun h _ => hE h) (by rw [hsl]; omega) w.heap.size w hb3 hg ?_
  intro w4 hg4 hb4
  go_wp2
  go_ret
  refine ⟨g, ?_, hg, hg4.out, hb4⟩
  rw [HL.out]
  rfl
set_option maxHeartbeats 1000000 in
theorem delete_yes (D : Option Addr) (cp : Nat) (l : List C) (x : Nat) (n : Int) (w : World) (hr : ReadC w D l) (hc : l.length ≤ cp) (hn : l.length ≤ 1000) (hx : x < l.length) :
    Calls Try.prog 110 #[.slice D l.length cp, .int .i64 x, .int .i64 n] w (RowPost w (deleteN l x (withinF n (l.length - x)).toNat)) := by
  obtain ⟨b0, o0, rfl, _⟩ := hr x hx
  obtain ⟨k, hk⟩ : ∃ k : Nat, withinF n (l.length - x) = k := ⟨(withinF n (l.length - x)).toNat, by unfold withinF; omega⟩
  have hkl : x + k ≤ l.length := by have : withinF n (l.length - x) ≤ l.length - x := by unfold withinF; omega
                                    omega
  have hK : Hid (∀ w, Calls Try.prog 140 #[.int .i64 n, .int .i64 (l.length - x)] w fun e w' => e = .returned (.int .i64 k) ∧ w = w') := fun w => by rw [← hk]; exact within_any n _ w
  have hB := Lib.hid (fun w => blanks_any l.length w hn)
  rw [hk, Int.toNat_natCast]
  clear hk
  have HR := Lib.hid hr
  clear hr
  have HL : Hid ((deleteN l x k).length = l.length) := deleteN_len l x k hkl
  have hxi : (x : Int) < (l.length : Int) := by omega
  have hcx : ¬ l.length = x := by omega
  go_enter Try.func110, Try.ntmps110
  go_wp2_with (first
    | (go_at_call 98; refine (place_yes _ _ _ _ _ (by omega) hxi).mono ?_; rintro e w' ⟨rfl, rfl⟩)
    | (go_at_call 139; refine (hB.out _).mono ?_; rintro e w1 ⟨g, rfl, hg, hrow, hb1⟩; have hq := blanksF_len l.length; have hr1 := HR.out.below hb1 (Nat.le_refl _))
    | (with_reducible refine wpList_copyC cellT rfl (.tmp 19) (.tmp 20) rfl _ _ _ _ _ _ rfl rfl g 0 _ l hrow hr1 rfl (fun _ _ => rfl) (by omega) w.heap.size w hb1 hg ?_
       intro w2 hg2 hb2))
  have s1 : IntKind.i64.wrap ((l.length : Int) - x) = (l.length : Int) - x := IntWalk.i64_in _ (by omega)
  have s2 : IntKind.i64.wrap ((x : Int) + k) = (x : Int) + k := IntWalk.i64_in _ (by omega)
  have t1 : (0 : Int) ≤ (x : Int) + k := by omega
  have t2 : ((x : Int) + k).toNat = x + k := by omega
  have t3 : (x : Int) + k ≤ (l.length : Int) := by omega
  have t4 : x ≤ l.length := by omega
  have t5 : x + k ≤ l.length := by omega
  go_still_tail 13, (by kernel_rfl)
  still_call ((hK.out _).mono fun _ _ ⟨h1, h2⟩ => ⟨h1, h2.symm⟩)
  repeat still_step
  refine wpStill_nil ?_
  change wpList _ _ _ _ _ w2.drew
  have hr2 : ReadC w2.drew (if cp = x + k then some ⟨b0, o0, none⟩ else some ⟨b0, o0 + (x + k) * 2, none⟩) (l.drop (x + k)) := (HR.out.below hb2 (Nat.le_refl _)).cut (x := x + k) hc
  have hrow2 : Row w2.drew g (splice (blanksF l.length) 0 (l.take x)) := hg2.out
  have hb3 : Below w.heap.size w w2.drew := below_drewN hb2 1
  have hsl : (splice (blanksF l.length) 0 (l.take x)).length = l.length := by rw [length_splice _ _ _ (by rw [blanksF_len, List.length_take]; omega), blanksF_len]
  have hdl : (l.drop (x + k)).length = l.length - (x + k) := by simp
  generalize (if cp = x + k then some (⟨b0, o0, none⟩ : Addr) else some ⟨b0, o0 + (x + k) * 2, none⟩) = E at hr2 ⊢
  generalize w2.drew = w3 at *
  with_reducible refine wpList_copyC cellT rfl (.tmp 24) (.tmp 34) rfl _ _ _ _ _ _ rfl rfl g x _ (l.drop (x + k)) hrow2 hr2 hdl.symm (fun h _ => rfl) (by rw [hsl]; omega) w.heap.size w hb3 hg ?_
  intro w4 hg4 hb4
  go_wp2
  go_ret
  refine ⟨g, ?_, hg, hg4.out, hb4⟩
  rw [HL.out]
  rfl

set_option maxHeartbeats 400000 in
theorem insert_any (D : Option Addr) (cp : Nat) (l : List C) (x n : Int) (w : World) (hr : ReadC w D l) (hc : l.length ≤ cp) (hn : l.length ≤ 1000) :
    Calls Try.prog 108 #[.slice D l.length cp, .int .i64 x, .int .i64 n] w (RowPost w (insertF l x n)) := by
  by_cases hp : 0 ≤ x ∧ x < l.length
  · obtain ⟨k, rfl⟩ : ∃ k : Nat, x = k := ⟨x.toNat, by omega⟩
    have e : insertF l k n = insertN l k (withinF n (l.length - k)).toNat := by unfold insertF; rw [if_pos (place_iff.2 hp)]; rfl
    rw [e]
    exact insert_yes D cp l k n w hr hc hn (by omega)
  · have e : insertF l x n = l := by unfold insertF; rw [if_neg (fun h => hp (place_iff.1 h))]
    rw [e]
    have hO := Lib.hid (rown_any D cp l w hr hn)
    have HP := Lib.hid (fun w => place_no D l.length cp x w hp)
    clear hp e hr
    go_enter Try.func108, Try.ntmps108
    go_wp2_with (first
      | (go_at_call 98; refine (HP.out _).mono ?_; rintro e w' ⟨rfl, rfl⟩)
      | (go_at_call 97; refine hO.out.mono ?_; rintro e w1 ⟨g, rfl, hg, hrow, hb⟩))
    go_ret
    exact ⟨g, rfl, hg, hrow, hb⟩
set_option maxHeartbeats 400000 in
theorem delete_any (D : Option Addr) (cp : Nat) (l : List C) (x n : Int) (w : World) (hr : ReadC w D l) (hc : l.length ≤ cp) (hn : l.length ≤ 1000) :
    Calls Try.prog 110 #[.slice D l.length cp, .int .i64 x, .int .i64 n] w (RowPost w (deleteF l x n)) := by
  by_cases hp : 0 ≤ x ∧ x < l.length
  · obtain ⟨k, rfl⟩ : ∃ k : Nat, x = k := ⟨x.toNat, by omega⟩
    have e : deleteF l k n = deleteN l k (withinF n (l.length - k)).toNat := by unfold deleteF; rw [if_pos (place_iff.2 hp)]; rfl
    rw [e]
    exact delete_yes D cp l k n w hr hc hn (by omega)
  · have e : deleteF l x n = l := by unfold deleteF; rw [if_neg (fun h => hp (place_iff.1 h))]
    rw [e]
    have hO := Lib.hid (rown_any D cp l w hr hn)
    have HP := Lib.hid (fun w => place_no D l.length cp x w hp)
    clear hp e hr
    go_enter Try.func110, Try.ntmps110
    go_wp2_with (first
      | (go_at_call 98; refine (HP.out _).mono ?_; rintro e w' ⟨rfl, rfl⟩)
      | (go_at_call 97; refine hO.out.mono ?_; rintro e w1 ⟨g, rfl, hg, hrow, hb⟩))
    go_ret
    exact ⟨g, rfl, hg, hrow, hb⟩
end Go.Proofs.Ytpcpmeihebgncaa

/-
  What slices.Grow of nil, slices.Concat of tables of lines, and newest, blanks and part of package grid answer. Conditions: at most a hundred thousand lines together.
-/
namespace Go.Proofs.Ytpcpmeihebgncaa
open Go.RowKit
set_option maxRecDepth 100000

/-- A table of the call's own comes back, with the elements vs. -/
def TabPost (w : World) (vs : List Value) (e : Ending) (w' : World) : Prop := ∃ v, e = .returned v ∧ w'.ownsRow w.heap.size 46 1 v vs.length vs ∧ Below w.heap.size w w'

theorem zeroCells_one (z : Value) (n : Nat) : (Builtin.zeroCells #[z] n).size = n := by rw [size_zeroCells]; simp

set_option maxHeartbeats 400000 in
theorem grow_any (n : Nat) (w : World) (hn : n ≤ 100000) : Calls Try.prog 152 #[.slice none 0 0, .int .i64 n] w (TabPost w []) := by
  by_cases h0 : n = 0
  · subst h0
    go_enter Try.func152, Try.ntmps152
    go_wp2
    go_ret
    exact ⟨_, rfl, World.ownsRow_nil w _ 46 1, Below.refl _ _⟩
  · have hpos : 0 < n := by omega
    have hI := line_info
    cases hi : Try.prog.info? 46 with
    | none => simp [hi] at hI
    | some i =>
      simp only [hi, Option.map_some, Option.some.injEq, Prod.mk.injEq] at hI
      obtain ⟨hz, hs, hb⟩ := hI
      have HR := Lib.hid (fun ty => Lib.run_append_nil_zeros (P := Try.prog) w 33 3 ty 46 i _ .i64 .i64 Try.underlying33 Try.underlying3 hi hz n hpos (by omega) (by omega) (by rw [hb]; omega))
      have hge := grownCap_ge w n 0 46
      have hle := grownCap_le_maxLen w n 0 46 (by unfold maxLen; omega)
      generalize grownCap w n 0 46 = G at *
      have HO : Hid ((w.drew.alloc (.cells (Builtin.zeroCells (Value.slice none 0 0).cells n ++ Builtin.zeroCells (Value.slice none 0 0).cells (G - n)) 46)).ownsRow w.heap.size 46 1 (.slice (some ⟨w.heap.size, 0, none⟩) 0 G) 0 []) := by
        refine ⟨rfl, .inr ⟨w.heap.size, G, _, rfl, Nat.le_refl _, heap_alloc_new w.drew _, Nat.zero_le _, hle, ?_, rfl⟩⟩
        have e : (Value.slice none 0 0).cells = #[Value.slice none 0 0] := rfl
        rw [Array.size_append, e, zeroCells_one, zeroCells_one]
        omega
      have hle2 : G ≤ 9223372036854775807 := by unfold maxLen at hle; omega
      clear hz hs hb hi h0 hle
      have h1 : ¬ ((n : Int) < 0) := by omega
      have h2 : (n : Int) > 0 := by omega
      go_enter Try.func152, Try.ntmps152
      go_wp2_with (at_builtin; refine Lib.wpList_append_run _ rfl (.tmp 20) (.tmp 21) _ _ rfl _ _ rfl rfl _ _ (HR.out _) ?_)
      go_ret
      exact ⟨_, rfl, HO.out, (below_drewN (Below.refl _ _) 1).alloc (Nat.le_refl _) _⟩

/-- The values svs are tables with the elements vss. -/
def TabsV (w : World) (svs : List Value) (vss : List (List Value)) : Prop := svs.length = vss.length ∧ ∀ k (h : k < svs.length) (h' : k < vss.length), ∃ D c, svs[k] = .slice D vss[k].length c ∧ TabAt 0 w D vss[k]
def sumN (vss : List (List Value)) (k : Nat) : Nat := (vss.take k).flatten.length
theorem sumN_next (vss : List (List Value)) (k : Nat) (h : k < vss.length) : sumN vss (k + 1) = sumN vss k + vss[k].length := by
  unfold sumN
  rw [List.take_succ_eq_append_getElem h, List.flatten_append, List.length_append, List.flatten_singleton]
theorem flat_next (vss : List (List Value)) (k : Nat) (h : k < vss.length) : (vss.take (k + 1)).flatten = (vss.take k).flatten ++ vss[k] := by
  rw [List.take_succ_eq_append_getElem h, List.flatten_append, List.flatten_singleton]
theorem sumN_le (vss : List (List Value)) : ∀ k, sumN vss k ≤ vss.flatten.length := by
  intro k
  have : vss.flatten = (vss.take k).flatten ++ (vss.drop k).flatten := by rw [← List.flatten_append, List.take_append_drop]
  rw [this, List.length_append]
  exact Nat.le_add_right _ _
theorem TabsV.at {w w' : World} {T : Nat} {svs : List Value} {vss : List (List Value)} (h : TabsV w svs vss) (hT : Held w T 33 svs.toArray) (hb : Below w.heap.size w w') (k : Nat) (hk : k < vss.length) :
    ∃ D c, w'.cell? ⟨T, k, none⟩ = some (.slice D vss[k].length c) ∧ TabAt 0 w' D vss[k] := by
  have hs : k < svs.length := by rw [h.1]; exact hk
  obtain ⟨D, c, e, ht⟩ := h.2 k hs hk
  refine ⟨D, c, ?_, ht.below hb (Nat.le_refl _)⟩
  rw [(hT.below hb hT.lt).cell, ← e]
  simp [hs]

def SumRel (w : World) (vss : List (List Value)) (s i : Value) (wr : World) : Prop := ∃ k : Nat, i = .int .i64 (k : Int) ∧ s = .int .i64 (sumN vss k : Int) ∧ k ≤ vss.length ∧ w = wr
def CatRel (w : World) (vss : List (List Value)) (v i : Value) (wr : World) : Prop := ∃ k : Nat, i = .int .i64 (k : Int) ∧ k ≤ vss.length ∧ wr.ownsRow w.heap.size 46 1 v (sumN vss k) (vss.take k).flatten ∧ Below w.heap.size w wr

set_option maxHeartbeats 400000 in
theorem concat_any (T : Nat) (svs : List Value) (vss : List (List Value)) (w : World) (hT : Held w T 33 svs.toArray) (hs : TabsV w svs vss) (h1 : ∀ y ∈ vss.flatten, y.oneCell' = true) (hn : vss.flatten.length ≤ 100000) (hq : vss.length ≤ 100) :
    Calls Try.prog 135 #[.slice (some ⟨T, 0, none⟩) vss.length vss.length] w (TabPost w vss.flatten) := by
  have HT := Lib.hid hT
  have HS := Lib.hid hs
  clear hT hs
  go_enter Try.func135, Try.ntmps135
  go_wp2_with fail
  go_loopw [3, 11] (SumRel w vss) (fun _ i _ => vss.length - (intOf i).toNat)
  case atStart => exact ⟨0, rfl, rfl, Nat.zero_le _, rfl⟩
  case round =>
    obtain ⟨k, rfl, rfl, hk, rfl⟩ := hrel
    by_cases hlt : k < vss.length
    · have hki : (k : Int) < (vss.length : Int) := by omega
      obtain ⟨D, c, hc, _⟩ := HS.out.at HT.out (Below.refl _ _) k hlt
      have hsl := sumN_le vss (k + 1)
      have hsn := sumN_next vss k hlt
      rw [hsn] at hsl
      have HN := Lib.hid hsn
      clear hsn
      generalize vss[k] = q at *
      have hneg : ¬ ((sumN vss k : Int) + q.length < 0) := by omega
      go_wp2_with fail
      go_roundw
      case rel => exact ⟨k + 1, by go_num, by rw [HN.out]; go_num, by omega, rfl⟩
      case measure => simp [intOf]; omega
    · obtain rfl : k = vss.length := by omega
      have hki : ¬ (vss.length : Int) < (vss.length : Int) := by omega
      have hsl := sumN_le vss vss.length
      go_wp2_with (go_at_call 152; refine (grow_any _ _ (by omega)).mono ?_; rintro e w1 ⟨v1, rfl, ho1, hb1⟩)
      go_loopw [6, 27] (CatRel w vss) (fun _ i _ => vss.length - (intOf i).toNat)
      case atStart => exact ⟨0, rfl, Nat.zero_le _, ho1, hb1⟩
      case round =>
        obtain ⟨k, rfl, hk, ho, hb⟩ := hrel
        by_cases hlt : k < vss.length
        · have hki : (k : Int) < (vss.length : Int) := by omega
          obtain ⟨D, c, hc, htab⟩ := HS.out.at HT.out hb k hlt
          have hsl := sumN_le vss (k + 1)
          have hsn := sumN_next vss k hlt
          have hfn := flat_next vss k hlt
          rw [hsn] at hsl
          have h1q : ∀ y ∈ vss[k], y.oneCell' = true := fun y hy => h1 y (List.mem_flatten.2 ⟨_, List.getElem_mem hlt, hy⟩)
          have HN := Lib.hid hsn
          have HF := Lib.hid hfn
          have HO := Lib.hid ho
          have HQ := Lib.hid htab.src
          have H1 := Lib.hid h1q
          clear hsn hfn ho htab h1q
          generalize vss[k] = q at *
          go_wp2_with (
            at_builtin
            refine wpList_append_src _ rfl (.tmp 31) (.tmp 32) 33 rfl rowL w.heap.size (sumN vss k) q.length c _ D _ q rfl rfl HO.out HQ.out (by omega) H1.out (by omega) hb.size ?_
            rintro v2 w2 ⟨ho2, hb2, _⟩)
          go_roundw
          case rel => exact ⟨k + 1, by go_num, by omega, by rw [HN.out, HF.out]; exact ho2, hb.trans hb2⟩
          case measure => simp [intOf]; omega
        · obtain rfl : k = vss.length := by omega
          have hki : ¬ (vss.length : Int) < (vss.length : Int) := by omega
          have HO := Lib.hid ho
          clear ho
          go_wp2_with fail
          go_ret
          have := HO.out
          rw [List.take_length] at this
          exact ⟨_, rfl, by have e : sumN vss vss.length = vss.flatten.length := by simp [sumN]
                            rw [← e]; exact this, hb⟩

/-! ### newest, blanks, part -/
/-- 'back[max(0, len(back)-50):]'. -/
def CutPost (w : World) (vs : List Value) (e : Ending) (w' : World) : Prop := ∃ E k, e = .returned (.slice E vs.length k) ∧ vs.length ≤ k ∧ TabAt 0 w E vs ∧ w = w'
set_option maxHeartbeats 400000 in
theorem newest_nil (w : World) : Calls Try.prog 134 #[.slice none 0 0] w (CutPost w []) := by
  go_enter Try.func134, Try.ntmps134
  go_wp2
  go_ret
  exact ⟨none, 0, rfl, Nat.le_refl _, TabAt.nil _ _ _, rfl⟩
set_option maxHeartbeats 400000 in
theorem newest_some (b off c : Nat) (vs : List Value) (w : World) (hr : TabAt 0 w (some ⟨b, off, none⟩) vs) (hc : vs.length ≤ c) (hn : vs.length ≤ 100000) : Calls Try.prog 134 #[.slice (some ⟨b, off, none⟩) vs.length c] w (CutPost w (vs.drop (vs.length - 50))) := by
  have HR := Lib.hid hr
  clear hr
  by_cases h : vs.length ≤ 50
  · have hd : (0 : Int) < (vs.length : Int) - 50 → False := by omega
    go_enter Try.func134, Try.ntmps134
    go_wp2
    go_ret
    have e : vs.drop (vs.length - 50) = vs := by rw [show vs.length - 50 = 0 by omega, List.drop_zero]
    rw [e]
    exact ⟨_, _, rfl, hc, HR.out, rfl⟩
  · have hd : (0 : Int) < (vs.length : Int) - 50 := by omega
    have t1 : ((vs.length : Int) - 50).toNat = vs.length - 50 := by omega
    have t2 : (vs.length : Int) - 50 ≤ vs.length := by omega
    have hcx : ¬ c = vs.length - 50 := by omega
    go_enter Try.func134, Try.ntmps134
    go_wp2
    go_ret
    have := HR.out.cut (lo := vs.length - 50) hc
    rw [if_neg hcx] at this
    exact ⟨_, c - (vs.length - 50), by rw [List.length_drop]; rfl, by rw [List.length_drop]; omega, this, rfl⟩
theorem newest_own (B n : Nat) (v : Value) (vs : List Value) (w : World) (h : w.ownsRow B 46 1 v n vs) (hn : vs.length ≤ 100000) : Calls Try.prog 134 #[v] w (CutPost w (vs.drop (vs.length - 50))) := by
  have hl : vs.length = n := by have := h.1; omega
  have ht := own_tab h
  rcases h.2 with ⟨rfl, rfl⟩ | ⟨g, cap, cur, rfl, hg, hh, hcap, _⟩
  · have : vs = [] := List.eq_nil_of_length_eq_zero hl
    subst this
    exact newest_nil w
  · obtain ⟨D, c, e, h1, h2⟩ := ht
    cases e
    exact newest_some g 0 cap vs w (h2.weak (Nat.zero_le _)) h1 hn

def blankL (x : Int) (h : Nat) : List (List C) := List.replicate h (blankF x)
theorem fitted_nil (x : Int) (h : Nat) : fittedF [] x h = blankL x h := by
  apply List.ext_getElem
  · simp [fittedF, blankL]
  · intro i h1 h2
    rw [fittedF_out [] x h i h1 (by simp)]
    simp [blankL]
set_option maxHeartbeats 400000 in
theorem gblanks_any (x : Int) (h : Nat) (w : World) (hn : h ≤ 1050) : Calls Try.prog 88 #[.int .i64 x, .int .i64 h] w (LinesPost w (blankL x h)) := by
  have HF := Lib.hid (fitted_any none 0 [] x h w (Lines.nil _ _ _) hn)
  rw [fitted_nil] at HF
  generalize blankL x h = q at *
  go_enter Try.func88, Try.ntmps88
  go_wp2_with (go_at_call 90; refine HF.out.mono ?_; rintro e w1 ⟨g, rfl, h1, h2⟩)
  go_ret
  exact ⟨g, rfl, h1, h2⟩

/-! ### a screen as a value -/
/-- All of a screen but its lines. -/
structure Nm where
  w : Int
  h : Int
  x : Int
  y : Int
  wrap : Bool
  a : Int
  top : Int
  bottom : Int
  sx : Int
  sy : Int
  sa : Int
  noWrap : Bool
  hidden : Bool
def gcs (p : Nm) (r b : Value) : Array Value := #[.int .i64 p.w, .int .i64 p.h, .int .i64 p.x, .int .i64 p.y, .bool p.wrap, .int .i64 p.a, .int .i64 p.top, .int .i64 p.bottom, .int .i64 p.sx, .int .i64 p.sy, .int .i64 p.sa, .bool p.noWrap, .bool p.hidden, r, b]
def gv (p : Nm) (r b : Value) : Value := .agg (gcs p r b)

theorem wp_world {P : Program} {c : Code} {Q : Exit → Act → World → Prop} {a : Act} {w : World} (R : World → Prop) (h : R w) (k : ∀ wq, R wq → Code.wp P c Q a wq) : Code.wp P c Q a w := k w h
/-- Where the rows from top to bottom begin, and end, of n rows. -/
def fromF (n : Nat) (top : Int) : Nat := (withinF top (n - 1)).toNat
def toF (n : Nat) (top bottom : Int) : Nat := max (fromF n top) ((withinF bottom (n - 1)).toNat + 1)
def PartPost (w : World) (f t : Nat) (e : Ending) (w' : World) : Prop := e = .returned (.tuple #[.int .i64 (f : Int), .int .i64 (t : Int)]) ∧ Below w.heap.size w w'

theorem ret_t {x a b : Int} (h : a = b) : Ending.returned (.tuple #[.int .i64 x, .int .i64 a]) = .returned (.tuple #[.int .i64 x, .int .i64 b]) := by rw [h]
set_option maxHeartbeats 1000000 in
theorem part_any (p : Nm) (D : Option Addr) (n c : Nat) (b : Value) (top bottom : Int) (w : World) (h0 : 1 ≤ n) (hn : n ≤ 1050) : Calls Try.prog 133 #[gv p (.slice D n c) b, .int .i64 top, .int .i64 bottom] w (PartPost w (fromF n top) (toF n top bottom)) := by
  obtain ⟨f, hf⟩ : ∃ f : Nat, withinF top ((n : Int) - 1) = f := ⟨(withinF top (n - 1)).toNat, by unfold withinF; omega⟩
  obtain ⟨t, ht⟩ : ∃ t : Nat, withinF bottom ((n : Int) - 1) = t := ⟨(withinF bottom (n - 1)).toNat, by unfold withinF; omega⟩
  have htn : t + 1 ≤ n := by have : withinF bottom (n - 1) ≤ n - 1 := by unfold withinF; omega
                             omega
  have HA : Hid (∀ w, Calls Try.prog 91 #[.int .i64 top, .int .i64 ((n : Int) - 1)] w fun e w' => e = .returned (.int .i64 f) ∧ w = w') := fun w => by rw [← hf]; exact gwithin_any top _ w
  have HB : Hid (∀ w, Calls Try.prog 91 #[.int .i64 bottom, .int .i64 ((n : Int) - 1)] w fun e w' => e = .returned (.int .i64 t) ∧ w = w') := fun w => by rw [← ht]; exact gwithin_any bottom _ w
  have e1 : fromF n top = f := by unfold fromF; rw [hf]; rfl
  have e2 : toF n top bottom = max f (t + 1) := by unfold toF; rw [e1, ht]; rfl
  rw [e1, e2]
  clear e1 e2 hf ht
  unfold gv gcs
  obtain ⟨pw, ph, px, py, pwr, pa, pt, pb, psx, psy, psa, pn, phd⟩ := p
  go_enter Try.func133, Try.ntmps133
  go_wp2_with (go_at_call 91; refine (HA.out _).mono ?_; rintro e w' ⟨rfl, rfl⟩)
  refine wp_world (fun wq => wq.cell? ⟨w.heap.size, 13, none⟩ = some (.slice D n c) ∧ Below w.heap.size w wq) ⟨Held.cell (Held.new _ _ _) 13, (Below.refl _ _).alloc (Nat.le_refl _) _⟩ ?_
  rintro wq ⟨c13, hbq⟩
  have s1 : IntKind.i64.wrap ((t : Int) + 1) = (t : Int) + 1 := IntWalk.i64_in _ (by omega)
  go_still_tail 7, (by kernel_rfl)
  repeat still_step
  still_call ((HB.out _).mono fun _ _ ⟨h1, h2⟩ => ⟨h1, h2.symm⟩)
  repeat still_step
  refine wpStill_nil ?_
  change wpList _ _ _ _ _ wq.drew
  have hb3 : Below w.heap.size w wq.drew := below_drewN hbq 1
  generalize wq.drew = w3 at *
  go_wp2_with fail
  all_goals
    go_ret2
    refine ⟨ret_t ?_, hb3⟩
    omega
end Go.Proofs.Ytpcpmeihebgncaa

/-
  What the document's Blank, SameRow, SameRows and Fit answer, and slices.Equal and EqualFunc of rows and lines. Conditions: rows and tables of at most a hundred thousand; SameRow, SameRows and Equal of equals; Equal of rows whose first signs differ.
-/
namespace Go.Proofs.Ytpcpmeihebgncaa
open Go.RowKit
set_option maxRecDepth 100000

theorem held_within (x : Int) : heldF x 0 1000 = withinF x 1000 := by unfold heldF withinF; omega

set_option maxHeartbeats 400000 in
theorem rblank_any (x : Int) (w : World) : Calls Try.prog 48 #[.int .i64 x] w (RowPost w (blankF x)) := by
  obtain ⟨n, hn⟩ : ∃ n : Nat, withinF x 1000 = n := ⟨(withinF x 1000).toNat, by unfold withinF; omega⟩
  have hn1 : n ≤ 1000 := by have : withinF x 1000 ≤ 1000 := by unfold withinF; omega
                            omega
  have HC : Hid (∀ w, Calls Try.prog 47 #[.int .i64 x, .int .i64 0, .int .i64 1000] w fun e w' => e = .returned (.int .i64 n) ∧ w = w') := fun w => by rw [← hn, ← held_within]; exact held_any x 0 1000 w
  have e : blankF x = blanksF n := by unfold blankF; rw [hn]; rfl
  rw [e]
  clear e hn
  have hm := run_makeC w n (by omega)
  have hR : Row (w.alloc (.cells (cvs (zeros n)).toArray 48)) w.heap.size (zeros n) := Held.new _ _ _
  have HR := Lib.hid hR
  clear hR
  go_enter Try.func48, Try.ntmps48
  go_wp2_with (go_at_call 47; refine (HC.out _).mono ?_; rintro e w' ⟨rfl, rfl⟩)
  go_loopw [4] (BlanksRel w w.heap.size n) (fun i _ => n - (intOf i).toNat)
  case atStart => exact ⟨0, rfl, Nat.zero_le _, HR.out, (Below.refl _ _).alloc (Nat.le_refl _) _⟩
  case round =>
    obtain ⟨k, rfl, hle, hrow, hb⟩ := hrel
    have hz := hrow.lt
    by_cases hlt : k < n
    · have hki : (k : Int) < (n : Int) := by omega
      have hpl := part_len n k hle
      obtain ⟨c0, c1⟩ := hrow.cells k (by omega)
      have cf := hrow.frozen
      go_wp2_with fail
      go_roundw
      case rel =>
        refine ⟨k + 1, by go_num, by omega, ?_, ?_⟩
        · rw [← part_next n k hlt]
          exact hrow.set k C.blank
        · exact below_set2 hb (Nat.le_refl _) _ _ _ _
      case measure => simp [intOf]; omega
    · have ek : k = n := by omega
      subst ek
      go_wp2_with fail
      go_ret
      refine ⟨w.heap.size, ?_, Nat.le_refl _, ?_, hb⟩
      · rw [blanksF_len]
        rfl
      · have e : part k k = blanksF k := by simp [part, zeros]
        rw [← e]
        exact hrow

/-- It answers so, and only draws. -/
def Quiet (b : Bool) (w : World) (e : Ending) (w' : World) : Prop := e = .returned (.bool b) ∧ ∃ m, w' = w.drewN m
def QRel (w : World) (n : Nat) (i : Value) (wr : World) : Prop := ∃ k : Nat, i = .int .i64 (k : Int) ∧ k ≤ n ∧ ∃ m, wr = w.drewN m
theorem RowAt.drewN {B : Nat} {w : World} {D : Option Addr} {l : List C} (h : RowAt B w D l) (m : Nat) : RowAt B (w.drewN m) D l := h.below (below_drewN (Below.refl _ _) m) (Nat.le_refl _)
theorem Lines.drewN {B : Nat} {w : World} {D : Option Addr} {L : List (List C)} (h : Lines B w D L) (m : Nat) : Lines B (w.drewN m) D L := h.below (below_drewN (Below.refl _ _) m) (Nat.le_refl _)

set_option maxHeartbeats 400000 in
theorem sameRow_any (D E : Option Addr) (c d : Nat) (l : List C) (w : World) (h1 : RowAt 0 w D l) (h2 : RowAt 0 w E l) (hn : l.length ≤ 100000) : Calls Try.prog 45 #[.slice D l.length c, .slice E l.length d] w (Quiet true w) := by
  have H1 := Lib.hid h1
  have H2 := Lib.hid h2
  clear h1 h2
  go_enter Try.func45, Try.ntmps45
  go_wp2_with fail
  go_loopw [5] (QRel w l.length) (fun i _ => l.length - (intOf i).toNat)
  case atStart => exact ⟨0, rfl, Nat.zero_le _, 0, rfl⟩
  case round =>
    obtain ⟨k, rfl, hle, m, hm⟩ := hrel
    by_cases hlt : k < l.length
    · have hki : (k : Int) < (l.length : Int) := by omega
      obtain ⟨rb, ro, rfl, _, _, _, y0, y1⟩ := (H1.out.drewN m) k hlt
      obtain ⟨wb, wo, rfl, _, _, _, z0, z1⟩ := (H2.out.drewN m) k hlt
      rw [← hm] at y0 y1 z0 z1
      have HM := Lib.hid hm
      clear hm
      generalize l[k] = z at y0 y1 z0 z1
      obtain ⟨zr, za⟩ := z
      go_wp2_with fail
      go_quiet (fail)
      go_wp2_with fail
      go_roundw
      case rel => exact ⟨k + 1, by go_num, by omega, _, by rw [HM.out, World.drewN_drewN]⟩
      case measure => simp [intOf]; omega
    · have hki : ¬ (k : Int) < (l.length : Int) := by omega
      have HM := Lib.hid hm
      clear hm
      go_wp2_with fail
      go_ret
      exact ⟨rfl, m, HM.out⟩
set_option maxHeartbeats 400000 in
theorem sameRows_any (D E : Option Addr) (c d : Nat) (L : List (List C)) (w : World) (h1 : Lines 0 w D L) (h2 : Lines 0 w E L) (hn : L.length ≤ 100000) (hl : ∀ r ∈ L, r.length ≤ 1000) : Calls Try.prog 23 #[.slice D L.length c, .slice E L.length d] w (Quiet true w) := by
  have H1 := Lib.hid h1
  have H2 := Lib.hid h2
  clear h1 h2
  go_enter Try.func23, Try.ntmps23
  go_wp2_with fail
  go_loopw [5] (QRel w L.length) (fun i _ => L.length - (intOf i).toNat)
  case atStart => exact ⟨0, rfl, Nat.zero_le _, 0, rfl⟩
  case round =>
    obtain ⟨k, rfl, hle, m, hm⟩ := hrel
    by_cases hlt : k < L.length
    · have hki : (k : Int) < (L.length : Int) := by omega
      obtain ⟨rb, ro, R, rc, rfl, _, _, _, y0, _, hr1⟩ := (H1.out.drewN m).at k hlt
      obtain ⟨wb, wo, S, sc, rfl, _, _, _, z0, _, hr2⟩ := (H2.out.drewN m).at k hlt
      rw [← hm] at y0 z0 hr1 hr2
      have HM := Lib.hid hm
      have HQ := Lib.hid (fun j => sameRow_any R S rc sc L[k] (wr.drewN j) (hr1.drewN j) (hr2.drewN j) (by have := hl _ (List.getElem_mem hlt); omega))
      clear hm hr1 hr2
      generalize L[k] = z at *
      go_wp2_with fail
      go_quiet ((go_at_call 45; exact Calls.quiet_of (HQ.out _)))
      go_wp2_with fail
      go_roundw
      case rel => exact ⟨k + 1, by go_num, by omega, _, by rw [HM.out, World.drewN_drewN]⟩
      case measure => simp [intOf]; omega
    · have hki : ¬ (k : Int) < (L.length : Int) := by omega
      have HM := Lib.hid hm
      clear hm
      go_wp2_with fail
      go_ret
      exact ⟨rfl, m, HM.out⟩

end Go.Proofs.Ytpcpmeihebgncaa

/-
  A screen's memory: fifteen cells in a block of its own; what is read of it, and what storing a whole screen leaves. No condition.
-/
namespace Go.Proofs.Ytpcpmeihebgncaa
open Go.RowKit
set_option maxRecDepth 100000

/-- Block g is the screen of these numbers, rows and lines that went. -/
def Box (w : World) (g : Nat) (p : Nm) (r b : Value) : Prop := Held w g 35 (gcs p r b)
theorem Box.below {w w' : World} {g C : Nat} {p : Nm} {r b : Value} (h : Box w g p r b) (hb : Below C w w') (hC : g < C) : Box w' g p r b := Held.below h hb hC
theorem Box.alloc {w : World} {g : Nat} {p : Nm} {r b : Value} (h : Box w g p r b) (o : Obj) : Box (w.alloc o) g p r b := Held.alloc h o
theorem Box.lt {w : World} {g : Nat} {p : Nm} {r b : Value} (h : Box w g p r b) : g < w.heap.size := Held.lt h
theorem Box.far {w : World} {g : Nat} {p : Nm} {r b : Value} (h : Box w g p r b) {q : Addr} (hp : g ≠ q.block) (x : Value) : Box (w.setCell q x) g p r b := Held.far h hp x
theorem Box.new (w : World) (p : Nm) (r b : Value) : Box (w.alloc (.cells (gcs p r b) 35)) w.heap.size p r b := Held.new _ _ _
structure BoxCells (w : World) (g : Nat) (p : Nm) (r b : Value) : Prop where
  c0 : w.cell? ⟨g, 0, none⟩ = some (.int .i64 p.w)
  c1 : w.cell? ⟨g, 1, none⟩ = some (.int .i64 p.h)
  c2 : w.cell? ⟨g, 2, none⟩ = some (.int .i64 p.x)
  c3 : w.cell? ⟨g, 3, none⟩ = some (.int .i64 p.y)
  c4 : w.cell? ⟨g, 4, none⟩ = some (.bool p.wrap)
  c5 : w.cell? ⟨g, 5, none⟩ = some (.int .i64 p.a)
  c6 : w.cell? ⟨g, 6, none⟩ = some (.int .i64 p.top)
  c7 : w.cell? ⟨g, 7, none⟩ = some (.int .i64 p.bottom)
  c8 : w.cell? ⟨g, 8, none⟩ = some (.int .i64 p.sx)
  c9 : w.cell? ⟨g, 9, none⟩ = some (.int .i64 p.sy)
  c10 : w.cell? ⟨g, 10, none⟩ = some (.int .i64 p.sa)
  c11 : w.cell? ⟨g, 11, none⟩ = some (.bool p.noWrap)
  c12 : w.cell? ⟨g, 12, none⟩ = some (.bool p.hidden)
  c13 : w.cell? ⟨g, 13, none⟩ = some (r)
  c14 : w.cell? ⟨g, 14, none⟩ = some (b)
  free : ∀ o, w.frozen? ⟨g, o, none⟩ = false
theorem Box.cells {w : World} {g : Nat} {p : Nm} {r b : Value} (h : Box w g p r b) : BoxCells w g p r b :=
  ⟨Held.cell h 0, Held.cell h 1, Held.cell h 2, Held.cell h 3, Held.cell h 4, Held.cell h 5, Held.cell h 6, Held.cell h 7, Held.cell h 8, Held.cell h 9, Held.cell h 10, Held.cell h 11, Held.cell h 12, Held.cell h 13, Held.cell h 14, Held.frozen h⟩
/-- The screen that a new variable holds. -/
def zeroNm : Nm := ⟨0, 0, 0, 0, false, 0, 0, 0, 0, 0, 0, false, false⟩
/-- A whole screen stored into block g. -/
def put15 (w : World) (g : Nat) (p : Nm) (r b : Value) : World := ((((((((((((((w.setCell ⟨g, 0, none⟩ (.int .i64 p.w)).setCell ⟨g, 1, none⟩ (.int .i64 p.h)).setCell ⟨g, 2, none⟩ (.int .i64 p.x)).setCell ⟨g, 3, none⟩ (.int .i64 p.y)).setCell ⟨g, 4, none⟩ (.bool p.wrap)).setCell ⟨g, 5, none⟩ (.int .i64 p.a)).setCell ⟨g, 6, none⟩ (.int .i64 p.top)).setCell ⟨g, 7, none⟩ (.int .i64 p.bottom)).setCell ⟨g, 8, none⟩ (.int .i64 p.sx)).setCell ⟨g, 9, none⟩ (.int .i64 p.sy)).setCell ⟨g, 10, none⟩ (.int .i64 p.sa)).setCell ⟨g, 11, none⟩ (.bool p.noWrap)).setCell ⟨g, 12, none⟩ (.bool p.hidden)).setCell ⟨g, 13, none⟩ r).setCell ⟨g, 14, none⟩ b
theorem put15_box {w : World} {g : Nat} {q p : Nm} {r0 b0 : Value} (h : Box w g q r0 b0) (r b : Value) : Box (put15 w g p r b) g p r b := by
  have := (Held.set1 (Held.set1 (Held.set1 (Held.set1 (Held.set1 (Held.set1 (Held.set1 (Held.set1 (Held.set1 (Held.set1 (Held.set1 (Held.set1 (Held.set1 (Held.set1 (Held.set1 h 0 (.int .i64 p.w)) 1 (.int .i64 p.h)) 2 (.int .i64 p.x)) 3 (.int .i64 p.y)) 4 (.bool p.wrap)) 5 (.int .i64 p.a)) 6 (.int .i64 p.top)) 7 (.int .i64 p.bottom)) 8 (.int .i64 p.sx)) 9 (.int .i64 p.sy)) 10 (.int .i64 p.sa)) 11 (.bool p.noWrap)) 12 (.bool p.hidden)) 13 (r)) 14 (b))
  simp only [gcs, List.setIfInBounds_toArray, List.set_cons_succ, List.set_cons_zero] at this
  exact this
theorem put15_below {B : Nat} {w0 w : World} {g : Nat} (h : Below B w0 w) (hg : B ≤ g) (p : Nm) (r b : Value) : Below B w0 (put15 w g p r b) :=
  (((((((((((((((h.setCell (p := ⟨g, 0, none⟩) hg _).setCell (p := ⟨g, 1, none⟩) hg _).setCell (p := ⟨g, 2, none⟩) hg _).setCell (p := ⟨g, 3, none⟩) hg _).setCell (p := ⟨g, 4, none⟩) hg _).setCell (p := ⟨g, 5, none⟩) hg _).setCell (p := ⟨g, 6, none⟩) hg _).setCell (p := ⟨g, 7, none⟩) hg _).setCell (p := ⟨g, 8, none⟩) hg _).setCell (p := ⟨g, 9, none⟩) hg _).setCell (p := ⟨g, 10, none⟩) hg _).setCell (p := ⟨g, 11, none⟩) hg _).setCell (p := ⟨g, 12, none⟩) hg _).setCell (p := ⟨g, 13, none⟩) hg _).setCell (p := ⟨g, 14, none⟩) hg _)
theorem put15_size (w : World) (g : Nat) (p : Nm) (r b : Value) : (put15 w g p r b).heap.size = w.heap.size := by simp [put15]
theorem put15_held {w : World} {g k : Nat} {t : TypeId} {cs : Array Value} (h : Held w k t cs) (hk : k ≠ g) (p : Nm) (r b : Value) : Held (put15 w g p r b) k t cs :=
  (Held.far (Held.far (Held.far (Held.far (Held.far (Held.far (Held.far (Held.far (Held.far (Held.far (Held.far (Held.far (Held.far (Held.far (Held.far h (p := ⟨g, 0, none⟩) hk _) (p := ⟨g, 1, none⟩) hk _) (p := ⟨g, 2, none⟩) hk _) (p := ⟨g, 3, none⟩) hk _) (p := ⟨g, 4, none⟩) hk _) (p := ⟨g, 5, none⟩) hk _) (p := ⟨g, 6, none⟩) hk _) (p := ⟨g, 7, none⟩) hk _) (p := ⟨g, 8, none⟩) hk _) (p := ⟨g, 9, none⟩) hk _) (p := ⟨g, 10, none⟩) hk _) (p := ⟨g, 11, none⟩) hk _) (p := ⟨g, 12, none⟩) hk _) (p := ⟨g, 13, none⟩) hk _) (p := ⟨g, 14, none⟩) hk _)
theorem Box.set_w {w : World} {g : Nat} {p : Nm} {r b : Value} (h : Box w g p r b) (v : Int) : Box (w.setCell ⟨g, 0, none⟩ (.int .i64 v)) g { p with w := v } r b := by
  have := Held.set1 h 0 (.int .i64 v)
  simp only [gcs, List.setIfInBounds_toArray, List.set_cons_zero] at this
  exact this
theorem Box.set_h {w : World} {g : Nat} {p : Nm} {r b : Value} (h : Box w g p r b) (v : Int) : Box (w.setCell ⟨g, 1, none⟩ (.int .i64 v)) g { p with h := v } r b := by
  have := Held.set1 h 1 (.int .i64 v)
  simp only [gcs, List.setIfInBounds_toArray, List.set_cons_succ, List.set_cons_zero] at this
  exact this
theorem Box.set_x {w : World} {g : Nat} {p : Nm} {r b : Value} (h : Box w g p r b) (v : Int) : Box (w.setCell ⟨g, 2, none⟩ (.int .i64 v)) g { p with x := v } r b := by
  have := Held.set1 h 2 (.int .i64 v)
  simp only [gcs, List.setIfInBounds_toArray, List.set_cons_succ, List.set_cons_zero] at this
  exact this
theorem Box.set_y {w : World} {g : Nat} {p : Nm} {r b : Value} (h : Box w g p r b) (v : Int) : Box (w.setCell ⟨g, 3, none⟩ (.int .i64 v)) g { p with y := v } r b := by
  have := Held.set1 h 3 (.int .i64 v)
  simp only [gcs, List.setIfInBounds_toArray, List.set_cons_succ, List.set_cons_zero] at this
  exact this
theorem Box.set_wrap {w : World} {g : Nat} {p : Nm} {r b : Value} (h : Box w g p r b) (v : Bool) : Box (w.setCell ⟨g, 4, none⟩ (.bool v)) g { p with wrap := v } r b := by
  have := Held.set1 h 4 (.bool v)
  simp only [gcs, List.setIfInBounds_toArray, List.set_cons_succ, List.set_cons_zero] at this
  exact this
theorem Box.set_a {w : World} {g : Nat} {p : Nm} {r b : Value} (h : Box w g p r b) (v : Int) : Box (w.setCell ⟨g, 5, none⟩ (.int .i64 v)) g { p with a := v } r b := by
  have := Held.set1 h 5 (.int .i64 v)
  simp only [gcs, List.setIfInBounds_toArray, List.set_cons_succ, List.set_cons_zero] at this
  exact this
theorem Box.set_top {w : World} {g : Nat} {p : Nm} {r b : Value} (h : Box w g p r b) (v : Int) : Box (w.setCell ⟨g, 6, none⟩ (.int .i64 v)) g { p with top := v } r b := by
  have := Held.set1 h 6 (.int .i64 v)
  simp only [gcs, List.setIfInBounds_toArray, List.set_cons_succ, List.set_cons_zero] at this
  exact this
theorem Box.set_bottom {w : World} {g : Nat} {p : Nm} {r b : Value} (h : Box w g p r b) (v : Int) : Box (w.setCell ⟨g, 7, none⟩ (.int .i64 v)) g { p with bottom := v } r b := by
  have := Held.set1 h 7 (.int .i64 v)
  simp only [gcs, List.setIfInBounds_toArray, List.set_cons_succ, List.set_cons_zero] at this
  exact this
theorem Box.set_sx {w : World} {g : Nat} {p : Nm} {r b : Value} (h : Box w g p r b) (v : Int) : Box (w.setCell ⟨g, 8, none⟩ (.int .i64 v)) g { p with sx := v } r b := by
  have := Held.set1 h 8 (.int .i64 v)
  simp only [gcs, List.setIfInBounds_toArray, List.set_cons_succ, List.set_cons_zero] at this
  exact this
theorem Box.set_sy {w : World} {g : Nat} {p : Nm} {r b : Value} (h : Box w g p r b) (v : Int) : Box (w.setCell ⟨g, 9, none⟩ (.int .i64 v)) g { p with sy := v } r b := by
  have := Held.set1 h 9 (.int .i64 v)
  simp only [gcs, List.setIfInBounds_toArray, List.set_cons_succ, List.set_cons_zero] at this
  exact this
theorem Box.set_sa {w : World} {g : Nat} {p : Nm} {r b : Value} (h : Box w g p r b) (v : Int) : Box (w.setCell ⟨g, 10, none⟩ (.int .i64 v)) g { p with sa := v } r b := by
  have := Held.set1 h 10 (.int .i64 v)
  simp only [gcs, List.setIfInBounds_toArray, List.set_cons_succ, List.set_cons_zero] at this
  exact this
theorem Box.set_noWrap {w : World} {g : Nat} {p : Nm} {r b : Value} (h : Box w g p r b) (v : Bool) : Box (w.setCell ⟨g, 11, none⟩ (.bool v)) g { p with noWrap := v } r b := by
  have := Held.set1 h 11 (.bool v)
  simp only [gcs, List.setIfInBounds_toArray, List.set_cons_succ, List.set_cons_zero] at this
  exact this
theorem Box.set_hidden {w : World} {g : Nat} {p : Nm} {r b : Value} (h : Box w g p r b) (v : Bool) : Box (w.setCell ⟨g, 12, none⟩ (.bool v)) g { p with hidden := v } r b := by
  have := Held.set1 h 12 (.bool v)
  simp only [gcs, List.setIfInBounds_toArray, List.set_cons_succ, List.set_cons_zero] at this
  exact this
theorem Box.set_rows {w : World} {g : Nat} {p : Nm} {r b : Value} (h : Box w g p r b) (v : Value) : Box (w.setCell ⟨g, 13, none⟩ v) g p v b := by
  have := Held.set1 h 13 v
  simp only [gcs, List.setIfInBounds_toArray, List.set_cons_succ, List.set_cons_zero] at this
  exact this
theorem Box.set_back {w : World} {g : Nat} {p : Nm} {r b : Value} (h : Box w g p r b) (v : Value) : Box (w.setCell ⟨g, 14, none⟩ v) g p r v := by
  have := Held.set1 h 14 v
  simp only [gcs, List.setIfInBounds_toArray, List.set_cons_succ, List.set_cons_zero] at this
  exact this
theorem Lines.put15 {B : Nat} {w : World} {D : Option Addr} {L : List (List C)} (h : Lines B w D L) {g : Nat} (hg : g < B) (p : Nm) (r b : Value) : Lines B (put15 w g p r b) D L :=
  (((((((((((((((h.far (p := ⟨g, 0, none⟩) hg _).far (p := ⟨g, 1, none⟩) hg _).far (p := ⟨g, 2, none⟩) hg _).far (p := ⟨g, 3, none⟩) hg _).far (p := ⟨g, 4, none⟩) hg _).far (p := ⟨g, 5, none⟩) hg _).far (p := ⟨g, 6, none⟩) hg _).far (p := ⟨g, 7, none⟩) hg _).far (p := ⟨g, 8, none⟩) hg _).far (p := ⟨g, 9, none⟩) hg _).far (p := ⟨g, 10, none⟩) hg _).far (p := ⟨g, 11, none⟩) hg _).far (p := ⟨g, 12, none⟩) hg _).far (p := ⟨g, 13, none⟩) hg _).far (p := ⟨g, 14, none⟩) hg _)
theorem Box.far15 {w : World} {g k : Nat} {q : Nm} {r0 b0 : Value} (h : Box w k q r0 b0) (hk : k ≠ g) (p : Nm) (r b : Value) : Box (Ytpcpmeihebgncaa.put15 w g p r b) k q r0 b0 := put15_held h hk p r b

/-- A screen: its rows, and the lines that went. -/
structure Scr (B : Nat) (w : World) (D E : Option Addr) (n c m d : Nat) (L Bk : List (List C)) : Prop where
  rows : Lines B w D L
  back : Lines B w E Bk
  nr : L.length = n
  nb : Bk.length = m
  cr : n ≤ c
  cb : m ≤ d
theorem Scr.some {B : Nat} {w : World} {D E : Option Addr} {n c m d : Nat} {L Bk : List (List C)} (h : Scr B w D E n c m d L Bk) (h0 : 1 ≤ n) : ∃ b o, D = some ⟨b, o, none⟩ := by
  obtain ⟨b, o, _, _, e, _⟩ := h.rows.at 0 (by rw [h.nr]; omega)
  exact ⟨b, o, e⟩
theorem Scr.below {B C : Nat} {w w' : World} {D E : Option Addr} {n c m d : Nat} {L Bk : List (List Ytpcpmeihebgncaa.C)} (h : Scr B w D E n c m d L Bk) (hb : Below C w w') (hC : w.heap.size ≤ C) : Scr B w' D E n c m d L Bk :=
  ⟨h.rows.below hb hC, h.back.below hb hC, h.nr, h.nb, h.cr, h.cb⟩
theorem Scr.weak {B A : Nat} {w : World} {D E : Option Addr} {n c m d : Nat} {L Bk : List (List C)} (h : Scr B w D E n c m d L Bk) (hA : A ≤ B) : Scr A w D E n c m d L Bk := ⟨h.rows.weak hA, h.back.weak hA, h.nr, h.nb, h.cr, h.cb⟩
/-- A screen of the call's own comes back. -/
def GridPost (w : World) (p : Nm) (L Bk : List (List C)) (e : Ending) (w' : World) : Prop :=
  ∃ D E n c m d, e = .returned (gv p (.slice D n c) (.slice E m d)) ∧ Scr w.heap.size w' D E n c m d L Bk ∧ Below w.heap.size w w'

/-- The values vs are rows that are blocks of their own. -/
def RowsH (B : Nat) (w : World) (vs : List Value) (L : List (List C)) : Prop := vs.length = L.length ∧ ∀ k (h : k < vs.length) (h' : k < L.length), ∃ g, B ≤ g ∧ vs[k] = .slice (some ⟨g, 0, none⟩) L[k].length L[k].length ∧ Row w g L[k]
theorem RowsH.nil (B : Nat) (w : World) : RowsH B w [] [] := ⟨rfl, fun k h => by simp at h⟩
theorem RowsH.v {B : Nat} {w : World} {vs : List Value} {L : List (List C)} (h : RowsH B w vs L) : RowsV B w vs L := ⟨h.1, fun k h1 h2 => by
  obtain ⟨g, hg, e, hr⟩ := h.2 k h1 h2
  exact ⟨_, _, e, Nat.le_refl _, hr.at hg⟩⟩
theorem RowsH.map {B : Nat} {w w' : World} {vs : List Value} {L : List (List C)} (h : RowsH B w vs L) (f : ∀ g l, B ≤ g → Row w g l → Row w' g l) : RowsH B w' vs L := ⟨h.1, fun k h1 h2 => by
  obtain ⟨g, hg, e, hr⟩ := h.2 k h1 h2
  exact ⟨g, hg, e, f _ _ hg hr⟩⟩
theorem RowsH.next {B : Nat} {w : World} {vs : List Value} {L : List (List C)} (h : RowsH B w vs L) {g : Nat} {l : List C} (hg : B ≤ g) (hr : Row w g l) : RowsH B w (vs ++ [.slice (some ⟨g, 0, none⟩) l.length l.length]) (L ++ [l]) := by
  refine ⟨by simp [h.1], fun k h1 h2 => ?_⟩
  have e := h.1
  rw [List.getElem_append, List.getElem_append]
  by_cases hk : k < vs.length
  · rw [dif_pos hk, dif_pos (by omega)]
    exact h.2 _ _ _
  · rw [dif_neg hk, dif_neg (by omega)]
    simp only [List.getElem_singleton]
    exact ⟨g, hg, rfl, hr⟩

def newNm (x y : Int) : Nm := ⟨x, y, 0, 0, false, 0, 0, y - 1, 0, 0, 0, false, false⟩
theorem blankL_next (x : Int) (k : Nat) : blankL x k ++ [blankF x] = blankL x (k + 1) := by simp [blankL, List.replicate_succ']
theorem blankL_len (x : Int) (k : Nat) : (blankL x k).length = k := by simp [blankL]
end Go.Proofs.Ytpcpmeihebgncaa

/-
  A whole screen out of and into memory in one step of a walk. No condition.
-/
namespace Go.Proofs.Ytpcpmeihebgncaa
open Go.RowKit
set_option maxRecDepth 100000

theorem gcs_size (p : Nm) (r b : Value) : (gcs p r b).size = 15 := rfl
theorem gcs_one (p : Nm) (D E : Option Addr) (n c m d : Nat) : (gcs p (.slice D n c) (.slice E m d)).all (·.oneCell') = true := by simp [gcs, Value.oneCell']
theorem box_size : (Try.prog.info? 35).map (·.size) = some 15 := by kernel_rfl
/-- A whole screen is read. -/
theorem wpList_loadB {ops : Array Oper} {rest : List Oper} {o : Oper} {a : Act} {w : World} {Q : Exit → Act → World → Prop} {x : Operand} {g : Nat} {p : Nm} {r b : Value} (h : Box w g p r b)
    (ho : o.op = .load 35 x) (hw : Region.wanted o (yielded ops a.tmps) = true) (hx : a.eval x = .pointer (some ⟨g, 0, none⟩))
    (k : wpList Try.prog ops Q rest (a.put o.dst (gv p r b)) w) : wpList Try.prog ops Q (o :: rest) a w :=
  wpList_step fun _ hK => by
    rw [if_pos hw]
    exact wp_load_row 35 x ho g hx 35 (gcs p r b) (0, 0) _ h Try.underlying35 rfl box_size (hK _ _ k)
/-- A whole screen is laid into a variable. -/
theorem wpList_storeB {ops : Array Oper} {rest : List Oper} {o : Oper} {a : Act} {w : World} {Q : Exit → Act → World → Prop} {x y : Operand} {z : Array Value} {p : Nm} {D E : Option Addr} {n c m d : Nat}
    (ho : o.op = .store 35 x y) (hw : Region.wanted o (yielded ops a.tmps) = true) (hz : z.size = 15) (hx : a.eval x = .pointer (some ⟨w.heap.size, 0, none⟩)) (hy : a.eval y = gv p (.slice D n c) (.slice E m d))
    (k : wpList Try.prog ops Q rest (a.put o.dst undef) (w.alloc (.cells (gcs p (.slice D n c) (.slice E m d)) 35))) : wpList Try.prog ops Q (o :: rest) a (w.alloc (.cells z 35)) :=
  wpList_step fun _ hK => by
    rw [if_pos hw]
    refine wp_store_row 35 x y ho w.heap.size _ hx hy 35 z (heap_alloc_last w _) box_size hz (gcs_one _ _ _ _ _ _ _) ?_
    rw [World.setRow_alloc_new]
    exact hK _ _ k
end Go.Proofs.Ytpcpmeihebgncaa

/-
  Rows of a table of which only the lengths are known: what of that stays when a cell is stored; the row of numbers that came in, and the literal that reads it. Conditions: the row that came in reads as numbers.
-/
namespace Go.Proofs.Ytpcpmeihebgncaa
open Go.RowKit
set_option maxRecDepth 100000

/-! ### masks -/
theorem and_low (n : Int) (m : Nat) (i : Nat) (hm : (BitVec.ofInt 64 (m : Int)).toNat = 2 ^ i - 1) (hi : i ≤ 8) : bits .and .i64 n m = n % ((2 ^ i : Nat) : Int) := by
  have key : (BitVec.ofInt 64 n &&& BitVec.ofInt 64 (m : Int)).toNat = (n % ((2 ^ 64 : Nat) : Int)).toNat % 2 ^ i := by
    rw [BitVec.toNat_and, BitVec.toNat_ofInt, hm, Nat.and_two_pow_sub_one_eq_mod]
  show IntKind.i64.wrap ((BitVec.ofInt 64 n &&& BitVec.ofInt 64 (m : Int)).toNat : Nat) = _
  rw [key, IntKind.wrap_i64]
  have h : i = 0 ∨ i = 1 ∨ i = 2 ∨ i = 3 ∨ i = 4 ∨ i = 5 ∨ i = 6 ∨ i = 7 ∨ i = 8 := by omega
  rcases h with rfl | rfl | rfl | rfl | rfl | rfl | rfl | rfl | rfl <;> simp only [Nat.reducePow] <;> omega
theorem i64_and1 (n : Int) : bits .and .i64 n 1 = n % 2 := and_low n 1 1 (by decide) (by decide)
theorem i64_and3 (n : Int) : bits .and .i64 n 3 = n % 4 := and_low n 3 2 (by decide) (by decide)
theorem i64_and7 (n : Int) : bits .and .i64 n 7 = n % 8 := and_low n 7 3 (by decide) (by decide)
theorem i64_and15 (n : Int) : bits .and .i64 n 15 = n % 16 := and_low n 15 4 (by decide) (by decide)
theorem i64_and63 (n : Int) : bits .and .i64 n 63 = n % 64 := and_low n 63 6 (by decide) (by decide)
theorem i64_and255 (n : Int) : bits .and .i64 n 255 = n % 256 := and_low n 255 8 (by decide) (by decide)

/-! ### rows that came in -/
def ReadI (w : World) (v : Value) (xs : List Int) : Prop := ∃ D c, v = .slice D xs.length c ∧ ∀ k : Nat, k < xs.length → ∃ (b off : Nat) (z : Int), D = some ⟨b, off, none⟩ ∧ b < w.heap.size ∧ xs[k]? = some z ∧ w.cell? ⟨b, off + k, none⟩ = some (.int .i64 z)
theorem ReadI.below {w w' : World} {B : Nat} {v : Value} {xs : List Int} (h : ReadI w v xs) (hb : Below B w w') (hB : w.heap.size ≤ B) : ReadI w' v xs := by
  obtain ⟨D, c, rfl, h⟩ := h
  refine ⟨D, c, rfl, fun k hk => ?_⟩
  obtain ⟨b, off, z, e, h1, h2, h3⟩ := h k hk
  exact ⟨b, off, z, e, Nat.lt_of_lt_of_le h1 hb.size, h2, (hb.cell (p := ⟨b, off + k, none⟩) (Nat.lt_of_lt_of_le h1 hB)).trans h3⟩

/-- What the literal k answers. -/
def kF (xs : List Int) (i : Nat) : Int := xs.getD i i
/-- The variable that k reads holds the row xs. -/
def KOk (w : World) (g : Nat) (xs : List Int) : Prop := ∃ v, Held w g 28 #[v] ∧ ReadI w v xs
theorem KOk.below {w w' : World} {B g : Nat} {xs : List Int} (h : KOk w g xs) (hb : Below B w w') (hB : w.heap.size ≤ B) : KOk w' g xs := by
  obtain ⟨v, h1, h2⟩ := h
  exact ⟨v, h1.below hb (Nat.lt_of_lt_of_le h1.lt hB), h2.below hb hB⟩
theorem k_any (i g : Nat) (xs : List Int) (w : World) (h : KOk w g xs) : Calls Try.prog 32 #[.int .i64 i, .pointer (some ⟨g, 0, none⟩)] w fun e w' => e = .returned (.int .i64 (kF xs i)) ∧ w = w' := by
  obtain ⟨v, h1, D, c, rfl, h2⟩ := h
  have hc : w.cell? ⟨g, 0, none⟩ = some (.slice D xs.length c) := h1.cell 0
  by_cases hi : i < xs.length
  · obtain ⟨b, off, z, rfl, _, hz, hcell⟩ := h2 i hi
    have e : kF xs i = z := by unfold kF; rw [List.getD_eq_getElem?_getD, hz]; rfl
    rw [e]
    have hii : (i : Int) < (xs.length : Int) := by omega
    go_enter Try.func32, Try.ntmps32
    go_wp2
    go_ret
    exact ⟨rfl, rfl⟩
  · have e : kF xs i = i := by unfold kF; rw [List.getD_eq_getElem?_getD, List.getElem?_eq_none (by omega)]; rfl
    rw [e]
    have hii : ¬ (i : Int) < (xs.length : Int) := by omega
    go_enter Try.func32, Try.ntmps32
    go_wp2
    go_ret
    exact ⟨rfl, rfl⟩

/-! ### rows of which the lengths are known -/
theorem pick_list {α : Type} {n : Nat} {P : Nat → α → Prop} (h : ∀ k, k < n → ∃ x, P k x) : ∃ l : List α, l.length = n ∧ ∀ k (hk : k < l.length), P k l[k] := by
  induction n with
  | zero => exact ⟨[], rfl, fun k hk => by simp at hk⟩
  | succ n ih =>
    obtain ⟨l, hl, hp⟩ := ih fun k hk => h k (by omega)
    obtain ⟨x, hx⟩ := h n (by omega)
    refine ⟨l ++ [x], by simp [hl], fun k hk => ?_⟩
    rw [List.getElem_append]
    split
    · exact hp _ _
    · rename_i hk2
      simp at hk
      obtain rfl : k = n := by omega
      simpa using hx
def RowN (B : Nat) (w : World) (D : Option Addr) (n : Nat) : Prop := ∃ l : List C, l.length = n ∧ RowAt B w D l
theorem RowN.set {B : Nat} {w : World} {D : Option Addr} {n : Nat} (h : RowN B w D n) {a : Addr} {old v : Value} (hc : w.cell? a = some old) (hv : ∀ k y, old = .int k y → ∃ x, v = .int k x) : RowN B (w.setCell a v) D n := by
  obtain ⟨l, rfl, hl⟩ := h
  have one : ∀ (b o : Nat) (kk : IntKind) (y : Int), w.cell? ⟨b, o, none⟩ = some (.int kk y) → ∃ x, (w.setCell a v).cell? ⟨b, o, none⟩ = some (.int kk x) := fun b o kk y hy => by
    by_cases e : a = ⟨b, o, none⟩
    · subst e
      rw [hc] at hy
      injection hy with hy
      obtain ⟨x, rfl⟩ := hv _ _ hy
      exact ⟨x, World.cell?_setCell_same _ _ _ hc⟩
    · exact ⟨y, (World.cell?_setCell_other _ _ _ _ (fun e' => e (by rw [e']))).trans hy⟩
  obtain ⟨l', hl', hp⟩ := pick_list (n := l.length) (P := fun k (x : C) => ∃ b off : Nat, D = some ⟨b, off, none⟩ ∧ B ≤ b ∧ b < (w.setCell a v).heap.size ∧ Free (w.setCell a v) b ∧ (w.setCell a v).cell? ⟨b, off + k * 2, none⟩ = some (.int .i32 x.r) ∧ (w.setCell a v).cell? ⟨b, off + k * 2 + 1, none⟩ = some (.int .i64 x.a)) fun k hk => by
    obtain ⟨b, off, e, h0, h1, hf, h2, h3⟩ := hl k hk
    obtain ⟨x, hx⟩ := one _ _ _ _ h2
    obtain ⟨y, hy⟩ := one _ _ _ _ h3
    exact ⟨⟨x, y⟩, b, off, e, h0, by simpa using h1, hf.set _ _, hx, hy⟩
  exact ⟨l', hl', fun k hk => hp k hk⟩
/-- A table of n rows, each of W cells. -/
def LN (B : Nat) (w : World) (tb tq n W : Nat) : Prop := ∃ vs : List Value, vs.length = n ∧ TabAt B w (some ⟨tb, tq, none⟩) vs ∧ ∀ k (_ : k < vs.length), ∃ D c, vs[k] = .slice D W c ∧ W ≤ c ∧ RowN B w D W
theorem LN.set {B : Nat} {w : World} {tb tq n W : Nat} (h : LN B w tb tq n W) {a : Addr} {old v : Value} (ha : a.block ≠ tb ∨ ∀ D n c, old ≠ .slice D n c) (hc : w.cell? a = some old) (hv : ∀ k y, old = .int k y → ∃ x, v = .int k x) : LN B (w.setCell a v) tb tq n W := by
  obtain ⟨vs, h1, h2, h3⟩ := h
  refine ⟨vs, h1, fun k hk => ?_, fun k hk => ?_⟩
  · obtain ⟨b, off, e, q0, q1, q2, q3⟩ := h2 k hk
    cases e
    refine ⟨tb, tq, rfl, q0, by simpa using q1, q2.set _ _, (World.cell?_setCell_other _ _ _ _ ?_).trans q3⟩
    rintro rfl
    rcases ha with ha | ha
    · exact ha rfl
    · obtain ⟨D, c, e, _⟩ := h3 k hk
      rw [hc, e] at q3
      injection q3 with q3
      exact ha _ _ _ q3
  · obtain ⟨D, c, e, hc', hr⟩ := h3 k hk
    exact ⟨D, c, e, hc', hr.set hc hv⟩
theorem LN.below {B A : Nat} {w w' : World} {tb tq n W : Nat} (h : LN B w tb tq n W) (hb : Below A w w') (hA : w.heap.size ≤ A) : LN B w' tb tq n W := by
  obtain ⟨vs, h1, h2, h3⟩ := h
  refine ⟨vs, h1, h2.below hb hA, fun k hk => ?_⟩
  obtain ⟨D, c, e, hc, l, hl, hr⟩ := h3 k hk
  exact ⟨D, c, e, hc, l, hl, hr.below hb hA⟩
theorem LN.lines {B : Nat} {w : World} {tb tq n W : Nat} (h : LN B w tb tq n W) : ∃ L : List (List C), L.length = n ∧ (∀ r ∈ L, r.length = W) ∧ Lines B w (some ⟨tb, tq, none⟩) L := by
  obtain ⟨vs, rfl, h2, h3⟩ := h
  obtain ⟨L, hL, hp⟩ := pick_list (n := vs.length) (P := fun k (l : List C) => ∃ (hk : k < vs.length), l.length = W ∧ RowV B w vs[k] l) fun k hk => by
    obtain ⟨D, c, e, hc, l, hl, hr⟩ := h3 k hk
    subst hl
    exact ⟨l, hk, rfl, D, c, e, hc, hr⟩
  refine ⟨L, hL, fun r hr => ?_, vs, h2, by rw [hL], fun k h1 h2 => ?_⟩
  · obtain ⟨k, hk, rfl⟩ := List.getElem_of_mem hr
    exact (hp k hk).choose_spec.1
  · exact (hp k h2).choose_spec.2
theorem Lines.ln {B : Nat} {w : World} {tb tq n W : Nat} {L : List (List C)} (h : Lines B w (some ⟨tb, tq, none⟩) L) (hn : L.length = n) (hW : ∀ r ∈ L, r.length = W) : LN B w tb tq n W := by
  obtain ⟨vs, h1, h2⟩ := h
  refine ⟨vs, by rw [h2.1, hn], h1, fun k hk => ?_⟩
  have hk' : k < L.length := by rw [← h2.1]; exact hk
  obtain ⟨D, c, e, hc, hr⟩ := h2.2 k hk hk'
  have := hW _ (List.getElem_mem hk')
  exact ⟨D, c, by rw [e, this], by omega, L[k], this, hr⟩
/-- Row k, and cell j of it. -/
theorem LN.at {B : Nat} {w : World} {tb tq n W : Nat} (h : LN B w tb tq n W) (k : Nat) (hk : k < n) : ∃ (D : Option Addr) (c : Nat), tb < w.heap.size ∧ B ≤ tb ∧ w.cell? ⟨tb, tq + k, none⟩ = some (.slice D W c) ∧ W ≤ c ∧ RowN B w D W := by
  obtain ⟨vs, rfl, h2, h3⟩ := h
  obtain ⟨b, off, e, q0, q1, q2, q3⟩ := h2 k hk
  cases e
  obtain ⟨D, c, e, hc, hr⟩ := h3 k hk
  exact ⟨D, c, q1, q0, by rw [q3, e], hc, hr⟩
theorem RowN.at {B : Nat} {w : World} {D : Option Addr} {n : Nat} (h : RowN B w D n) (k : Nat) (hk : k < n) : ∃ (b o : Nat) (x y : Int), D = some ⟨b, o, none⟩ ∧ B ≤ b ∧ b < w.heap.size ∧ Free w b ∧ w.cell? ⟨b, o + k * 2, none⟩ = some (.int .i32 x) ∧ w.cell? ⟨b, o + k * 2 + 1, none⟩ = some (.int .i64 y) := by
  obtain ⟨l, rfl, hl⟩ := h
  obtain ⟨b, o, e, h0, h1, hf, h2, h3⟩ := hl k hk
  exact ⟨b, o, _, _, e, h0, h1, hf, h2, h3⟩
/-- A screen's block holds no rune. -/
theorem Box.no_rune {w : World} {g b o : Nat} {p : Nm} {D E : Option Addr} {n c m d : Nat} {x : Int} (h : Box w g p (.slice D n c) (.slice E m d)) (hc : w.cell? ⟨b, o, none⟩ = some (.int .i32 x)) : b ≠ g := by
  rintro rfl
  rw [Held.cell h o] at hc
  have := Array.mem_of_getElem? hc
  simp [gcs] at this
/-- What a cell of a row that is stored leaves. -/
theorem put_keep {w : World} {g b o tb tq : Nat} {x y : Int} {A Z : Value} {D : Option Addr} {n c : Nat} (hg : b ≠ g) (hx : w.cell? ⟨b, o, none⟩ = some (.int .i32 x)) (hy : w.cell? ⟨b, o + 1, none⟩ = some (.int .i64 y)) (h0 : w.cell? ⟨g, 0, none⟩ = some A) (h1 : w.cell? ⟨g, 13, none⟩ = some Z) (h2 : w.cell? ⟨tb, tq, none⟩ = some (.slice D n c)) (u v : Value) :
    ((w.setCell ⟨b, o, none⟩ u).setCell ⟨b, o + 1, none⟩ v).cell? ⟨g, 0, none⟩ = some A ∧ ((w.setCell ⟨b, o, none⟩ u).setCell ⟨b, o + 1, none⟩ v).cell? ⟨g, 13, none⟩ = some Z ∧ ((w.setCell ⟨b, o, none⟩ u).setCell ⟨b, o + 1, none⟩ v).cell? ⟨tb, tq, none⟩ = some (.slice D n c) := by
  have hne : ∀ (q : Addr) (k : Nat) (V : Value), q.block = g → w.cell? q = some V → ((w.setCell ⟨b, o, none⟩ u).setCell ⟨b, k, none⟩ v).cell? q = some V := fun q k V hq h => by
    rw [World.cell?_setCell_other _ _ _ _ (by rintro rfl; exact hg hq), World.cell?_setCell_other _ _ _ _ (by rintro rfl; exact hg hq)]
    exact h
  refine ⟨hne _ _ _ rfl h0, hne _ _ _ rfl h1, ?_⟩
  rw [World.cell?_setCell_other _ _ _ _ (by intro e; rw [← e, hy] at h2; cases h2), World.cell?_setCell_other _ _ _ _ (by intro e; rw [← e, hx] at h2; cases h2)]
  exact h2
/-- A table's block is no screen's. -/
theorem Held.no_rune {w : World} {g b o : Nat} {v : Value} {x : Int} {t : TypeId} {c : Nat} {D : Option Addr} {n : Nat} (h : Held w g t #[v]) (hv : v = .slice D n c) (hc : w.cell? ⟨b, o, none⟩ = some (.int .i32 x)) : b ≠ g := by
  rintro rfl
  rw [Held.cell h o] at hc
  have := Array.mem_of_getElem? hc
  simp [hv] at this
end Go.Proofs.Ytpcpmeihebgncaa

/-
  What within, told, ownLines of package acts answer. Conditions: lines of at most a thousand cells, at most 1,050 of them.
-/
namespace Go.Proofs.Ytpcpmeihebgncaa
open Go.RowKit
set_option maxRecDepth 100000

set_option maxHeartbeats 400000 in
theorem awithin_any (n m : Int) (w : World) : Calls Try.prog 99 #[.int .i64 n, .int .i64 m] w fun e w' => e = .returned (.int .i64 (withinF n m)) ∧ w = w' := by
  go_enter Try.func99, Try.ntmps99
  go_wp2
  all_goals
    go_ret
    refine ⟨ret_i ?_, rfl⟩
    unfold withinF
    rename_i h1
    split at h1 <;> omega

set_option maxHeartbeats 400000 in
theorem aown_any (D : Option Addr) (c : Nat) (M : List (List C)) (w : World) (hr : Lines 0 w D M) (hn : M.length ≤ 1050) (hl : ∀ r ∈ M, r.length ≤ 1000) : Calls Try.prog 49 #[.slice D M.length c] w (LinesPost w M) := by
  have hm := run_makeL w M.length (by omega)
  have HS := Lib.hid (FillSt.start w M)
  have HR := Lib.hid hr
  clear hr
  go_enter Try.func49, Try.ntmps49
  go_wp2_with fail
  go_loopw [11] (FillRel w w.heap.size M) (fun i _ => M.length - (intOf i).toNat)
  case atStart => exact ⟨[], rfl, HS.out⟩
  case round =>
    obtain ⟨vs, rfl, hst⟩ := hrel
    by_cases hlt : vs.length < M.length
    · have hki : (vs.length : Int) < (M.length : Int) := by omega
      obtain ⟨b, off, E, ce, rfl, _, hbl, _, hcell, hce, hrow⟩ := (HR.out.below hst.below (Nat.le_refl _)).at vs.length hlt
      have hrn : M[vs.length].length ≤ 1000 := hl _ (List.getElem_mem _)
      have HROW := Lib.hid hrow
      clear hrow
      have HCL := Lib.hid (clone_any E ce M[vs.length] wr HROW.out hrn)
      have HST := Lib.hid hst
      have hfl := fillV_cell hst.table hlt
      have hgl := hst.table.lt
      have hfz := hst.table.frozen
      clear hst hrn
      generalize hq : M[vs.length] = q at *
      have HQ := Lib.hid hq
      clear hq
      go_wp2_with (
        go_at_call 95
        refine HCL.out.mono ?_
        rintro e w1 ⟨D1, c1, rfl, hc1, hr1, hb1⟩
        have hfl1 := (fillV_cell (HST.out.table.below hb1 hgl) hlt)
        have hfz1 := (HST.out.table.below hb1 hgl).frozen)
      go_roundw
      case rel =>
        refine ⟨vs ++ [.slice D1 q.length c1], by simp, HST.out.next (Nat.le_refl _) hb1 hlt ⟨D1, c1, ?_, ?_, ?_⟩⟩
        · rw [HQ.out]
        · rw [HQ.out]; exact hc1
        · rw [HQ.out]; exact hr1
      case measure => simp [intOf]; omega
    · have ek : vs.length = M.length := by have := hst.le; omega
      have hki : ¬ (vs.length : Int) < (M.length : Int) := by omega
      have HP := Lib.hid (hst.post (Nat.le_refl _) ek)
      clear hst ek
      go_wp2_with fail
      go_ret
      exact HP.out


end Go.Proofs.Ytpcpmeihebgncaa

/-
  A whole screen laid into a variable that there was, in one step of a walk. No condition.
-/
namespace Go.Proofs.Ytpcpmeihebgncaa
open Go.RowKit

theorem cell_eq {w w' : World} {b o : Nat} (h : w'.heap[b]? = w.heap[b]?) : w'.cell? ⟨b, o, none⟩ = w.cell? ⟨b, o, none⟩ := by simp [World.cell?, h]
theorem Free.eq {w w' : World} {b : Nat} (hf : Free w b) (h : w'.heap[b]? = w.heap[b]?) : Free w' b := fun o => by
  have := hf o
  simpa [World.frozen?, h] using this
theorem RowAt.eq {B : Nat} {w w' : World} {D : Option Addr} {l : List C} (h : RowAt B w D l) (hs : w.heap.size ≤ w'.heap.size) (hf : ∀ b o x, B ≤ b → b < w.heap.size → w.cell? ⟨b, o, none⟩ = some (.int .i32 x) → w'.heap[b]? = w.heap[b]?) : RowAt B w' D l := fun k hk => by
  obtain ⟨b, off, e, h0, h1, hr, h2, h3⟩ := h k hk
  have he := hf _ _ _ h0 h1 h2
  exact ⟨b, off, e, h0, by omega, hr.eq he, (cell_eq he).trans h2, (cell_eq he).trans h3⟩
theorem TabAt.eq {B : Nat} {w w' : World} {D : Option Addr} {vs : List Value} (h : TabAt B w D vs) (hs : w.heap.size ≤ w'.heap.size) (hf : ∀ b o, D = some ⟨b, o, none⟩ → B ≤ b → w'.heap[b]? = w.heap[b]?) : TabAt B w' D vs := fun k hk => by
  obtain ⟨b, off, e, h0, h1, hr, h2⟩ := h k hk
  have he := hf _ _ e h0
  exact ⟨b, off, e, h0, by omega, hr.eq he, (cell_eq he).trans h2⟩
theorem Lines.eq {B : Nat} {w w' : World} {D : Option Addr} {L : List (List C)} (h : Lines B w D L) (hs : w.heap.size ≤ w'.heap.size) (hf : ∀ b, B ≤ b → w'.heap[b]? = w.heap[b]?) : Lines B w' D L := by
  obtain ⟨vs, h1, h2⟩ := h
  refine ⟨vs, h1.eq hs fun b _ _ hb => hf b hb, h2.1, fun k a b => ?_⟩
  obtain ⟨D', c, e, hc, hr⟩ := h2.2 k a b
  exact ⟨D', c, e, hc, hr.eq hs fun b _ _ hb _ _ => hf b hb⟩
theorem below_setRow {B : Nat} {w w' : World} (h : Below B w w') {g : Nat} (hg : B ≤ g) (cs : Array Value) : Below B w (w'.setRow g cs) :=
  ⟨h.os, h.tape, h.output, by simpa using h.size, fun k hk => (setRow_other w' g k cs (by omega)).trans (h.block k hk)⟩
theorem Box.setRow {w : World} {g : Nat} {q : Nm} {r0 b0 : Value} (h : Box w g q r0 b0) (p : Nm) (r b : Value) : Box (w.setRow g (gcs p r b)) g p r b := setRow_heap w g _ _ 35 (0, 0) h
/-- A whole screen is laid into a variable that there was. -/
theorem wpList_storeA {ops : Array Oper} {rest : List Oper} {o : Oper} {a : Act} {w : World} {Q : Exit → Act → World → Prop} {x y : Operand} {g : Nat} {q : Nm} {r0 b0 : Value} (h : Box w g q r0 b0) {p : Nm} {D E : Option Addr} {n c m d : Nat}
    (ho : o.op = .store 35 x y) (hw : Region.wanted o (yielded ops a.tmps) = true) (hx : a.eval x = .pointer (some ⟨g, 0, none⟩)) (hy : a.eval y = gv p (.slice D n c) (.slice E m d))
    (k : wpList Try.prog ops Q rest (a.put o.dst undef) (w.setRow g (gcs p (.slice D n c) (.slice E m d)))) : wpList Try.prog ops Q (o :: rest) a w :=
  wpList_step fun _ hK => by
    rw [if_pos hw]
    exact wp_store_row 35 x y ho g _ hx hy 35 _ h box_size (gcs_size _ _ _) (gcs_one _ _ _ _ _ _ _) (hK _ _ k)

end Go.Proofs.Ytpcpmeihebgncaa

/-
  What moved of package acts answers: the cursor held to the screen, no wrap waiting, all else as it was. Condition: the screen's sides lie between 1 and 1,000.
-/
namespace Go.Proofs.Ytpcpmeihebgncaa
open Go.RowKit
set_option maxRecDepth 100000

def ValPost (v : Value) (w : World) (e : Ending) (w' : World) : Prop := e = .returned v ∧ Below w.heap.size w w'
/-- The cursor goes to x, y, as far as the screen goes. -/
def movedNm (p : Nm) (x y : Int) : Nm := { p with x := withinF x (p.w - 1), y := withinF y (p.h - 1), wrap := false }
/-- The box that is turned, the answer's box. -/
structure MS (w : World) (p : Nm) (r b : Value) (wx : World) : Prop where
  box : Box wx w.heap.size p r b
  ans : Box wx (w.heap.size + 1) zeroNm nilV nilV
  below : Below w.heap.size w wx
theorem MS.drew {w : World} {p : Nm} {r b : Value} {wx : World} (h : MS w p r b wx) : MS w p r b wx.drew := ⟨h.box, h.ans, below_drewN h.below 1⟩
theorem MS.far {w : World} {p p' : Nm} {r b r' b' : Value} {wx : World} (h : MS w p r b wx) {o : Nat} {v : Value} (hb : Box (wx.setCell ⟨w.heap.size, o, none⟩ v) w.heap.size p' r' b') : MS w p' r' b' (wx.setCell ⟨w.heap.size, o, none⟩ v) :=
  ⟨hb, h.ans.far (q := ⟨w.heap.size, o, none⟩) (by exact (by omega : w.heap.size + 1 ≠ w.heap.size)) _, h.below.setCell (p := ⟨w.heap.size, o, none⟩) (Nat.le_refl _) _⟩
theorem MS.start (w : World) (p : Nm) (r b : Value) : MS w p r b ((w.alloc (.cells (gcs p r b) 35)).alloc (.cells (gcs zeroNm nilV nilV) 35)) :=
  ⟨(Box.new w p r b).alloc _, by have := Box.new (w.alloc (.cells (gcs p r b) 35)) zeroNm nilV nilV; simpa using this, ((Below.refl _ _).alloc (Nat.le_refl _) _).alloc (by simp) _⟩

set_option maxHeartbeats 4000000 in
theorem moved_any (p : Nm) (D E : Option Addr) (n c m d : Nat) (x y : Int) (w : World) (h0 : 1 ≤ p.w) (h1 : p.w ≤ 1000) (h2 : 1 ≤ p.h) (h3 : p.h ≤ 1000) :
    Calls Try.prog 54 #[gv p (.slice D n c) (.slice E m d), .int .i64 x, .int .i64 y] w (ValPost (gv (movedNm p x y) (.slice D n c) (.slice E m d)) w) := by
  have rs := MS.start w p (.slice D n c) (.slice E m d)
  have HS := Lib.hid rs
  clear rs
  unfold gv gcs
  go_enter Try.func54, Try.ntmps54
  go_upto_region 1 with fail
  refine wp_world (fun wq => MS w p (.slice D n c) (.slice E m d) wq) HS.out ?_
  clear HS
  intro w2 rs
  have rsd := rs.drew
  have rs1q := rs.far (rs.box.set_x (withinF x (p.w - 1)))
  have rs1 := rs1q.drew
  have rs2 := (rs1q.far (rs1q.box.set_y (withinF y (p.h - 1)))).drew
  have u0 := rsd.box.cells.c0
  have u1 := rsd.box.cells.c1
  have u2 := rsd.box.cells.c2
  have uf := rsd.box.cells.free
  have v0 := rs1.box.cells.c0
  have v1 := rs1.box.cells.c1
  have v3 := rs1.box.cells.c3
  have vf := rs1.box.cells.free
  have t0 := rs2.box.cells.c0
  have t1 := rs2.box.cells.c1
  dsimp only at u0 u1 u2 v0 v1 v3 t0 t1
  have s1 : IntKind.i64.wrap (p.w - 1) = p.w - 1 := IntWalk.i64_in _ (by omega)
  have s2 : IntKind.i64.wrap (p.h - 1) = p.h - 1 := IntWalk.i64_in _ (by omega)
  go_region_held3 (fun w' => w'.cell? ⟨w.heap.size, 0, none⟩ = some (.int .i64 p.w) ∧ w'.cell? ⟨w.heap.size, 1, none⟩ = some (.int .i64 p.h))
    (first
      | with_reducible exact ⟨u0, u1⟩
      | with_reducible exact ⟨v0, v1⟩
      | with_reducible exact ⟨t0, t1⟩
      | fail)
    ((go_at_call 99
      (with_reducible refine (awithin_any _ _ _).mono ?_)
      rintro e w' ⟨rfl, rfl⟩))
  clear u0 u1 u2 uf v0 v1 v3 vf t0 t1 s1 s2 rs1 rs1q rsd
  generalize (((w2.setCell ⟨w.heap.size, 2, none⟩ (.int .i64 (withinF x (p.w - 1)))).setCell ⟨w.heap.size, 3, none⟩ (.int .i64 (withinF y (p.h - 1)))).drew) = w3 at *
  clear rs
  have x4 := rs2.box.cells.c4
  have xf := rs2.box.cells.free
  have hz1 := rs2.box.lt
  have hz2 := rs2.ans.lt
  go_upto_region 3 with fail
  have rs3 := rs2.far (rs2.box.set_wrap false)
  clear x4 xf rs2
  dsimp only at rs3
  change MS w (movedNm p x y) _ _ _ at rs3
  generalize (w3.setCell ⟨w.heap.size, 4, none⟩ (.bool false)) = w4 at *
  have xg := rs3.box
  have xa := rs3.ans
  generalize movedNm p x y = q at *
  go_wp2_with (first
    | (with_reducible refine wpList_loadB xg (x := .tmp 3) ?_ ?_ ?_ ?_
       · with_reducible rfl
       · rfl
       · rfl)
    | (with_reducible refine wpList_storeA xa (x := .tmp 6) (y := .tmp 20) (p := q) (D := D) (E := E) (n := n) (c := c) (m := m) (d := d) ?_ ?_ ?_ ?_ ?_
       · with_reducible rfl
       · rfl
       · rfl
       · rfl))
  refine bodyPost_ret (v := gv q (.slice D n c) (.slice E m d)) (results_cell_row (P := Try.prog) Try.results54 _ _ (w.heap.size + 1) 35 _ (0, 0) _ rfl (xa.setRow q _ _) Try.underlying35 rfl box_size) rfl ?_
  exact ⟨rfl, below_setRow rs3.below (Nat.le_succ _) _⟩
end Go.Proofs.Ytpcpmeihebgncaa

/-
  What told of package acts answers: the parameter, or what is otherwise. No condition.
-/
namespace Go.Proofs.Ytpcpmeihebgncaa
open Go.RowKit
set_option maxRecDepth 100000

/-- Parameter i, or o where it is none, or 0 or below. -/
def toldF (xs : List Int) (i : Nat) (o : Int) : Int := match xs[i]? with
  | some z => if z ≤ 0 then o else min z 1048576
  | none => o

set_option maxHeartbeats 1000000 in
theorem told_any (D : Option Addr) (c : Nat) (xs : List Int) (i : Nat) (o : Int) (w : World) (hr : ReadI w (.slice D xs.length c) xs) : Calls Try.prog 56 #[.slice D xs.length c, .int .i64 i, .int .i64 o] w fun e w' => e = .returned (.int .i64 (toldF xs i o)) ∧ w = w' := by
  obtain ⟨D', c', e, hr⟩ := hr
  simp only [Value.slice.injEq] at e
  obtain ⟨rfl, _, rfl⟩ := e
  by_cases h : i < xs.length
  · obtain ⟨b, off, z, rfl, hb, hz, hc⟩ := hr i h
    have hge : ¬ ((i : Int) ≥ (xs.length : Int)) := by omega
    clear hr
    by_cases h0 : z ≤ 0
    · have et : toldF xs i o = o := by unfold toldF; rw [hz]; simp [h0]
      rw [et]
      clear et hz
      go_enter Try.func56, Try.ntmps56
      go_wp2
      go_ret
      exact ⟨rfl, rfl⟩
    · have et : toldF xs i o = min z 1048576 := by unfold toldF; rw [hz]; simp [h0]
      rw [et]
      clear et hz
      go_enter Try.func56, Try.ntmps56
      go_wp2
      all_goals
        go_ret
        refine ⟨ret_i ?_, rfl⟩
        omega
  · have hge : (i : Int) ≥ (xs.length : Int) := by omega
    have et : toldF xs i o = o := by unfold toldF; rw [List.getElem?_eq_none (by omega)]
    rw [et]
    clear et hr
    go_enter Try.func56, Try.ntmps56
    go_wp2
    go_ret
    exact ⟨rfl, rfl⟩
end Go.Proofs.Ytpcpmeihebgncaa

/-
  What sequenced of package acts answers for the moves: the cursor goes as far as it is told. Conditions: the screen's sides lie between 1 and 1,000, the cursor is on it.
-/
namespace Go.Proofs.Ytpcpmeihebgncaa
open Go.RowKit
set_option maxRecDepth 100000

/-- A screen's sides, and its cursor on it. -/
structure On (p : Nm) : Prop where
  w0 : 1 ≤ p.w
  w1 : p.w ≤ 1000
  h0 : 1 ≤ p.h
  h1 : p.h ≤ 1000
  x0 : 0 ≤ p.x
  x1 : p.x < p.w
  y0 : 0 ≤ p.y
  y1 : p.y < p.h
theorem told_le {xs : List Int} {i : Nat} {o : Int} (h0 : 1 ≤ o) (h1 : o ≤ 1048576) : 1 ≤ toldF xs i o ∧ toldF xs i o ≤ 1048576 := by
  unfold toldF
  split
  · split <;> omega
  · omega


set_option maxHeartbeats 4000000 in
theorem seq_A (p : Nm) (D E PD : Option Addr) (n c m d pc : Nat) (xs : List Int) (w : World) (hr : ReadI w (.slice PD xs.length pc) xs) (hp : On p) :
    Calls Try.prog 30 #[gv p (.slice D n c) (.slice E m d), .int .i32 65, .slice PD xs.length pc] w (ValPost (gv (movedNm p p.x (p.y - toldF xs 0 1)) (.slice D n c) (.slice E m d)) w) := by
  have HS := Lib.hid (MS.start w p (.slice D n c) (.slice E m d))
  have HT : Hid (∀ wx, Below w.heap.size w wx → Calls Try.prog 56 #[.slice PD xs.length pc, .int .i64 0, .int .i64 1] wx fun e w' => e = .returned (.int .i64 (toldF xs 0 1)) ∧ wx = w') := fun wx hb => told_any PD pc xs 0 1 wx (hr.below hb (Nat.le_refl _))
  obtain ⟨k0, k1⟩ := told_le (xs := xs) (i := 0) (o := 1) (by omega) (by omega)
  generalize toldF xs 0 1 = k at *
  obtain ⟨w0, w1, h0, h1, x0, x1, y0, y1⟩ := hp
  have s1 : IntKind.i64.wrap (p.y - k) = p.y - k := IntWalk.i64_in _ (by omega)
  clear hr
  unfold gv gcs
  go_enter Try.func30, Try.ntmps30
  go_upto_region 1 with fail
  refine wp_world (fun wq => MS w p (.slice D n c) (.slice E m d) wq) HS.out ?_
  clear HS
  intro w2 rs
  have xg := rs.box
  have u2 := xg.cells.c2
  have u3 := xg.cells.c3
  have HM := Lib.hid (fun X Y => moved_any p D E n c m d X Y w2 w0 w1 h0 h1)
  have HR := Lib.hid rs
  clear rs w0 w1 h0 h1
  go_wp2_with (first
    | (go_at_call 56
       refine (HT.out _ HR.out.below).mono ?_
       rintro e w' ⟨rfl, rfl⟩)
    | (with_reducible refine wpList_loadB xg (x := .tmp 3) ?_ ?_ ?_ ?_
       · with_reducible rfl
       · rfl
       · rfl)
    | (go_at_call 54
       refine (HM.out _ _).mono ?_
       clear HM
       rintro e w5 ⟨rfl, hb5⟩
       have xa := HR.out.ans.below hb5 HR.out.ans.lt
       generalize hq : movedNm p p.x (p.y - k) = q at *)
    | (with_reducible refine wpList_storeA xa (x := .tmp 6) (y := .tmp 20) (p := q) (D := D) (E := E) (n := n) (c := c) (m := m) (d := d) ?_ ?_ ?_ ?_ ?_
       · with_reducible rfl
       · rfl
       · rfl
       · rfl))
  refine bodyPost_ret (v := gv q (.slice D n c) (.slice E m d)) (results_cell_row (P := Try.prog) Try.results30 _ _ (w.heap.size + 1) 35 _ (0, 0) _ rfl (xa.setRow q _ _) Try.underlying35 rfl box_size) rfl ?_
  exact ⟨rfl, below_setRow (HR.out.below.trans (hb5.mono HR.out.below.size)) (Nat.le_succ _) _⟩

set_option maxHeartbeats 4000000 in
theorem seq_B (p : Nm) (D E PD : Option Addr) (n c m d pc : Nat) (xs : List Int) (w : World) (hr : ReadI w (.slice PD xs.length pc) xs) (hp : On p) :
    Calls Try.prog 30 #[gv p (.slice D n c) (.slice E m d), .int .i32 66, .slice PD xs.length pc] w (ValPost (gv (movedNm p p.x (p.y + toldF xs 0 1)) (.slice D n c) (.slice E m d)) w) := by
  have HS := Lib.hid (MS.start w p (.slice D n c) (.slice E m d))
  have HT : Hid (∀ wx, Below w.heap.size w wx → Calls Try.prog 56 #[.slice PD xs.length pc, .int .i64 0, .int .i64 1] wx fun e w' => e = .returned (.int .i64 (toldF xs 0 1)) ∧ wx = w') := fun wx hb => told_any PD pc xs 0 1 wx (hr.below hb (Nat.le_refl _))
  obtain ⟨k0, k1⟩ := told_le (xs := xs) (i := 0) (o := 1) (by omega) (by omega)
  generalize toldF xs 0 1 = k at *
  obtain ⟨w0, w1, h0, h1, x0, x1, y0, y1⟩ := hp
  have s1 : IntKind.i64.wrap (p.y + k) = p.y + k := IntWalk.i64_in _ (by omega)
  clear hr
  unfold gv gcs
  go_enter Try.func30, Try.ntmps30
  go_upto_region 1 with fail
  refine wp_world (fun wq => MS w p (.slice D n c) (.slice E m d) wq) HS.out ?_
  clear HS
  intro w2 rs
  have xg := rs.box
  have u2 := xg.cells.c2
  have u3 := xg.cells.c3
  have HM := Lib.hid (fun X Y => moved_any p D E n c m d X Y w2 w0 w1 h0 h1)
  have HR := Lib.hid rs
  clear rs w0 w1 h0 h1
  go_wp2_with (first
    | (go_at_call 56
       refine (HT.out _ HR.out.below).mono ?_
       rintro e w' ⟨rfl, rfl⟩)
    | (with_reducible refine wpList_loadB xg (x := .tmp 3) ?_ ?_ ?_ ?_
       · with_reducible rfl
       · rfl
       · rfl)
    | (go_at_call 54
       refine (HM.out _ _).mono ?_
       clear HM
       rintro e w5 ⟨rfl, hb5⟩
       have xa := HR.out.ans.below hb5 HR.out.ans.lt
       generalize hq : movedNm p p.x (p.y + k) = q at *)
    | (with_reducible refine wpList_storeA xa (x := .tmp 6) (y := .tmp 30) (p := q) (D := D) (E := E) (n := n) (c := c) (m := m) (d := d) ?_ ?_ ?_ ?_ ?_
       · with_reducible rfl
       · rfl
       · rfl
       · rfl))
  refine bodyPost_ret (v := gv q (.slice D n c) (.slice E m d)) (results_cell_row (P := Try.prog) Try.results30 _ _ (w.heap.size + 1) 35 _ (0, 0) _ rfl (xa.setRow q _ _) Try.underlying35 rfl box_size) rfl ?_
  exact ⟨rfl, below_setRow (HR.out.below.trans (hb5.mono HR.out.below.size)) (Nat.le_succ _) _⟩

set_option maxHeartbeats 4000000 in
theorem seq_C (p : Nm) (D E PD : Option Addr) (n c m d pc : Nat) (xs : List Int) (w : World) (hr : ReadI w (.slice PD xs.length pc) xs) (hp : On p) :
    Calls Try.prog 30 #[gv p (.slice D n c) (.slice E m d), .int .i32 67, .slice PD xs.length pc] w (ValPost (gv (movedNm p (p.x + toldF xs 0 1) p.y) (.slice D n c) (.slice E m d)) w) := by
  have HS := Lib.hid (MS.start w p (.slice D n c) (.slice E m d))
  have HT : Hid (∀ wx, Below w.heap.size w wx → Calls Try.prog 56 #[.slice PD xs.length pc, .int .i64 0, .int .i64 1] wx fun e w' => e = .returned (.int .i64 (toldF xs 0 1)) ∧ wx = w') := fun wx hb => told_any PD pc xs 0 1 wx (hr.below hb (Nat.le_refl _))
  obtain ⟨k0, k1⟩ := told_le (xs := xs) (i := 0) (o := 1) (by omega) (by omega)
  generalize toldF xs 0 1 = k at *
  obtain ⟨w0, w1, h0, h1, x0, x1, y0, y1⟩ := hp
  have s1 : IntKind.i64.wrap (p.x + k) = p.x + k := IntWalk.i64_in _ (by omega)
  clear hr
  unfold gv gcs
  go_enter Try.func30, Try.ntmps30
  go_upto_region 1 with fail
  refine wp_world (fun wq => MS w p (.slice D n c) (.slice E m d) wq) HS.out ?_
  clear HS
  intro w2 rs
  have xg := rs.box
  have u2 := xg.cells.c2
  have u3 := xg.cells.c3
  have HM := Lib.hid (fun X Y => moved_any p D E n c m d X Y w2 w0 w1 h0 h1)
  have HR := Lib.hid rs
  clear rs w0 w1 h0 h1
  go_wp2_with (first
    | (go_at_call 56
       refine (HT.out _ HR.out.below).mono ?_
       rintro e w' ⟨rfl, rfl⟩)
    | (with_reducible refine wpList_loadB xg (x := .tmp 3) ?_ ?_ ?_ ?_
       · with_reducible rfl
       · rfl
       · rfl)
    | (go_at_call 54
       refine (HM.out _ _).mono ?_
       clear HM
       rintro e w5 ⟨rfl, hb5⟩
       have xa := HR.out.ans.below hb5 HR.out.ans.lt
       generalize hq : movedNm p (p.x + k) p.y = q at *)
    | (with_reducible refine wpList_storeA xa (x := .tmp 6) (y := .tmp 40) (p := q) (D := D) (E := E) (n := n) (c := c) (m := m) (d := d) ?_ ?_ ?_ ?_ ?_
       · with_reducible rfl
       · rfl
       · rfl
       · rfl))
  refine bodyPost_ret (v := gv q (.slice D n c) (.slice E m d)) (results_cell_row (P := Try.prog) Try.results30 _ _ (w.heap.size + 1) 35 _ (0, 0) _ rfl (xa.setRow q _ _) Try.underlying35 rfl box_size) rfl ?_
  exact ⟨rfl, below_setRow (HR.out.below.trans (hb5.mono HR.out.below.size)) (Nat.le_succ _) _⟩

set_option maxHeartbeats 4000000 in
theorem seq_D (p : Nm) (D E PD : Option Addr) (n c m d pc : Nat) (xs : List Int) (w : World) (hr : ReadI w (.slice PD xs.length pc) xs) (hp : On p) :
    Calls Try.prog 30 #[gv p (.slice D n c) (.slice E m d), .int .i32 68, .slice PD xs.length pc] w (ValPost (gv (movedNm p (p.x - toldF xs 0 1) p.y) (.slice D n c) (.slice E m d)) w) := by
  have HS := Lib.hid (MS.start w p (.slice D n c) (.slice E m d))
  have HT : Hid (∀ wx, Below w.heap.size w wx → Calls Try.prog 56 #[.slice PD xs.length pc, .int .i64 0, .int .i64 1] wx fun e w' => e = .returned (.int .i64 (toldF xs 0 1)) ∧ wx = w') := fun wx hb => told_any PD pc xs 0 1 wx (hr.below hb (Nat.le_refl _))
  obtain ⟨k0, k1⟩ := told_le (xs := xs) (i := 0) (o := 1) (by omega) (by omega)
  generalize toldF xs 0 1 = k at *
  obtain ⟨w0, w1, h0, h1, x0, x1, y0, y1⟩ := hp
  have s1 : IntKind.i64.wrap (p.x - k) = p.x - k := IntWalk.i64_in _ (by omega)
  clear hr
  unfold gv gcs
  go_enter Try.func30, Try.ntmps30
  go_upto_region 1 with fail
  refine wp_world (fun wq => MS w p (.slice D n c) (.slice E m d) wq) HS.out ?_
  clear HS
  intro w2 rs
  have xg := rs.box
  have u2 := xg.cells.c2
  have u3 := xg.cells.c3
  have HM := Lib.hid (fun X Y => moved_any p D E n c m d X Y w2 w0 w1 h0 h1)
  have HR := Lib.hid rs
  clear rs w0 w1 h0 h1
  go_wp2_with (first
    | (go_at_call 56
       refine (HT.out _ HR.out.below).mono ?_
       rintro e w' ⟨rfl, rfl⟩)
    | (with_reducible refine wpList_loadB xg (x := .tmp 3) ?_ ?_ ?_ ?_
       · with_reducible rfl
       · rfl
       · rfl)
    | (go_at_call 54
       refine (HM.out _ _).mono ?_
       clear HM
       rintro e w5 ⟨rfl, hb5⟩
       have xa := HR.out.ans.below hb5 HR.out.ans.lt
       generalize hq : movedNm p (p.x - k) p.y = q at *)
    | (with_reducible refine wpList_storeA xa (x := .tmp 6) (y := .tmp 50) (p := q) (D := D) (E := E) (n := n) (c := c) (m := m) (d := d) ?_ ?_ ?_ ?_ ?_
       · with_reducible rfl
       · rfl
       · rfl
       · rfl))
  refine bodyPost_ret (v := gv q (.slice D n c) (.slice E m d)) (results_cell_row (P := Try.prog) Try.results30 _ _ (w.heap.size + 1) 35 _ (0, 0) _ rfl (xa.setRow q _ _) Try.underlying35 rfl box_size) rfl ?_
  exact ⟨rfl, below_setRow (HR.out.below.trans (hb5.mono HR.out.below.size)) (Nat.le_succ _) _⟩

set_option maxHeartbeats 4000000 in
theorem seq_G (p : Nm) (D E PD : Option Addr) (n c m d pc : Nat) (xs : List Int) (w : World) (hr : ReadI w (.slice PD xs.length pc) xs) (hp : On p) :
    Calls Try.prog 30 #[gv p (.slice D n c) (.slice E m d), .int .i32 71, .slice PD xs.length pc] w (ValPost (gv (movedNm p (toldF xs 0 1 - 1) p.y) (.slice D n c) (.slice E m d)) w) := by
  have HS := Lib.hid (MS.start w p (.slice D n c) (.slice E m d))
  have HT : Hid (∀ wx, Below w.heap.size w wx → Calls Try.prog 56 #[.slice PD xs.length pc, .int .i64 0, .int .i64 1] wx fun e w' => e = .returned (.int .i64 (toldF xs 0 1)) ∧ wx = w') := fun wx hb => told_any PD pc xs 0 1 wx (hr.below hb (Nat.le_refl _))
  obtain ⟨k0, k1⟩ := told_le (xs := xs) (i := 0) (o := 1) (by omega) (by omega)
  generalize toldF xs 0 1 = k at *
  obtain ⟨w0, w1, h0, h1, x0, x1, y0, y1⟩ := hp
  have s1 : IntKind.i64.wrap (k - 1) = k - 1 := IntWalk.i64_in _ (by omega)
  clear hr
  unfold gv gcs
  go_enter Try.func30, Try.ntmps30
  go_upto_region 1 with fail
  refine wp_world (fun wq => MS w p (.slice D n c) (.slice E m d) wq) HS.out ?_
  clear HS
  intro w2 rs
  have xg := rs.box
  have u2 := xg.cells.c2
  have u3 := xg.cells.c3
  have HM := Lib.hid (fun X Y => moved_any p D E n c m d X Y w2 w0 w1 h0 h1)
  have HR := Lib.hid rs
  clear rs w0 w1 h0 h1
  go_wp2_with (first
    | (go_at_call 56
       refine (HT.out _ HR.out.below).mono ?_
       rintro e w' ⟨rfl, rfl⟩)
    | (with_reducible refine wpList_loadB xg (x := .tmp 3) ?_ ?_ ?_ ?_
       · with_reducible rfl
       · rfl
       · rfl)
    | (go_at_call 54
       refine (HM.out _ _).mono ?_
       clear HM
       rintro e w5 ⟨rfl, hb5⟩
       have xa := HR.out.ans.below hb5 HR.out.ans.lt
       generalize hq : movedNm p (k - 1) p.y = q at *)
    | (with_reducible refine wpList_storeA xa (x := .tmp 6) (y := .tmp 58) (p := q) (D := D) (E := E) (n := n) (c := c) (m := m) (d := d) ?_ ?_ ?_ ?_ ?_
       · with_reducible rfl
       · rfl
       · rfl
       · rfl))
  refine bodyPost_ret (v := gv q (.slice D n c) (.slice E m d)) (results_cell_row (P := Try.prog) Try.results30 _ _ (w.heap.size + 1) 35 _ (0, 0) _ rfl (xa.setRow q _ _) Try.underlying35 rfl box_size) rfl ?_
  exact ⟨rfl, below_setRow (HR.out.below.trans (hb5.mono HR.out.below.size)) (Nat.le_succ _) _⟩

set_option maxHeartbeats 4000000 in
theorem seq_d (p : Nm) (D E PD : Option Addr) (n c m d pc : Nat) (xs : List Int) (w : World) (hr : ReadI w (.slice PD xs.length pc) xs) (hp : On p) :
    Calls Try.prog 30 #[gv p (.slice D n c) (.slice E m d), .int .i32 100, .slice PD xs.length pc] w (ValPost (gv (movedNm p p.x (toldF xs 0 1 - 1)) (.slice D n c) (.slice E m d)) w) := by
  have HS := Lib.hid (MS.start w p (.slice D n c) (.slice E m d))
  have HT : Hid (∀ wx, Below w.heap.size w wx → Calls Try.prog 56 #[.slice PD xs.length pc, .int .i64 0, .int .i64 1] wx fun e w' => e = .returned (.int .i64 (toldF xs 0 1)) ∧ wx = w') := fun wx hb => told_any PD pc xs 0 1 wx (hr.below hb (Nat.le_refl _))
  obtain ⟨k0, k1⟩ := told_le (xs := xs) (i := 0) (o := 1) (by omega) (by omega)
  generalize toldF xs 0 1 = k at *
  obtain ⟨w0, w1, h0, h1, x0, x1, y0, y1⟩ := hp
  have s1 : IntKind.i64.wrap (k - 1) = k - 1 := IntWalk.i64_in _ (by omega)
  clear hr
  unfold gv gcs
  go_enter Try.func30, Try.ntmps30
  go_upto_region 1 with fail
  refine wp_world (fun wq => MS w p (.slice D n c) (.slice E m d) wq) HS.out ?_
  clear HS
  intro w2 rs
  have xg := rs.box
  have u2 := xg.cells.c2
  have u3 := xg.cells.c3
  have HM := Lib.hid (fun X Y => moved_any p D E n c m d X Y w2 w0 w1 h0 h1)
  have HR := Lib.hid rs
  clear rs w0 w1 h0 h1
  go_wp2_with (first
    | (go_at_call 56
       refine (HT.out _ HR.out.below).mono ?_
       rintro e w' ⟨rfl, rfl⟩)
    | (with_reducible refine wpList_loadB xg (x := .tmp 3) ?_ ?_ ?_ ?_
       · with_reducible rfl
       · rfl
       · rfl)
    | (go_at_call 54
       refine (HM.out _ _).mono ?_
       clear HM
       rintro e w5 ⟨rfl, hb5⟩
       have xa := HR.out.ans.below hb5 HR.out.ans.lt
       generalize hq : movedNm p p.x (k - 1) = q at *)
    | (with_reducible refine wpList_storeA xa (x := .tmp 6) (y := .tmp 66) (p := q) (D := D) (E := E) (n := n) (c := c) (m := m) (d := d) ?_ ?_ ?_ ?_ ?_
       · with_reducible rfl
       · rfl
       · rfl
       · rfl))
  refine bodyPost_ret (v := gv q (.slice D n c) (.slice E m d)) (results_cell_row (P := Try.prog) Try.results30 _ _ (w.heap.size + 1) 35 _ (0, 0) _ rfl (xa.setRow q _ _) Try.underlying35 rfl box_size) rfl ?_
  exact ⟨rfl, below_setRow (HR.out.below.trans (hb5.mono HR.out.below.size)) (Nat.le_succ _) _⟩
end Go.Proofs.Ytpcpmeihebgncaa
