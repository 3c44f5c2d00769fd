/-
  What the small calls of rect and of the document's own answer give: the plain functions; of what was there nothing turns. Conditions: none.
-/
import Derived.Test.YtojgmofpgefonaaRows
import Derived.WalkKit
import Derived.WalkSpells
import Derived.WalkLawsBesides
import Derived.Lib.Hide
import Derived.Below
namespace Go.Proofs.Ytojgmofpgefonaa
open Go.RowKit

theorem ret_i {a b : Int} (h : a = b) : Ending.returned (.int .i64 a) = .returned (.int .i64 b) := by rw [h]
theorem ret_b {a b : Bool} (h : a = b) : Ending.returned (.bool a) = .returned (.bool b) := by rw [h]

/-- What a call answers whose world stands. -/
def Ans (v : Value) (w : World) (e : Ending) (w' : World) : Prop := e = .returned v ∧ w = w'
/-- What a call answers that makes memory of its own. -/
def New (v : Value) (w : World) (e : Ending) (w' : World) : Prop := e = .returned v ∧ Below w.heap.size w w'

/-- A rectangle. -/
structure R where
  X : Int
  Y : Int
  W : Int
  H : Int
deriving DecidableEq
def rv (r : R) : Value := .agg #[.int .i64 r.X, .int .i64 r.Y, .int .i64 r.W, .int .i64 r.H]
def rcs (r : R) : Array Value := #[.int .i64 r.X, .int .i64 r.Y, .int .i64 r.W, .int .i64 r.H]

def heldF (n lo hi : Int) : Int := min (max n lo) hi
theorem held_any (n lo hi : Int) (w : World) : Calls Try.prog 38 #[.int .i64 n, .int .i64 lo, .int .i64 hi] w (Ans (.int .i64 (heldF n lo hi)) w) := by
  go_enter Try.func38, Try.ntmps38
  go_wp2_with fail
  all_goals
    go_ret
    exact ⟨ret_i (by unfold heldF; omega), rfl⟩

def outF (n : Int) : Bool := decide (n < 0) || decide (1000 < n)
theorem out_any (n : Int) (w : World) : Calls Try.prog 75 #[.int .i64 n] w (Ans (.bool (outF n)) w) := by
  have H : ∀ w, Calls Try.prog 38 #[.int .i64 n, .int .i64 0, .int .i64 1000] w (Ans (.int .i64 (heldF n 0 1000)) w) := held_any n 0 1000
  have hh : outF n = (heldF n 0 1000 != n) := by
    unfold outF heldF
    rw [Bool.eq_iff_iff]
    simp only [Bool.or_eq_true, decide_eq_true_eq, bne_iff_ne]
    omega
  rw [hh]
  generalize heldF n 0 1000 = m at *
  go_enter Try.func75, Try.ntmps75
  go_wp2_with (go_at_call 38; refine (H _).mono ?_; rintro e w' ⟨rfl, rfl⟩)
  go_ret
  exact ⟨rfl, rfl⟩

def noneF (r : R) : Bool := outF r.X || outF r.Y || outF r.W || outF r.H

set_option maxHeartbeats 1600000 in
theorem none_any (r : R) (w : World) : Calls Try.prog 73 #[rv r] w (New (.bool (noneF r)) w) := by
  obtain ⟨X, Y, W, H⟩ := r
  have h0 : ∀ w, Calls Try.prog 75 #[.int .i64 X] w (Ans (.bool (outF X)) w) := out_any X
  have h1 : ∀ w, Calls Try.prog 75 #[.int .i64 Y] w (Ans (.bool (outF Y)) w) := out_any Y
  have h2 : ∀ w, Calls Try.prog 75 #[.int .i64 W] w (Ans (.bool (outF W)) w) := out_any W
  have h3 : ∀ w, Calls Try.prog 75 #[.int .i64 H] w (Ans (.bool (outF H)) w) := out_any H
  unfold noneF rv
  dsimp only
  generalize outF X = a at *
  generalize outF Y = b at *
  generalize outF W = c at *
  generalize outF H = d at *
  cases a <;> cases b <;> cases c <;> cases d <;>
  · go_enter Try.func73, Try.ntmps73
    go_wp2_with (first
      | (go_at_call 75; (with_reducible refine (h0 _).mono ?_); rintro e w' ⟨rfl, rfl⟩)
      | (go_at_call 75; (with_reducible refine (h1 _).mono ?_); rintro e w' ⟨rfl, rfl⟩)
      | (go_at_call 75; (with_reducible refine (h2 _).mono ?_); rintro e w' ⟨rfl, rfl⟩)
      | (go_at_call 75; (with_reducible refine (h3 _).mono ?_); rintro e w' ⟨rfl, rfl⟩))
    go_ret
    exact ⟨rfl, (Below.refl _ _).alloc (Nat.le_refl _) _⟩

theorem rnone_any (r : R) (w : World) : Calls Try.prog 44 #[rv r] w (New (.bool (noneF r)) w) := by
  obtain ⟨X, Y, W, H⟩ := r
  have e : noneF ⟨X, Y, W, H⟩ = (decide (X < 0) || decide (Y < 0) || decide (W < 0) || decide (H < 0) || decide (1000 < X) || decide (1000 < Y) || decide (1000 < W) || decide (1000 < H)) := by
    unfold noneF outF
    rw [Bool.eq_iff_iff]
    simp only [Bool.or_eq_true, decide_eq_true_eq]
    omega
  rw [e]
  clear e
  unfold rv
  dsimp only
  go_enter Try.func44, Try.ntmps44
  go_wp2_with fail
  all_goals
    go_ret
    exact ⟨rfl, (Below.refl _ _).alloc (Nat.le_refl _) _⟩

def bothF (length first : Int) : Bool := decide (1 ≤ first) && decide (first ≤ length - 2)
theorem both_any (length first : Int) (h0 : 0 ≤ length) (h1 : length ≤ 1000) (w : World) : Calls Try.prog 74 #[.int .i64 length, .int .i64 first] w (Ans (.bool (bothF length first)) w) := by
  unfold bothF
  by_cases h : 1 ≤ first
  · go_enter Try.func74, Try.ntmps74
    go_wp2_with fail
    go_ret
    exact ⟨ret_b (by simp [h]), rfl⟩
  · have hd : decide (1 ≤ first) = false := by simpa using h
    rw [hd]
    go_enter Try.func74, Try.ntmps74
    go_wp2_with fail
    go_ret
    exact ⟨rfl, rfl⟩

def Held (w : World) (g : Nat) (t : TypeId) (cs : Array Value) : Prop := w.heap[g]? = some (.cells cs t (0, 0))
theorem Held.new (w : World) (t : TypeId) (cs : Array Value) : Held (w.alloc (.cells cs t)) w.heap.size t cs := heap_alloc_new w _
theorem Held.lt {w : World} {g : Nat} {t : TypeId} {cs : Array Value} (h : Held w g t cs) : g < w.heap.size := (Array.getElem?_eq_some_iff.1 h).1
theorem Held.below {w w' : World} {g B : Nat} {t : TypeId} {cs : Array Value} (h : Held w g t cs) (hb : Below B w w') (hg : g < B) : Held w' g t cs := (hb.block g hg).trans h
theorem Held.alloc {w : World} {g : Nat} {t : TypeId} {cs : Array Value} (h : Held w g t cs) (o : Obj) : Held (w.alloc o) g t cs := (Below.heap_alloc w o g h.lt).trans h
theorem Held.cell {w : World} {g : Nat} {t : TypeId} {cs : Array Value} (h : Held w g t cs) (o : Nat) : w.cell? ⟨g, o, none⟩ = cs[o]? := cell_of_row w g o cs t (0, 0) h
theorem Held.frozen {w : World} {g : Nat} {t : TypeId} {cs : Array Value} (h : Held w g t cs) (o : Nat) : w.frozen? ⟨g, o, none⟩ = false := frozen_of_row w g o cs t h
theorem Held.set1 {w : World} {g : Nat} {t : TypeId} {cs : Array Value} (h : Held w g t cs) (i : Nat) (x : Value) : Held (w.setCell ⟨g, i, none⟩ x) g t (cs.setIfInBounds i x) := heap_setCell_same w g i cs t x h
theorem Held.far {w : World} {g k o : Nat} {t : TypeId} {cs : Array Value} (h : Held w g t cs) (hk : g ≠ k) (x : Value) : Held (w.setCell ⟨k, o, none⟩ x) g t cs := by
  unfold Held at h ⊢
  rw [Below.heap_setCell _ _ _ g (by simpa using hk)]
  exact h
theorem Held.drew {w : World} {g : Nat} {t : TypeId} {cs : Array Value} (h : Held w g t cs) : Held w.drew g t cs := h
theorem wp_world {P : Program} {c : Code} {Q : Exit → Act → World → Prop} {a : Act} {w : World} (R : World → Prop) (h : R w) (k : ∀ wq, R wq → Code.wp P c Q a wq) : Code.wp P c Q a w := k w h

/-- A rectangle in a variable of its own. -/
def RB (w : World) (g : Nat) (r : R) : Prop := Held w g 48 (rcs r)
theorem RB.cells {w : World} {g : Nat} {r : R} (h : RB w g r) : w.cell? ⟨g, 0, none⟩ = some (.int .i64 r.X) ∧ w.cell? ⟨g, 1, none⟩ = some (.int .i64 r.Y) ∧ w.cell? ⟨g, 2, none⟩ = some (.int .i64 r.W) ∧ w.cell? ⟨g, 3, none⟩ = some (.int .i64 r.H) ∧ ∀ o, w.frozen? ⟨g, o, none⟩ = false :=
  ⟨(Held.cell h 0).trans rfl, (Held.cell h 1).trans rfl, (Held.cell h 2).trans rfl, (Held.cell h 3).trans rfl, Held.frozen h⟩
theorem RB.new (w : World) (r : R) : RB (w.alloc (.cells #[.int .i64 r.X, .int .i64 r.Y, .int .i64 r.W, .int .i64 r.H] 48)) w.heap.size r := Held.new w 48 _
theorem RB.put {w : World} {g : Nat} {r : R} (h : RB w g r) (q : R) : RB ((((w.setCell ⟨g, 0, none⟩ (.int .i64 q.X)).setCell ⟨g, 1, none⟩ (.int .i64 q.Y)).setCell ⟨g, 2, none⟩ (.int .i64 q.W)).setCell ⟨g, 3, none⟩ (.int .i64 q.H)) g q :=
  (((Held.set1 h 0 _).set1 1 _).set1 2 _).set1 3 _
theorem RB.far4 {w : World} {g k : Nat} {r : R} (h : RB w g r) (hk : g ≠ k) (a b c d : Value) : RB ((((w.setCell ⟨k, 0, none⟩ a).setCell ⟨k, 1, none⟩ b).setCell ⟨k, 2, none⟩ c).setCell ⟨k, 3, none⟩ d) g r :=
  (((Held.far h hk _).far hk _).far hk _).far hk _
theorem below_set4 {a w : World} {B k : Nat} (h : Below B a w) (hk : B ≤ k) (x y z u : Value) : Below B a ((((w.setCell ⟨k, 0, none⟩ x).setCell ⟨k, 1, none⟩ y).setCell ⟨k, 2, none⟩ z).setCell ⟨k, 3, none⟩ u) :=
  (((h.setCell (p := ⟨k, 0, none⟩) hk x).setCell (p := ⟨k, 1, none⟩) hk y).setCell (p := ⟨k, 2, none⟩) hk z).setCell (p := ⟨k, 3, none⟩) hk u

/-- Is a place in it. -/
def inF (r : R) (x y : Int) : Bool := !noneF r && decide (r.X ≤ x) && decide (x < r.X + r.W) && decide (r.Y ≤ y) && decide (y < r.Y + r.H)
def areaF (r : R) : Int := if noneF r = true then 0 else r.W * r.H
theorem none_no {r : R} (h : noneF r = false) : 0 ≤ r.X ∧ r.X ≤ 1000 ∧ 0 ≤ r.Y ∧ r.Y ≤ 1000 ∧ 0 ≤ r.W ∧ r.W ≤ 1000 ∧ 0 ≤ r.H ∧ r.H ≤ 1000 := by
  unfold noneF outF at h
  simp only [Bool.or_eq_false_iff, decide_eq_false_iff_not] at h
  omega
theorem area_wrap {r : R} (h : noneF r = false) : wrap64 (r.W * r.H) = r.W * r.H ∧ 0 ≤ r.W * r.H ∧ r.W * r.H ≤ 1000000 := by
  obtain ⟨_, _, _, _, a, b, c, d⟩ := none_no h
  have h1 : 0 ≤ r.W * r.H := Int.mul_nonneg a c
  have h2 : r.W * r.H ≤ 1000 * 1000 := Int.mul_le_mul b d c (by decide)
  exact ⟨IntWalk.wrap64_in _ ⟨by omega, by omega⟩, h1, by omega⟩

set_option maxHeartbeats 1000000 in
theorem rin_any (r : R) (x y : Int) (w : World) (hx : x ≤ 9223372036854775807) (hy : y ≤ 9223372036854775807) : Calls Try.prog 26 #[rv r, .int .i64 x, .int .i64 y] w (New (.bool (inF r x y)) w) := by
  have N : ∀ w, Calls Try.prog 44 #[rv r] w (New (.bool (noneF r)) w) := rnone_any r
  unfold inF
  obtain ⟨n, hn⟩ : ∃ n, noneF r = n := ⟨_, rfl⟩
  have bd := fun h => none_no (r := r) h
  rw [hn] at N bd ⊢
  clear hn
  have rb := RB.new w r
  obtain ⟨X, Y, W, H⟩ := r
  unfold rv at *
  dsimp only at *
  have go : ∀ w2, Below (w.heap.size + 1) (w.alloc (.cells #[.int .i64 X, .int .i64 Y, .int .i64 W, .int .i64 H] 48)) w2 → _ := fun w2 h => (Held.below rb h (Nat.lt_succ_self _))
  have HR := Lib.hid go
  have HB := Lib.hid bd
  clear go rb bd
  cases n with
  | true =>
    go_enter Try.func26, Try.ntmps26
    go_wp2_with (go_at_call 44; refine (N _).mono ?_; rintro e w2 ⟨rfl, hb⟩)
    go_ret
    exact ⟨rfl, ((Below.refl _ _).alloc (Nat.le_refl _) _).trans (hb.mono (by simp))⟩
  | false =>
    obtain ⟨_, _, _, _, _, _, _, _⟩ := HB.out rfl
    go_enter Try.func26, Try.ntmps26
    go_wp2_with (go_at_call 44; refine (N _).mono ?_; rintro e w2 ⟨rfl, hb⟩; obtain ⟨k0, k1, k2, k3, kf⟩ := RB.cells (r := ⟨X, Y, W, H⟩) (HR.out w2 (hb.mono (by simp))))
    all_goals
      go_ret
      exact ⟨by first | rfl | (apply ret_b; rw [Bool.eq_iff_iff]; simp <;> omega), ((Below.refl _ _).alloc (Nat.le_refl _) _).trans (hb.mono (by simp))⟩

end Go.Proofs.Ytojgmofpgefonaa
