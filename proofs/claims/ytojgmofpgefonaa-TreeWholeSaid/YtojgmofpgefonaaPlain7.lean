/-
  Plain facts of trees: each place of a window lies in one spot or one border, and their areas make up the window's. No condition.
-/
import Derived.Test.YtojgmofpgefonaaPlain6
namespace Go.Proofs.Ytojgmofpgefonaa
open Go.RowKit
set_option linter.unusedSimpArgs false
set_option linter.unusedVariables false

def hit (x y : Int) (r : R) : Int := if inF r x y then 1 else 0
def area (r : R) : Int := r.W * r.H
/-- The sum of what f gives of the first k. -/
def pre {α : Type} (f : α → Int) (l : List α) (k : Nat) : Int := ((l.take k).map f).sum
theorem pre_zero {α : Type} (f : α → Int) (l : List α) : pre f l 0 = 0 := rfl
theorem pre_succ {α : Type} (f : α → Int) {l : List α} {k : Nat} {a : α} (h : l[k]? = some a) : pre f l (k + 1) = pre f l k + f a := by
  unfold pre
  rw [List.take_add_one, h]
  simp
theorem pre_all {α : Type} (f : α → Int) (l : List α) : pre f l l.length = (l.map f).sum := by
  unfold pre
  rw [List.take_length]
theorem pre_le {α : Type} {f : α → Int} {l : List α} {M : Int} (h : ∀ a ∈ l, 0 ≤ f a ∧ f a ≤ M) (hM : 0 ≤ M) (k : Nat) : 0 ≤ pre f l k ∧ pre f l k ≤ l.length * M := by
  induction l generalizing k with
  | nil => simp [pre]
  | cons a l ih =>
    cases k with
    | zero => simp only [pre_zero, List.length_cons]; exact ⟨Int.le_refl _, Int.mul_nonneg (by omega) hM⟩
    | succ k =>
      have h1 := h a (List.mem_cons_self)
      have h2 := ih (fun b hb => h b (List.mem_cons_of_mem _ hb)) k
      have e : pre f (a :: l) (k + 1) = f a + pre f l k := by simp [pre]
      rw [e, List.length_cons]
      push_cast
      rw [Int.add_mul, Int.one_mul]
      omega
theorem hit_in {r : R} (h : r.in) (x y : Int) : hit x y r = if r.X ≤ x ∧ x < r.X + r.W ∧ r.Y ≤ y ∧ y < r.Y + r.H then 1 else 0 := by
  unfold hit inF
  rw [h.none]
  by_cases c : r.X ≤ x ∧ x < r.X + r.W ∧ r.Y ≤ y ∧ y < r.Y + r.H
  · rw [if_pos c, if_pos (by simp; omega)]
  · rw [if_neg c, if_neg (by simp; omega)]
theorem T.cover {t : T} {r : R} (x y : Int) (ho : t.ok) (hr : r.in) (h1 : 1 ≤ r.W) (h2 : 1 ≤ r.H) (hf : t.fits r) :
    ((t.spots r).map (fun s => hit x y s.r)).sum + ((t.bords r).map (hit x y)).sum = hit x y r ∧
    ((t.spots r).map (fun s => area s.r)).sum + ((t.bords r).map area).sum = area r ∧
    (∀ s ∈ t.spots r, s.r.in ∧ 1 ≤ s.r.W ∧ 1 ≤ s.r.H) ∧ ∀ b ∈ t.bords r, b.in := by
  induction t generalizing r with
  | leaf p => simp [T.spots, T.bords]; exact ⟨hr, h1, h2⟩
  | fork d f a b ha hb =>
    obtain ⟨f1, f2, f3, f4⟩ := hf
    obtain ⟨_, ra, rm, rb⟩ := cut_in hr ho.1 f1 f2
    have hw : 1 ≤ (aR d f r).W ∧ 1 ≤ (aR d f r).H ∧ 1 ≤ (bR d f r).W ∧ 1 ≤ (bR d f r).H := by
      rcases ho.1 with rfl | rfl <;> simp [side, aR, bR] at * <;> omega
    obtain ⟨a1, a2, a3, a4⟩ := ha ho.2.2.2.1 ra hw.1 hw.2.1 f3
    obtain ⟨b1, b2, b3, b4⟩ := hb ho.2.2.2.2 rb hw.2.2.1 hw.2.2.2 f4
    have c1 : hit x y (aR d f r) + hit x y (mR d f r) + hit x y (bR d f r) = hit x y r := by
      rw [hit_in ra, hit_in rm, hit_in rb, hit_in hr]
      rcases ho.1 with rfl | rfl
      · simp [side] at f2
        simp only [aR, mR, bR, if_true]
        (repeat' split) <;> omega
      · simp [side] at f2
        simp only [aR, mR, bR, if_true, show ¬ (2 : Int) = 1 by decide, if_false]
        (repeat' split) <;> omega
    have c2 : area (aR d f r) + area (mR d f r) + area (bR d f r) = area r := by
      unfold area
      rcases ho.1 with rfl | rfl
      · simp only [aR, mR, bR, if_true]
        rw [← Int.add_mul, ← Int.add_mul]
        congr 1
        omega
      · simp only [aR, mR, bR, if_true, show ¬ (2 : Int) = 1 by decide, if_false]
        rw [← Int.mul_add, ← Int.mul_add]
        congr 1
        omega
    refine ⟨?_, ?_, ?_, ?_⟩
    · simp only [T.spots, T.bords, List.map_append, List.sum_append, List.map_cons, List.sum_cons]
      omega
    · simp only [T.spots, T.bords, List.map_append, List.sum_append, List.map_cons, List.sum_cons]
      omega
    · intro s hs
      simp only [T.spots, List.mem_append] at hs
      rcases hs with hs | hs
      · exact a3 s hs
      · exact b3 s hs
    · intro s hs
      simp only [T.bords, List.mem_cons, List.mem_append] at hs
      rcases hs with rfl | hs | hs
      · exact rm
      · exact a4 s hs
      · exact b4 s hs
theorem area_le {r : R} (h : r.in) : 0 ≤ area r ∧ area r ≤ 1000000 := by
  obtain ⟨_, _, _, _, _, _⟩ := h
  unfold area
  constructor
  · exact Int.mul_nonneg (by omega) (by omega)
  · calc r.W * r.H ≤ 1000 * 1000 := Int.mul_le_mul (by omega) (by omega) (by omega) (by omega)
      _ = 1000000 := by decide
theorem hit_le (x y : Int) (r : R) : 0 ≤ hit x y r ∧ hit x y r ≤ 1 := by unfold hit; split <;> omega
end Go.Proofs.Ytojgmofpgefonaa
