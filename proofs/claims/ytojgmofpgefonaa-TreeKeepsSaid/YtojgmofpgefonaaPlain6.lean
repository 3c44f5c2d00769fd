/-
  Plain facts of trees: a tree that fits stays as it is when it is fitted, and splitting keeps the panes' order. No condition.
-/
import Derived.Test.YtojgmofpgefonaaC13
namespace Go.Proofs.Ytojgmofpgefonaa
open Go.RowKit
set_option linter.unusedSimpArgs false
set_option linter.unusedVariables false

theorem T.fits_low {t : T} {r : R} (ho : t.ok) (hf : t.fits r) (h1 : 1 ≤ r.W) (h2 : 1 ≤ r.H) : t.lw ≤ r.W ∧ t.lh ≤ r.H := by
  induction t generalizing r with
  | leaf p => exact ⟨h1, h2⟩
  | fork d f x y hx hy =>
    obtain ⟨f1, f2, f3, f4⟩ := hf
    rcases ho.1 with rfl | rfl
    · simp [side] at f2
      have a := hx ho.2.2.2.1 f3 (by simp [aR]; omega) (by simp [aR]; omega)
      have b := hy ho.2.2.2.2 f4 (by simp [bR]; omega) (by simp [bR]; omega)
      simp [aR, bR] at a b
      simp [T.lw, T.lh]
      omega
    · simp [side] at f2
      have a := hx ho.2.2.2.1 f3 (by simp [aR]; omega) (by simp [aR]; omega)
      have b := hy ho.2.2.2.2 f4 (by simp [bR]; omega) (by simp [bR]; omega)
      simp [aR, bR] at a b
      simp [T.lw, T.lh]
      omega
theorem T.fit_self {t : T} {r : R} (ho : t.ok) (hf : t.fits r) (h1 : 1 ≤ r.W) (h2 : 1 ≤ r.H) : t.fit r = t := by
  induction t generalizing r with
  | leaf p => rfl
  | fork d f x y hx hy =>
    obtain ⟨f1, f2, f3, f4⟩ := hf
    have hg : heldF f (x.ll d) (side d r - 1 - y.ll d) = f := by
      rcases ho.1 with rfl | rfl
      · simp [side] at f2
        have a := T.fits_low ho.2.2.2.1 f3 (by simp [aR]; omega) (by simp [aR]; omega)
        have b := T.fits_low ho.2.2.2.2 f4 (by simp [bR]; omega) (by simp [bR]; omega)
        simp [aR, bR] at a b
        simp [heldF, T.ll, side]
        omega
      · simp [side] at f2
        have a := T.fits_low ho.2.2.2.1 f3 (by simp [aR]; omega) (by simp [aR]; omega)
        have b := T.fits_low ho.2.2.2.2 f4 (by simp [bR]; omega) (by simp [bR]; omega)
        simp [aR, bR] at a b
        simp [heldF, T.ll, side]
        omega
    rw [T.fit_fork]
    rw [hg]
    rcases ho.1 with rfl | rfl
    · simp [side] at f2
      rw [hx ho.2.2.2.1 f3 (by simp [aR]; omega) (by simp [aR]; omega), hy ho.2.2.2.2 f4 (by simp [bR]; omega) (by simp [bR]; omega)]
    · simp [side] at f2
      rw [hx ho.2.2.2.1 f3 (by simp [aR]; omega) (by simp [aR]; omega), hy ho.2.2.2.2 f4 (by simp [bR]; omega) (by simp [bR]; omega)]
theorem T.split_filter {at_ fresh d f : Int} {t : T} (hf : fresh ∉ t.panes) : (t.split at_ fresh d f).panes.filter (fun p => p != fresh) = t.panes := by
  induction t with
  | leaf p =>
    simp [T.panes] at hf
    unfold T.split
    split
    · simp [T.panes, Ne.symm hf]
    · simp [T.panes, Ne.symm hf]
  | fork e g x y hx hy =>
    simp only [T.panes, List.mem_append, not_or] at hf
    simp only [T.split, T.panes, List.filter_append, hx hf.1, hy hf.2]
/-- How many of the first places hold no fresh pane. -/
def cnt (l : List Int) (k : Nat) : Nat := ((l.take k).filter (fun p => p != 99)).length
theorem cnt_zero (l : List Int) : cnt l 0 = 0 := rfl
theorem cnt_eq {l : List Int} {k : Nat} (h : l[k]? = some 99) : cnt l (k + 1) = cnt l k := by
  unfold cnt
  rw [List.take_add_one, h]
  simp
theorem cnt_ne {l : List Int} {k : Nat} {p : Int} (h : l[k]? = some p) (hp : p ≠ 99) : cnt l (k + 1) = cnt l k + 1 ∧ (l.filter (fun p => p != 99))[cnt l k]? = some p := by
  constructor
  · unfold cnt
    rw [List.take_add_one, h]
    simp [hp]
  · have hk := (List.getElem?_eq_some_iff.1 h).1
    have e := (List.getElem?_eq_some_iff.1 h).2
    have : l = l.take k ++ p :: l.drop (k + 1) := by
      rw [← e, List.getElem_cons_drop, List.take_append_drop]
    unfold cnt
    conv => lhs; rw [this]
    rw [List.filter_append, List.getElem?_append_right (by rw [← this]; exact Nat.le_refl _), ← this, Nat.sub_self, List.filter_cons_of_pos (by simpa using hp)]
    rfl
theorem cnt_all (l : List Int) : cnt l l.length = (l.filter (fun p => p != 99)).length := by
  unfold cnt
  rw [List.take_length]
end Go.Proofs.Ytojgmofpgefonaa
