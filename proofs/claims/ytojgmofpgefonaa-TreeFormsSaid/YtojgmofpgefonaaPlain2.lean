/-
  Splitting, removing, swapping and fitting as plain data: what becomes of the row of nodes. Nothing of the program is walked here. No condition.
-/
import Derived.Test.YtojgmofpgefonaaB2
namespace Go.Proofs.Ytojgmofpgefonaa
set_option linter.unusedSimpArgs false
open Go.RowKit

namespace T
def split (at_ fresh d f : Int) : T → T
  | leaf p => if p = at_ then fork d f (leaf p) (leaf fresh) else leaf p
  | fork e g x y => fork e g (x.split at_ fresh d f) (y.split at_ fresh d f)
theorem split_none {at_ fresh d f : Int} {t : T} (h : at_ ∉ t.panes) : t.split at_ fresh d f = t := by
  induction t with
  | leaf p => simp [panes] at h; simp [split, Ne.symm h]
  | fork e g x y hx hy => simp [panes] at h; simp [split, hx h.1, hy h.2]
theorem split_size {at_ fresh d f : Int} {t : T} (h : at_ ∈ t.panes) (hu : t.panes.Nodup) : (t.split at_ fresh d f).size = t.size + 2 := by
  induction t with
  | leaf p => simp [panes] at h; simp [split, h, size]
  | fork e g x y hx hy =>
    rw [panes, List.nodup_append] at hu
    simp only [panes, List.mem_append] at h
    rcases h with h | h
    · have h2 : at_ ∉ y.panes := fun h2 => hu.2.2 _ h _ h2 rfl
      simp [split, size, hx h hu.1, split_none h2]
      omega
    · have h2 : at_ ∉ x.panes := fun h2 => hu.2.2 _ h2 _ h rfl
      simp [split, size, hy h hu.2.1, split_none h2]
      omega
/-- Nodes whose parts stand behind place k are moved on by two. -/
theorem flat_moved (t : T) (j k : Nat) (h : k ≤ j) : (t.flat j).map (fun n => movedF n k 2) = t.flat (j + 2) := by
  induction t generalizing j with
  | leaf p =>
    have h1 : ¬ (0 : Int) > k := by omega
    simp only [flat, List.map_cons, List.map_nil, movedF, leafN, if_neg h1]
  | fork d f x y hx hy =>
    have h1 : ((j + 1 : Nat) : Int) > k := by omega
    have h2 : ((j + 1 + x.size : Nat) : Int) > k := by omega
    have f1 : movedF (forkN d f j x) k 2 = forkN d f (j + 2) x := by
      simp only [movedF, forkN, if_pos h1, if_pos h2, N.mk.injEq, true_and]
      omega
    simp only [flat, List.map_cons, List.map_append, f1]
    rw [hx (j + 1) (by omega), hy (j + 1 + x.size) (by omega), show j + 1 + 2 = j + 2 + 1 by omega, show j + 1 + x.size + 2 = j + 2 + 1 + x.size by omega]
theorem flat_stay (t : T) (j k : Nat) (h : j + t.size ≤ k + 1) : (t.flat j).map (fun n => movedF n k 2) = t.flat j := by
  induction t generalizing j with
  | leaf p =>
    have h1 : ¬ (0 : Int) > k := by omega
    simp only [flat, List.map_cons, List.map_nil, movedF, leafN, if_neg h1]
  | fork d f x y hx hy =>
    simp only [size] at h
    have := y.size_pos
    have h1 : ¬ ((j + 1 : Nat) : Int) > k := by omega
    have h2 : ¬ ((j + 1 + x.size : Nat) : Int) > k := by omega
    have f1 : movedF (forkN d f j x) k 2 = forkN d f j x := by
      unfold movedF forkN
      dsimp only
      rw [if_neg h1, if_neg h2]
    simp only [flat, List.map_cons, List.map_append, f1]
    rw [hx (j + 1) (by omega), hy (j + 1 + x.size) (by omega)]
def splitL (fresh d f : Int) (k : Nat) (l : List N) (i : Nat) : List N :=
  (l.take (k - i)).map (fun n => movedF n k 2) ++ [⟨0, d, f, ((k + 1 : Nat) : Int), ((k + 2 : Nat) : Int)⟩] ++ ((l.drop (k - i)).take 1) ++ [leafN fresh] ++ (l.drop (k - i + 1)).map (fun n => movedF n k 2)
theorem flat_split {at_ fresh d f : Int} {t : T} (k i : Nat) (hu : t.panes.Nodup) (hk : i ≤ k) (hkl : (t.flat i)[k - i]? = some (leafN at_)) (h0 : 0 < at_) :
    (t.split at_ fresh d f).flat i = splitL fresh d f k (t.flat i) i := by
  induction t generalizing i with
  | leaf p =>
    have e : k - i = 0 := by
      have := (List.getElem?_eq_some_iff.1 hkl).1
      simp [flat] at this
      exact this
    rw [e] at hkl
    simp [flat, leafN] at hkl
    subst hkl
    have ek : k = i := by omega
    subst ek
    simp [split, splitL, flat, leafN, forkN, size]
    omega
  | fork e g x y hx hy =>
    have hne : k ≠ i := by
      rintro rfl
      simp [flat, forkN, leafN] at hkl
      omega
    obtain ⟨m, hm⟩ : ∃ m, k - i = m + 1 := ⟨k - i - 1, by omega⟩
    have hm2 : k - (i + 1) = m := by omega
    rw [panes, List.nodup_append] at hu
    have hfl : (fork e g x y).flat i = forkN e g i x :: (x.flat (i + 1) ++ y.flat (i + 1 + x.size)) := rfl
    rw [hfl] at hkl ⊢
    rw [hm, List.getElem?_cons_succ] at hkl
    have mem_of : ∀ (z : T) (j q : Nat), (z.flat j)[q]? = some (leafN at_) → at_ ∈ z.panes := by
      intro z
      induction z with
      | leaf p =>
        intro j q h
        cases q with
        | zero => simp [flat, leafN] at h; simp [panes, h]
        | succ q => simp [flat] at h
      | fork e g a b ha hb =>
        intro j q h
        cases q with
        | zero => simp [flat, forkN, leafN] at h; omega
        | succ q =>
          simp only [flat, List.getElem?_cons_succ] at h
          rw [List.getElem?_append] at h
          simp only [panes, List.mem_append]
          split at h
          · exact .inl (ha _ _ h)
          · exact .inr (hb _ _ h)
    by_cases hx1 : m < x.size
    · rw [List.getElem?_append_left (by rw [flat_len]; exact hx1)] at hkl
      have a1 := mem_of x _ _ hkl
      have a2 : at_ ∉ y.panes := fun h2 => hu.2.2 _ a1 _ h2 rfl
      have ih := hx (i + 1) hu.1 (by omega) (by rw [hm2]; exact hkl)
      simp only [split, flat, split_none a2, split_size a1 hu.1]
      rw [ih]
      unfold splitL
      rw [hm, hm2]
      have f1 : movedF (forkN e g i x) k 2 = ⟨0, e, g, ((i + 1 : Nat) : Int), ((i + 1 + (x.size + 2) : Nat) : Int)⟩ := by
        have h1 : ¬ ((i + 1 : Nat) : Int) > k := by omega
        have h2 : ((i + 1 + x.size : Nat) : Int) > k := by omega
        simp only [movedF, forkN, if_neg h1, if_pos h2, N.mk.injEq, true_and]
        omega
      have f2 := flat_moved y (i + 1 + x.size) k (by omega)
      simp only [List.take_succ_cons, List.map_cons, List.drop_succ_cons, f1]
      rw [List.take_append_of_le_length (by rw [flat_len]; omega), List.drop_append_of_le_length (by rw [flat_len]; omega), List.drop_append_of_le_length (by rw [flat_len]; omega),
        List.take_append_of_le_length (by rw [List.length_drop, flat_len]; omega), List.map_append, f2]
      have ef : forkN e g i (x.split at_ fresh d f) = ⟨0, e, g, ((i + 1 : Nat) : Int), ((i + 1 + (x.size + 2) : Nat) : Int)⟩ := by
        simp only [forkN, split_size a1 hu.1]
      rw [ef, show i + 1 + (x.size + 2) = i + 1 + x.size + 2 by omega]
      simp only [List.append_assoc, List.cons_append, List.nil_append]
    · have hx2 : x.size ≤ m := by omega
      rw [List.getElem?_append_right (by rw [flat_len]; exact hx2), flat_len] at hkl
      have a1 := mem_of y _ _ hkl
      have a2 : at_ ∉ x.panes := fun h2 => hu.2.2 _ h2 _ a1 rfl
      have hq : k - (i + 1 + x.size) = m - x.size := by omega
      have ih := hy (i + 1 + x.size) hu.2.1 (by omega) (by rw [hq]; exact hkl)
      simp only [split, flat, split_none a2]
      rw [ih]
      unfold splitL
      rw [hm, hq]
      have f1 : movedF (forkN e g i x) k 2 = forkN e g i x := by
        have h1 : ¬ ((i + 1 : Nat) : Int) > k := by omega
        have h2 : ¬ ((i + 1 + x.size : Nat) : Int) > k := by omega
        unfold movedF forkN
        dsimp only
        rw [if_neg h1, if_neg h2]
      have f2 := flat_stay x (i + 1) k (by omega)
      have ex : (x.flat (i + 1)).length = x.size := flat_len _ _
      simp only [List.take_succ_cons, List.map_cons, List.drop_succ_cons, f1]
      have T1 : (x.flat (i + 1) ++ y.flat (i + 1 + x.size)).take m = x.flat (i + 1) ++ (y.flat (i + 1 + x.size)).take (m - x.size) := by
        rw [List.take_append, ex, List.take_of_length_le (by omega)]
      have D1 : (x.flat (i + 1) ++ y.flat (i + 1 + x.size)).drop m = (y.flat (i + 1 + x.size)).drop (m - x.size) := by
        rw [List.drop_append, ex, List.drop_of_length_le (by omega), List.nil_append]
      have D2 : (x.flat (i + 1) ++ y.flat (i + 1 + x.size)).drop (m + 1) = (y.flat (i + 1 + x.size)).drop (m - x.size + 1) := by
        rw [List.drop_append, ex, List.drop_of_length_le (by omega), List.nil_append, show m + 1 - x.size = m - x.size + 1 by omega]
      rw [T1, D1, D2, List.map_append, f2]
      simp only [List.append_assoc, List.cons_append, List.nil_append]
theorem split_panes_mem {at_ fresh d f : Int} {t : T} (h : at_ ∈ t.panes) (q : Int) : q ∈ (t.split at_ fresh d f).panes ↔ q ∈ t.panes ∨ q = fresh := by
  induction t with
  | leaf p => simp [panes] at h; subst h; simp [split, panes]
  | fork e g x y hx hy =>
    simp only [panes, List.mem_append] at h
    simp only [split, panes, List.mem_append]
    by_cases h1 : at_ ∈ x.panes <;> by_cases h2 : at_ ∈ y.panes
    · rw [hx h1, hy h2]; grind
    · rw [hx h1, split_none h2]; grind
    · rw [hy h2, split_none h1]; grind
    · grind
theorem split_ok {at_ fresh d f : Int} {t : T} (h : t.ok) (hd : d = 1 ∨ d = 2) (h1 : 1 ≤ f) (h2 : f ≤ 1000) (hf : 0 < fresh) : (t.split at_ fresh d f).ok := by
  induction t with
  | leaf p =>
    simp only [split]
    split
    · exact ⟨hd, h1, h2, h, hf⟩
    · exact h
  | fork e g x y hx hy => exact ⟨h.1, h.2.1, h.2.2.1, hx h.2.2.2.1, hy h.2.2.2.2⟩
theorem split_nodup {at_ fresh d f : Int} {t : T} (hu : t.panes.Nodup) (hf : fresh ∉ t.panes) : (t.split at_ fresh d f).panes.Nodup := by
  induction t with
  | leaf p =>
    simp only [panes, List.mem_singleton] at hf
    simp only [split]
    split <;> simp [panes, Ne.symm hf]
  | fork e g x y hx hy =>
    simp only [panes, List.mem_append, not_or] at hf
    rw [panes, List.nodup_append] at hu
    simp only [split, panes]
    rw [List.nodup_append]
    refine ⟨hx hu.1 hf.1, hy hu.2.1 hf.2, ?_⟩
    intro a ha b hb hab
    subst hab
    by_cases h1 : at_ ∈ x.panes
    · have h2 : at_ ∉ y.panes := fun h2 => hu.2.2 _ h1 _ h2 rfl
      rw [split_none h2] at hb
      rw [split_panes_mem h1] at ha
      rcases ha with ha | ha
      · exact hu.2.2 _ ha _ hb rfl
      · subst ha; exact hf.2 hb
    · rw [split_none h1] at ha
      by_cases h2 : at_ ∈ y.panes
      · rw [split_panes_mem h2] at hb
        rcases hb with hb | hb
        · exact hu.2.2 _ ha _ hb rfl
        · subst hb; exact hf.1 ha
      · rw [split_none h2] at hb
        exact hu.2.2 _ ha _ hb rfl
end T
end Go.Proofs.Ytojgmofpgefonaa
