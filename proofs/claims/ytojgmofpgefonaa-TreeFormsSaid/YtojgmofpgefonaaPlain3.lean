/-
  The rows of nodes that a split makes, step by step; the room of a pane. Nothing of the program is walked here. No condition.
-/
import Derived.Test.YtojgmofpgefonaaPlain2
namespace Go.Proofs.Ytojgmofpgefonaa
open Go.RowKit
set_option linter.unusedSimpArgs false

namespace T
def partL (fresh d f : Int) (kk : Nat) (l : List N) (k : Nat) : List N := if k ≤ kk then (l.take k).map (fun n => movedF n kk 2) else splitL fresh d f kk (l.take k) 0
theorem part_lt {fresh d f : Int} {kk : Nat} {l : List N} {k : Nat} {n : N} (h : k < kk) (hk : l[k]? = some n) : partL fresh d f kk l (k + 1) = partL fresh d f kk l k ++ [movedF n kk 2] := by
  unfold partL
  rw [if_pos (by omega), if_pos (by omega), List.take_add_one, hk]
  simp
theorem part_eq {fresh d f : Int} {kk : Nat} {l : List N} {n : N} (hk : l[kk]? = some n) : partL fresh d f kk l (kk + 1) = partL fresh d f kk l kk ++ [⟨0, d, f, ((kk + 1 : Nat) : Int), ((kk + 2 : Nat) : Int)⟩, n, leafN fresh] := by
  have hl := (List.getElem?_eq_some_iff.1 hk).1
  have hl2 : (l.take kk).length = kk := by rw [List.length_take]; omega
  have e1 : (l.take kk ++ [n]).take kk = l.take kk := by rw [List.take_append_of_le_length (by omega), List.take_of_length_le (by omega)]
  have e2 : (l.take kk ++ [n]).drop kk = [n] := by
    have := List.drop_left' (l₁ := l.take kk) (l₂ := [n]) hl2
    exact this
  have e3 : (l.take kk ++ [n]).drop (kk + 1) = [] := List.drop_of_length_le (by simp; omega)
  unfold partL splitL
  rw [if_neg (by omega), if_pos (by omega), List.take_add_one, hk]
  simp only [Nat.sub_zero, Option.toList_some, e1, e2, e3]
  simp
theorem part_gt {fresh d f : Int} {kk : Nat} {l : List N} {k : Nat} {n : N} (h : kk < k) (hk : l[k]? = some n) : partL fresh d f kk l (k + 1) = partL fresh d f kk l k ++ [movedF n kk 2] := by
  have hl := (List.getElem?_eq_some_iff.1 hk).1
  have hl2 : (l.take k).length = k := by rw [List.length_take]; omega
  unfold partL splitL
  rw [if_neg (by omega), if_neg (by omega), List.take_add_one, hk]
  simp only [Nat.sub_zero, Option.toList_some]
  rw [List.take_append_of_le_length (by omega), List.drop_append_of_le_length (by omega), List.drop_append_of_le_length (by omega), List.take_append_of_le_length (by rw [List.length_drop]; omega), List.map_append]
  simp only [List.append_assoc, List.map_cons, List.map_nil]
theorem part_all {fresh d f : Int} {kk : Nat} {l : List N} (h : kk < l.length) : partL fresh d f kk l l.length = splitL fresh d f kk l 0 := by
  unfold partL
  rw [if_neg (by omega), List.take_length]
theorem part_zero (fresh d f : Int) (kk : Nat) (l : List N) : partL fresh d f kk l 0 = [] := by
  unfold partL
  simp
theorem part_len (fresh d f : Int) (kk : Nat) (l : List N) (k : Nat) : (partL fresh d f kk l k).length ≤ k + 3 := by
  unfold partL splitL
  split
  · rw [List.length_map, List.length_take]; omega
  · simp only [List.length_append, List.length_map, List.length_take, List.length_drop, List.length_cons, List.length_nil]
    omega

theorem leaf_of (t : T) (i : Nat) {n : N} {p : Int} (h : n ∈ t.flat i) (hp : n.p = p) (h0 : 0 < p) : n = leafN p := by
  induction t generalizing i with
  | leaf z => simp [flat] at h; subst h; simp [leafN] at hp; subst hp; rfl
  | fork d f x y hx hy =>
    simp only [flat, List.mem_cons, List.mem_append] at h
    rcases h with h | h | h
    · subst h; simp [forkN] at hp; omega
    · exact hx _ h
    · exact hy _ h
theorem ab_small (t : T) (i : Nat) {n : N} (h : n ∈ t.flat i) : (0 ≤ n.a ∧ n.a ≤ i + t.size) ∧ (0 ≤ n.b ∧ n.b ≤ i + t.size) := by
  induction t generalizing i with
  | leaf z => simp [flat] at h; subst h; simp [leafN]; omega
  | fork d f x y hx hy =>
    simp only [flat, List.mem_cons, List.mem_append] at h
    simp only [size]
    rcases h with h | h | h
    · subst h; simp [forkN]; omega
    · have := hx _ h; push_cast at this ⊢; omega
    · have := hy _ h; push_cast at this ⊢; omega

/-- How long a pane is in a direction. -/
def room (at_ d : Int) : T → R → Int
  | leaf _, r => side d r
  | fork e g x y, r => if at_ ∈ x.panes then x.room at_ d (aR e g r) else y.room at_ d (bR e g r)
theorem room_of {at_ d : Int} {t : T} {r : R} (hu : t.panes.Nodup) {s : Sp} (hs : s ∈ t.spots r) (hp : s.p = at_) : side d s.r = t.room at_ d r := by
  induction t generalizing r with
  | leaf p => simp [spots] at hs; subst hs; rfl
  | fork e g x y hx hy =>
    rw [panes, List.nodup_append] at hu
    simp only [spots, List.mem_append] at hs
    unfold room
    have mem : ∀ (z : T) (q : R), s ∈ z.spots q → at_ ∈ z.panes := by
      intro z q h
      rw [← z.spots_panes q, List.mem_map]
      exact ⟨s, h, hp⟩
    rcases hs with hs | hs
    · rw [if_pos (mem _ _ hs)]
      exact hx hu.1 hs
    · rw [if_neg (fun h => hu.2.2 _ h _ (mem _ _ hs) rfl)]
      exact hy hu.2.1 hs
theorem fits_in {t : T} {r : R} (ho : t.ok) (hr : r.in) (hf : t.fits r) : ∀ s ∈ t.spots r, s.r.in := by
  induction t generalizing r with
  | leaf p => intro s hs; simp [spots] at hs; subst hs; exact hr
  | fork e g x y hx hy =>
    intro s hs
    obtain ⟨_, ra, rm, rb⟩ := cut_in hr ho.1 hf.1 hf.2.1
    simp only [spots, List.mem_append] at hs
    rcases hs with hs | hs
    · exact hx ho.2.2.2.1 ra hf.2.2.1 s hs
    · exact hy ho.2.2.2.2 rb hf.2.2.2 s hs
/-- The one place of a pane. -/
theorem spot_one {at_ : Int} {t : T} {r : R} (hu : t.panes.Nodup) (h : at_ ∈ t.panes) : ∃ (q : Nat) (s : Sp), (t.spots r)[q]? = some s ∧ s.p = at_ ∧ ∀ (k : Nat) (x : Sp), (t.spots r)[k]? = some x → x.p = at_ → k = q := by
  rw [← t.spots_panes r] at hu h
  obtain ⟨s, hs, hp⟩ := List.mem_map.1 h
  obtain ⟨q, hq⟩ := List.mem_iff_getElem?.1 hs
  refine ⟨q, s, hq, hp, fun k x hk hx => ?_⟩
  have h1 : ((t.spots r).map Sp.p)[k]? = some at_ := by rw [List.getElem?_map, hk]; simp [hx]
  have h2 : ((t.spots r).map Sp.p)[q]? = some at_ := by rw [List.getElem?_map, hq]; simp [hp]
  have l1 := (List.getElem?_eq_some_iff.1 h1).1
  have l2 := (List.getElem?_eq_some_iff.1 h2).1
  have a1 := (List.getElem?_eq_some_iff.1 h1).2
  have a2 := (List.getElem?_eq_some_iff.1 h2).2
  have hp := List.pairwise_iff_getElem.1 hu
  rcases Nat.lt_trichotomy k q with h | h | h
  · exact absurd (a1.trans a2.symm) (hp k q l1 l2 h)
  · exact h
  · exact absurd (a2.trans a1.symm) (hp q k l2 l1 h)
theorem fits_split {at_ fresh d f : Int} {t : T} {r : R} (hu : t.panes.Nodup) (h : at_ ∈ t.panes) (hf : t.fits r) (h1 : 1 ≤ f) (h2 : f ≤ t.room at_ d r - 2) : (t.split at_ fresh d f).fits r := by
  induction t generalizing r with
  | leaf p =>
    simp [panes] at h
    subst h
    simp only [split, if_true]
    exact ⟨h1, h2, trivial, trivial⟩
  | fork e g x y hx hy =>
    rw [panes, List.nodup_append] at hu
    simp only [panes, List.mem_append] at h
    unfold room at h2
    by_cases hm : at_ ∈ x.panes
    · rw [if_pos hm] at h2
      have a2 : at_ ∉ y.panes := fun h2 => hu.2.2 _ hm _ h2 rfl
      simp only [split, split_none a2]
      exact ⟨hf.1, hf.2.1, hx hu.1 hm hf.2.2.1 h2, hf.2.2.2⟩
    · rw [if_neg hm] at h2
      have a2 : at_ ∈ y.panes := h.resolve_left hm
      simp only [split, split_none hm]
      exact ⟨hf.1, hf.2.1, hf.2.2.1, hy hu.2.1 a2 hf.2.2.2 h2⟩
end T
end Go.Proofs.Ytojgmofpgefonaa
