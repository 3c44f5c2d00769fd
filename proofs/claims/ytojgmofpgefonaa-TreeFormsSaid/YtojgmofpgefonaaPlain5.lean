/-
  What is left of a tree without a pane, and a tree with two panes swapped, as plain data. Nothing of the program is walked here. No condition.
-/
import Derived.Test.YtojgmofpgefonaaPlain4
namespace Go.Proofs.Ytojgmofpgefonaa
open Go.RowKit
set_option linter.unusedSimpArgs false
set_option linter.unusedVariables false

namespace T
theorem par_ex (t : T) (i k : Nat) (h1 : i < k) (h2 : k < i + t.size) : ∃ n ∈ t.flat i, (n.a == (k : Int) || n.b == (k : Int)) = true := by
  induction t generalizing i with
  | leaf p => simp [size] at h2; omega
  | fork d f x y hx hy =>
    have sz : (fork d f x y).size = x.size + y.size + 1 := rfl
    rw [sz] at h2
    have hself : ∀ j : Nat, j = i + 1 ∨ j = i + 1 + x.size → j = k → ∃ n ∈ (fork d f x y).flat i, (n.a == (k : Int) || n.b == (k : Int)) = true := by
      intro j hj e
      subst e
      refine ⟨forkN d f i x, by simp [flat], ?_⟩
      simp [forkN]
      omega
    by_cases e1 : k = i + 1
    · exact hself _ (.inl rfl) e1.symm
    · by_cases e2 : k = i + 1 + x.size
      · exact hself _ (.inr rfl) e2.symm
      · by_cases h : k < i + 1 + x.size
        · obtain ⟨n, hn, hp⟩ := hx (i + 1) (by omega) h
          exact ⟨n, by simp [flat, hn], hp⟩
        · obtain ⟨n, hn, hp⟩ := hy (i + 1 + x.size) (by omega) (by omega)
          exact ⟨n, by simp [flat, hn], hp⟩
theorem drop_sub {pane : Int} {t t' : T} (h : t.drop pane = some t') : t'.panes.Sublist t.panes ∧ t'.size ≤ t.size ∧ (t.ok → t'.ok) := by
  induction t generalizing t' with
  | leaf p =>
    simp only [drop] at h
    split at h
    · cases h
    · cases h; exact ⟨List.Sublist.refl _, Nat.le_refl _, id⟩
  | fork d f x y hx hy =>
    simp only [drop] at h
    split at h
    · cases h
      exact ⟨List.sublist_append_right _ _, by simp [size]; omega, fun ho => ho.2.2.2.2⟩
    · cases h
      exact ⟨List.sublist_append_left _ _, by simp [size]; omega, fun ho => ho.2.2.2.1⟩
    · rename_i x' y' ex ey
      cases h
      obtain ⟨a1, a2, a3⟩ := hx ex
      obtain ⟨b1, b2, b3⟩ := hy ey
      exact ⟨a1.append b1, by simp [size]; omega, fun ho => ⟨ho.1, ho.2.1, ho.2.2.1, a3 ho.2.2.2.1, b3 ho.2.2.2.2⟩⟩
theorem drop_split {at_ fresh d f : Int} {t : T} (hu : t.panes.Nodup) (h : at_ ∈ t.panes) (hf : fresh ∉ t.panes) : (t.split at_ fresh d f).drop fresh = some t := by
  induction t with
  | leaf p =>
    simp [panes] at h hf
    subst h
    simp [split, drop, Ne.symm hf]
  | fork e g x y hx hy =>
    rw [panes, List.nodup_append] at hu
    simp only [panes, List.mem_append, not_or] at h hf
    by_cases hm : at_ ∈ x.panes
    · have a2 : at_ ∉ y.panes := fun h2 => hu.2.2 _ hm _ h2 rfl
      simp [split, drop, hx hu.1 hm hf.1, split_none a2, drop_none hf.2]
    · have a2 := h.resolve_left hm
      simp [split, drop, hy hu.2.1 a2 hf.2, split_none hm, drop_none hf.1]

def swap (a b : Int) : T → T
  | leaf p => leaf (if p = a then b else if p = b then a else p)
  | fork d f x y => fork d f (x.swap a b) (y.swap a b)
def swN (a b : Int) (n : N) : N := if n.p = a then { n with p := b } else if n.p = b then { n with p := a } else n
theorem swap_size (a b : Int) (t : T) : (t.swap a b).size = t.size := by
  induction t with
  | leaf p => rfl
  | fork d f x y hx hy => simp [swap, size, hx, hy]
theorem flat_swap {a b : Int} (ha : 0 < a) (hb : 0 < b) (t : T) (i : Nat) : (t.swap a b).flat i = (t.flat i).map (swN a b) := by
  induction t generalizing i with
  | leaf p =>
    simp only [swap, flat, List.map_cons, List.map_nil, swN, leafN]
    by_cases h1 : p = a
    · simp [h1]
    · by_cases h2 : p = b
      · subst h2; simp [h1]
      · simp [h1, h2]
  | fork d f x y hx hy =>
    have h1 : swN a b (forkN d f i x) = forkN d f i x := by
      unfold swN forkN
      rw [if_neg (by simp; omega), if_neg (by simp; omega)]
    simp only [swap, flat, List.map_cons, List.map_append, h1, hx, hy, swap_size]
    simp only [forkN, swap_size]
theorem swap_ok {a b : Int} (ha : 0 < a) (hb : 0 < b) {t : T} (ho : t.ok) : (t.swap a b).ok := by
  induction t with
  | leaf p => simp only [swap, ok]; split; exact hb; split; exact ha; exact ho
  | fork d f x y hx hy => exact ⟨ho.1, ho.2.1, ho.2.2.1, hx ho.2.2.2.1, hy ho.2.2.2.2⟩
theorem swap_panes (a b : Int) (t : T) : (t.swap a b).panes = t.panes.map (fun p => if p = a then b else if p = b then a else p) := by
  induction t with
  | leaf p => rfl
  | fork d f x y hx hy => simp [swap, panes, hx, hy]
theorem swap_nodup {a b : Int} {t : T} (hu : t.panes.Nodup) : (t.swap a b).panes.Nodup := by
  rw [swap_panes]
  refine List.Pairwise.map _ ?_ hu
  intro x y hxy
  by_cases h1 : x = a <;> by_cases h2 : y = a <;> by_cases h3 : x = b <;> by_cases h4 : y = b <;> simp_all <;> omega
theorem swap_swap {a b : Int} (t : T) : (t.swap a b).swap a b = t := by
  induction t with
  | leaf p =>
    simp only [swap]
    congr 1
    by_cases h1 : p = a
    · subst h1; simp
    · by_cases h2 : p = b
      · subst h2; simp [h1]
      · simp [h1, h2]
  | fork d f x y hx hy => simp [swap, hx, hy]
theorem swap_spots (a b : Int) (t : T) (r : R) : (t.swap a b).spots r = (t.spots r).map (fun s => ⟨if s.p = a then b else if s.p = b then a else s.p, s.r⟩) ∧ (t.swap a b).bords r = t.bords r := by
  induction t generalizing r with
  | leaf p => exact ⟨rfl, rfl⟩
  | fork d f x y hx hy => simp [swap, spots, bords, hx, hy]
theorem swap_fits {a b : Int} {t : T} {r : R} (h : t.fits r) : (t.swap a b).fits r := by
  induction t generalizing r with
  | leaf p => trivial
  | fork d f x y hx hy => exact ⟨h.1, h.2.1, hx h.2.2.1, hy h.2.2.2⟩
/-- Two panes set in each other's nodes. -/
theorem swap_set {a b : Int} {l : List N} {i k : Nat} {x y : N} (hu : (panesL l).Nodup) (ha : 0 < a) (hb : 0 < b) (hi : l[i]? = some x) (hx : x.p = a) (hk : l[k]? = some y) (hy : y.p = b) :
    (l.set i { x with p := b }).set k { (if i = k then { x with p := b } else y) with p := a } = l.map (swN a b) := by
  have uniq : ∀ (j m : Nat) (u v : N), l[j]? = some u → l[m]? = some v → 0 < u.p → u.p = v.p → j = m := by
    intro j m u v h1 h2 h0 he
    rcases Nat.lt_trichotomy j m with h | h | h
    · exact absurd he.symm (un_of hu h2 h1 h (by omega))
    · exact h
    · exact absurd he (un_of hu h1 h2 h h0)
  have li := (List.getElem?_eq_some_iff.1 hi).1
  have lk := (List.getElem?_eq_some_iff.1 hk).1
  apply List.ext_getElem?
  intro j
  rw [List.getElem?_map]
  by_cases hjk : j = k
  · subst hjk
    rw [List.getElem?_set_self (by rw [List.length_set]; exact lk), hk]
    simp only [Option.map_some, swN]
    by_cases hij : i = j
    · subst hij
      rw [hi] at hk
      injection hk with e
      subst e
      rw [if_pos rfl, if_pos hx]
      have : a = b := hx.symm.trans hy
      rw [this]
    · rw [if_neg hij]
      have hya : y.p ≠ a := fun e => hij (uniq i j x y hi hk (by omega) (by rw [hx, e]))
      rw [if_neg hya, if_pos hy]
  · rw [List.getElem?_set_ne (by omega)]
    by_cases hji : j = i
    · subst hji
      rw [List.getElem?_set_self li, hi]
      simp only [Option.map_some, swN]
      rw [if_pos hx]
    · rw [List.getElem?_set_ne (by omega)]
      cases hj : l[j]? with
      | none => rfl
      | some z =>
        simp only [Option.map_some, swN]
        rw [if_neg (fun e => hji (uniq j i z x hj hi (by omega) (by rw [e, hx]))), if_neg (fun e => hjk (uniq j k z y hj hk (by omega) (by rw [e, hy])))]
end T
end Go.Proofs.Ytojgmofpgefonaa
