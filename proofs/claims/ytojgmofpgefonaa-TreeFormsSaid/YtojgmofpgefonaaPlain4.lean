/-
  Splitting and removing as rows of nodes whose numbers are not told yet; swapping. Nothing of the program is walked here. No condition.
-/
import Derived.Test.YtojgmofpgefonaaC3
namespace Go.Proofs.Ytojgmofpgefonaa
open Go.RowKit
set_option linter.unusedSimpArgs false
set_option linter.unusedVariables false

def key (n : N) : Int × Int × Int := (n.p, n.d, n.f)
namespace T
def keys : T → List (Int × Int × Int)
  | leaf p => [(p, 0, 0)]
  | fork d f x y => (0, d, f) :: (x.keys ++ y.keys)
theorem keys_flat (t : T) (i : Nat) : (t.flat i).map key = t.keys := by
  induction t generalizing i with
  | leaf p => rfl
  | fork d f x y hx hy => simp [flat, keys, hx, hy, key, forkN]
theorem keys_len (t : T) : t.keys.length = t.size := by rw [← t.keys_flat 0, List.length_map, flat_len]
theorem sh_keys {L : List N} (hl : ∀ n ∈ L, 0 < n.p → n = leafN n.p) (t : T) (ho : t.ok) (i : Nat) (h : ∀ j, j < t.size → (L[i + j]?).map key = t.keys[j]?) : Sh L i t := by
  induction t generalizing i with
  | leaf p =>
    have := h 0 (by simp [size])
    simp only [Nat.add_zero, keys, List.getElem?_cons_zero] at this
    cases hL : L[i]? with
    | none => simp [hL] at this
    | some n =>
      simp only [hL, Option.map_some, Option.some.injEq, key, Prod.mk.injEq] at this
      have hn := hl n (List.mem_of_getElem? hL) (by rw [this.1]; exact ho)
      show L[i]? = some (leafN p)
      rw [hL, hn, this.1]
  | fork d f x y hx hy =>
    have sz : (fork d f x y).size = x.size + y.size + 1 := rfl
    refine ⟨?_, hx ho.2.2.2.1 (i + 1) (fun j hj => ?_), hy ho.2.2.2.2 (i + 1 + x.size) (fun j hj => ?_)⟩
    · have := h 0 (by omega)
      simp only [Nat.add_zero, keys, List.getElem?_cons_zero] at this
      cases hL : L[i]? with
      | none => simp [hL] at this
      | some n =>
        simp only [hL, Option.map_some, Option.some.injEq, key, Prod.mk.injEq] at this
        obtain ⟨p, d', f', a, b⟩ := n
        obtain ⟨rfl, rfl, rfl⟩ := this
        exact ⟨a, b, rfl⟩
    · have := h (j + 1) (by omega)
      rw [show i + (j + 1) = i + 1 + j by omega] at this
      rw [this]
      simp only [keys, List.getElem?_cons_succ]
      exact List.getElem?_append_left (by rw [keys_len]; exact hj)
    · have := h (x.size + j + 1) (by omega)
      rw [show i + (x.size + j + 1) = i + 1 + x.size + j by omega] at this
      rw [this]
      simp only [keys, List.getElem?_cons_succ]
      rw [List.getElem?_append_right (by rw [keys_len]; omega), keys_len]
      congr 1
      omega
theorem sh_all {L : List N} (hl : ∀ n ∈ L, 0 < n.p → n = leafN n.p) (t : T) (ho : t.ok) (h : L.map key = t.keys) : Sh L 0 t ∧ L.length = t.size ∧ t.lay L 0 = t.flat 0 := by
  have e : L.length = t.size := by rw [← keys_len, ← h, List.length_map]
  refine ⟨sh_keys hl t ho 0 (fun j hj => ?_), e, ?_⟩
  · rw [Nat.zero_add, ← List.getElem?_map, h]
  · unfold lay
    rw [← e]
    simp
theorem leaf_all {t : T} (ho : t.ok) (i : Nat) : ∀ n ∈ t.flat i, 0 < n.p → n = leafN n.p := fun n hn hp => leaf_of t i hn rfl hp
/-- The row that a split lays. -/
theorem split_row {at_ fresh d f : Int} {t : T} {k : Nat} (ho : t.ok) (hu : t.panes.Nodup) (hk : (t.flat 0)[k]? = some (leafN at_)) (h0 : 0 < at_) (hf : 0 < fresh) (hd : d = 1 ∨ d = 2) (h1 : 1 ≤ f) (h2 : f ≤ 1000) :
    let L := (t.flat 0).take k ++ [⟨0, d, f, 0, 0⟩, leafN at_, leafN fresh] ++ (t.flat 0).drop (k + 1)
    Sh L 0 (t.split at_ fresh d f) ∧ L.length = (t.split at_ fresh d f).size ∧ (t.split at_ fresh d f).lay L 0 = (t.split at_ fresh d f).flat 0 := by
  intro L
  have hs := flat_split (fresh := fresh) (d := d) (f := f) k 0 hu (Nat.zero_le _) (by rw [Nat.sub_zero]; exact hk) h0
  have hk1 : ((t.flat 0).drop k).take 1 = [leafN at_] := by
    have hl := (List.getElem?_eq_some_iff.1 hk)
    rw [List.drop_eq_getElem_cons hl.1, hl.2]
    rfl
  refine sh_all ?_ _ (split_ok ho hd h1 h2 hf) ?_
  · intro n hn hp
    simp only [L, List.mem_append, List.mem_cons, List.not_mem_nil, or_false] at hn
    rcases hn with (hn | rfl | rfl | rfl) | hn
    · exact leaf_all ho 0 n (List.mem_of_mem_take hn) hp
    · simp at hp
    · rfl
    · rfl
    · exact leaf_all ho 0 n (List.mem_of_mem_drop hn) hp
  · rw [← keys_flat _ 0, hs]
    unfold splitL
    have km : ∀ l : List N, (l.map (fun n => movedF n k 2)).map key = l.map key := by
      intro l
      rw [List.map_map]
      exact List.map_congr_left (fun n _ => rfl)
    simp only [L, Nat.sub_zero, List.map_append, km, hk1]
    simp [key, leafN]

def drop (pane : Int) : T → Option T
  | leaf p => if p = pane then none else some (leaf p)
  | fork d f x y =>
    match x.drop pane, y.drop pane with
    | none, _ => some y
    | _, none => some x
    | some x', some y' => some (fork d f x' y')
def rem {α : Type} (l : List α) (q k : Nat) : List α := l.take q ++ (l.drop (q + 1)).take (k - (q + 1)) ++ l.drop (k + 1)
theorem drop_none {pane : Int} {t : T} (h : pane ∉ t.panes) : t.drop pane = some t := by
  induction t with
  | leaf p => simp [panes] at h; simp [drop, Ne.symm h]
  | fork d f x y hx hy => simp [panes] at h; simp [drop, hx h.1, hy h.2]
/-- Nothing of a tree bears a number outside of it. -/
theorem no_par (t : T) (i k : Nat) (hk : k ≤ i ∨ i + t.size ≤ k) (h1 : 0 < k) : ∀ n ∈ t.flat i, (n.a == (k : Int) || n.b == (k : Int)) = false := by
  induction t generalizing i with
  | leaf p => intro n hn; simp [flat] at hn; subst hn; simp [leafN]; omega
  | fork d f x y hx hy =>
    have sz : (fork d f x y).size = x.size + y.size + 1 := rfl
    have := x.size_pos
    have := y.size_pos
    intro n hn
    simp only [flat, List.mem_cons, List.mem_append] at hn
    rcases hn with rfl | hn | hn
    · simp [forkN]; omega
    · exact hx (i + 1) (by omega) n hn
    · exact hy (i + 1 + x.size) (by omega) n hn
theorem rem_row {pane : Int} {t : T} {i k q : Nat} (hu : t.panes.Nodup) (h0 : 0 < pane) (hi : i < k) (hk : (t.flat i)[k - i]? = some (leafN pane)) (hq : i ≤ q)
    (hq1 : ∃ n, (t.flat i)[q - i]? = some n ∧ (n.a == (k : Int) || n.b == (k : Int)) = true) (hq2 : ∀ n ∈ (t.flat i).take (q - i), (n.a == (k : Int) || n.b == (k : Int)) = false) :
    q < k ∧ ∃ t', t.drop pane = some t' ∧ rem t.keys (q - i) (k - i) = t'.keys := by
  induction t generalizing i with
  | leaf p =>
    have := (List.getElem?_eq_some_iff.1 hk).1
    simp [flat] at this
    omega
  | fork d f x y hx hy =>
    have sz : (fork d f x y).size = x.size + y.size + 1 := rfl
    have px := x.size_pos
    have py := y.size_pos
    rw [panes, List.nodup_append] at hu
    obtain ⟨m, hm⟩ : ∃ m, k - i = m + 1 := ⟨k - i - 1, by omega⟩
    have hfl : (fork d f x y).flat i = forkN d f i x :: (x.flat (i + 1) ++ y.flat (i + 1 + x.size)) := rfl
    have mem_of : ∀ (z : T) (j q : Nat), (z.flat j)[q]? = some (leafN pane) → pane ∈ z.panes := by
      intro z
      induction z with
      | leaf p =>
        intro j q h
        cases q with
        | zero => simp [flat, leafN] at h; simp [panes, h]
        | succ q => simp [flat] at h
      | fork e g a b ha hb =>
        intro j q h
        cases q with
        | zero => simp [flat, forkN, leafN] at h; omega
        | succ q =>
          simp only [flat, List.getElem?_cons_succ] at h
          rw [List.getElem?_append] at h
          simp only [panes, List.mem_append]
          split at h
          · exact .inl (ha _ _ h)
          · exact .inr (hb _ _ h)
    rw [hfl] at hk hq1 hq2
    rw [hm, List.getElem?_cons_succ] at hk
    have hdrop_leaf : ∀ z : T, z.drop pane = none → z = leaf pane := by
      intro z hz
      cases z with
      | leaf p => simp [drop] at hz; rw [hz]
      | fork e g a b => simp only [drop] at hz; split at hz <;> cases hz
    have hkey : (fork d f x y).keys = (0, d, f) :: (x.keys ++ y.keys) := rfl
    have kx := x.keys_len
    have ky := y.keys_len
    by_cases hself : k = i + 1 ∨ k = i + 1 + x.size
    · -- the node itself
      have hq0 : q = i := by
        by_cases h : q = i
        · exact h
        · exfalso
          have : forkN d f i x ∈ (forkN d f i x :: (x.flat (i + 1) ++ y.flat (i + 1 + x.size))).take (q - i) := by
            obtain ⟨z, hz⟩ : ∃ z, q - i = z + 1 := ⟨q - i - 1, by omega⟩
            rw [hz, List.take_succ_cons]
            exact List.mem_cons_self
          have := hq2 _ this
          simp [forkN] at this
          omega
      subst hq0
      refine ⟨hi, ?_⟩
      rcases hself with h | h
      · have hx1 : x = leaf pane := by
          have e : m = 0 := by omega
          subst e
          rw [List.getElem?_append_left (by rw [flat_len]; omega)] at hk
          cases x with
          | leaf p => simp [flat, leafN] at hk; rw [hk]
          | fork e g a b => simp [flat, forkN, leafN] at hk; omega
        subst hx1
        refine ⟨y, by simp [drop], ?_⟩
        rw [hkey, hm]
        have e : m = 0 := by omega
        subst e
        simp [rem, keys]
      · have hmx : m = x.size := by omega
        have hy1 : y = leaf pane := by
          rw [hmx, List.getElem?_append_right (by rw [flat_len]; omega), flat_len, Nat.sub_self] at hk
          cases y with
          | leaf p => simp [flat, leafN] at hk; rw [hk]
          | fork e g a b => simp [flat, forkN, leafN] at hk; omega
        subst hy1
        have hnx : pane ∉ x.panes := fun h2 => hu.2.2 _ h2 pane (by simp [panes]) rfl
        refine ⟨x, by simp [drop, drop_none hnx], ?_⟩
        rw [hkey, hm, hmx]
        simp only [rem, Nat.sub_self, List.take_zero, List.nil_append, Nat.zero_add, List.drop_succ_cons, List.drop_zero, Nat.add_sub_cancel]
        rw [List.take_append_of_le_length (by omega), List.take_of_length_le (by omega), List.drop_append, List.drop_of_length_le (by omega), kx]
        simp [keys]
    · have hk1 : k ≠ i + 1 := fun h => hself (.inl h)
      have hk2 : k ≠ i + 1 + x.size := fun h => hself (.inr h)
      have hqi : q ≠ i := by
        rintro rfl
        obtain ⟨n, hn, hp⟩ := hq1
        simp at hn
        subst hn
        simp [forkN] at hp
        omega
      obtain ⟨s, hs⟩ : ∃ s, q - i = s + 1 := ⟨q - i - 1, by omega⟩
      rw [hs] at hq1 hq2 ⊢
      simp only [List.getElem?_cons_succ, List.take_succ_cons, List.mem_cons] at hq1 hq2
      rw [hm, hkey]
      have hrem : ∀ (K : List (Int × Int × Int)), rem ((0, d, f) :: K) (s + 1) (m + 1) = (0, d, f) :: rem K s m := by
        intro K
        unfold rem
        simp only [List.take_succ_cons, List.drop_succ_cons, List.cons_append]
        rw [show m + 1 - (s + 1 + 1) = m - (s + 1) by omega]
      rw [hrem]
      by_cases hmx : m < x.size
      · rw [List.getElem?_append_left (by rw [flat_len]; exact hmx)] at hk
        have a1 := mem_of x _ _ hk
        have a2 : pane ∉ y.panes := fun h2 => hu.2.2 _ a1 _ h2 rfl
        have hsx : s < x.size := by
          by_cases h : s < x.size
          · exact h
          · exfalso
            obtain ⟨n, hn, hp⟩ := hq1
            rw [List.getElem?_append_right (by rw [flat_len]; omega), flat_len] at hn
            have := no_par y (i + 1 + x.size) k (by omega) (by omega) n (List.mem_of_getElem? hn)
            rw [this] at hp
            cases hp
        obtain ⟨n, hn, hp⟩ := hq1
        rw [List.getElem?_append_left (by rw [flat_len]; exact hsx)] at hn
        obtain ⟨b1, t', b2, b3⟩ := hx (i := i + 1) hu.1 (by omega) (by rw [show k - (i + 1) = m by omega]; exact hk) (by omega) ⟨n, by rw [show q - (i + 1) = s by omega]; exact hn, hp⟩ (by
          intro z hz
          rw [show q - (i + 1) = s by omega] at hz
          exact hq2 z (.inr (by rw [List.take_append_of_le_length (by rw [flat_len]; omega)]; exact hz)))
        rw [show k - (i + 1) = m by omega, show q - (i + 1) = s by omega] at b3
        have hne : x.drop pane = some t' := b2
        refine ⟨b1, fork d f t' y, by simp [drop, b2, drop_none a2], ?_⟩
        have : rem (x.keys ++ y.keys) s m = rem x.keys s m ++ y.keys := by
          unfold rem
          rw [List.take_append_of_le_length (by omega), List.drop_append_of_le_length (by omega), List.take_append_of_le_length (by rw [List.length_drop]; omega), List.drop_append_of_le_length (by omega)]
          simp only [List.append_assoc]
        rw [this, b3]
        rfl
      · have hx2 : x.size ≤ m := by omega
        rw [List.getElem?_append_right (by rw [flat_len]; exact hx2), flat_len] at hk
        have a1 := mem_of y _ _ hk
        have a2 : pane ∉ x.panes := fun h2 => hu.2.2 _ h2 _ a1 rfl
        obtain ⟨n, hn, hp⟩ := hq1
        have hsx : x.size ≤ s := by
          by_cases h : x.size ≤ s
          · exact h
          · exfalso
            rw [List.getElem?_append_left (by rw [flat_len]; omega)] at hn
            have := no_par x (i + 1) k (by omega) (by omega) n (List.mem_of_getElem? hn)
            rw [this] at hp
            cases hp
        rw [List.getElem?_append_right (by rw [flat_len]; exact hsx), flat_len] at hn
        obtain ⟨b1, t', b2, b3⟩ := hy (i := i + 1 + x.size) hu.2.1 (by omega) (by rw [show k - (i + 1 + x.size) = m - x.size by omega]; exact hk) (by omega) ⟨n, by rw [show q - (i + 1 + x.size) = s - x.size by omega]; exact hn, hp⟩ (by
          intro z hz
          rw [show q - (i + 1 + x.size) = s - x.size by omega] at hz
          refine hq2 z (.inr ?_)
          rw [List.take_append, flat_len]
          exact List.mem_append_right _ hz)
        rw [show k - (i + 1 + x.size) = m - x.size by omega, show q - (i + 1 + x.size) = s - x.size by omega] at b3
        refine ⟨b1, fork d f x t', by simp [drop, b2, drop_none a2], ?_⟩
        have : rem (x.keys ++ y.keys) s m = x.keys ++ rem y.keys (s - x.size) (m - x.size) := by
          unfold rem
          have t1 : (x.keys ++ y.keys).take s = x.keys ++ y.keys.take (s - x.size) := by rw [List.take_append, List.take_of_length_le (by omega), kx]
          have t2 : (x.keys ++ y.keys).drop (s + 1) = y.keys.drop (s - x.size + 1) := by rw [List.drop_append, List.drop_of_length_le (by omega), List.nil_append, kx, show s + 1 - x.size = s - x.size + 1 by omega]
          have t3 : (x.keys ++ y.keys).drop (m + 1) = y.keys.drop (m - x.size + 1) := by rw [List.drop_append, List.drop_of_length_le (by omega), List.nil_append, kx, show m + 1 - x.size = m - x.size + 1 by omega]
          rw [t1, t2, t3, show m - (s + 1) = m - x.size - (s - x.size + 1) by omega]
          simp only [List.append_assoc]
        rw [this, b3]
        rfl
end T
end Go.Proofs.Ytojgmofpgefonaa
