/-
  What holds in the statement of EscaStrings that ends a string, whichever of its operations have come up.
-/
import Derived.Test.YtgpjphecgcfikaaInv
import Derived.Test.YtgpjphecgcfikaaRaw
namespace Go.Proofs.Ytgpjphecgcfikaa
open Go.RowKit

/-- Within a string, as a value. -/
def strV (D : Option Addr) (c : Nat) : Value := .agg #[.int .i64 3, .int .i64 0, .int .i64 0, .int .i64 0, .slice D 0 c, .int .i64 0, .bool false, .bool false]
def slotOf : Nat → Nat
  | 0 => 67 | 1 => 68 | 2 => 69 | 3 => 70 | 4 => 71 | 5 => 72 | 6 => 73 | 7 => 74 | 8 => 75 | 9 => 76 | 10 => 77 | 11 => 78 | 12 => 79 | 13 => 80 | 14 => 66 | 15 => 81 | 16 => 82 | 17 => 12 | 19 => 13 | _ => 0
def dsts : List Nat := [12, 13, 66, 67, 68, 69, 70, 71, 72, 73, 74, 75, 76, 77, 78, 79, 80, 81, 82]
def EndRow (w : World) (T : Nat) (k : Nat) : Prop := ∃ Dx nx cx bs, w.cell? ⟨T, k, none⟩ = some (.slice Dx nx cx) ∧ ends[k]? = some bs ∧ ReadB w (.slice Dx nx cx) bs
/-- What operation j has left in its slot. -/
def SF (B : Nat) (D0 : Option Addr) (c0 : Nat) (fin : Int) (qf : Nat) (j : Nat) (s18 : Bool) (v : Value) (w : World) : Prop :=
  match j with
  | 0 => v = strV D0 c0
  | 1 => s18 = false → ReadB w v [7]
  | 2 => s18 = false → ReadB w v [24]
  | 3 => s18 = false → ReadB w v [26]
  | 4 => s18 = false → ReadB w v [27, 92]
  | 5 => s18 = false → ReadB w v [27, 120, 7]
  | 6 => s18 = false → ReadB w v [27, 27, 92]
  | 7 => s18 = false → ∃ T, v = .slice (some ⟨T, 0, none⟩) 6 6 ∧ ∀ k, k < 6 → EndRow w T k
  | 8 => v = .int .i64 fin
  | 9 => v = .int .i64 qf
  | 10 => v = .int .i64 ((qf % 6 : Nat) : Int)
  | 11 => s18 = false → ∃ T, v = .pointer (some ⟨T, qf % 6, none⟩) ∧ EndRow w T (qf % 6)
  | 12 => s18 = false → ∃ bs, ends[qf % 6]? = some bs ∧ ReadB w v bs
  | 13 => ∃ D c Dv cv, v = .tuple #[zeroV D c, .slice Dv 0 cv] ∧ (s18 = false → Ints w B (.slice D 0 c) [])
  | 14 => ∃ D c Dv cv, v = .tuple #[zeroV D c, .slice Dv 0 cv] ∧ (s18 = false → Ints w B (.slice D 0 c) [])
  | 15 => ∃ D c, v = zeroV D c ∧ (s18 = false → Ints w B (.slice D 0 c) [])
  | 16 => ∃ Dv cv, v = .slice Dv 0 cv
  | 17 => (s18 = false → ∃ N z0 z1 z2 z3 z4 z5 z6 z7, v = .pointer (some ⟨N, 0, none⟩) ∧ B ≤ N ∧ Held w N 33 #[z0, z1, z2, z3, z4, z5, z6, z7]) ∧
      (s18 = true → ∃ N D c, v = .pointer (some ⟨N, 0, none⟩) ∧ Held w N 33 (zeroC D c) ∧ Ints w B (.slice D 0 c) [])
  | 19 => ∃ Dv cv, v = .slice Dv 0 cv
  | _ => True

theorem EndRow.below {w w' : World} {T k : Nat} (h : EndRow w T k) (hb : Below w.heap.size w w') : EndRow w' T k := by
  obtain ⟨Dx, nx, cx, bs, h1, h2, h3⟩ := h
  exact ⟨Dx, nx, cx, bs, (hb.cell (p := ⟨T, k, none⟩) (World.block_lt_of_cell? w _ h1)).trans h1, h2, h3.below hb (Nat.le_refl _)⟩
variable {B : Nat} {D0 : Option Addr} {c0 : Nat} {fin : Int} {qf : Nat}
theorem SF.mono {j : Nat} {v : Value} {w w' : World} (h : SF B D0 c0 fin qf j false v w) (hb : Below w.heap.size w w') : SF B D0 c0 fin qf j false v w' := by
  unfold SF at *
  split at h
  all_goals first
    | exact h
    | exact fun h0 => (h h0).below hb (Nat.le_refl _)
    | (intro h0; obtain ⟨T, h1, h2⟩ := h h0; exact ⟨T, h1, fun k hk => (h2 k hk).below hb⟩)
    | (intro h0; obtain ⟨T, h1, h2⟩ := h h0; exact ⟨T, h1, h2.below hb⟩)
    | (intro h0; obtain ⟨bs, h1, h2⟩ := h h0; exact ⟨bs, h1, h2.below hb (Nat.le_refl _)⟩)
    | (obtain ⟨D, c, Dv, cv, h1, h2⟩ := h; exact ⟨D, c, Dv, cv, h1, fun h0 => (h2 h0).below hb (Nat.le_refl _)⟩)
    | (obtain ⟨D, c, h1, h2⟩ := h; exact ⟨D, c, h1, fun h0 => (h2 h0).below hb (Nat.le_refl _)⟩)
    | (refine ⟨fun h0 => ?_, fun h0 => by cases h0⟩
       obtain ⟨N, z0, z1, z2, z3, z4, z5, z6, z7, h1, h2, h3⟩ := h.1 h0
       exact ⟨N, z0, z1, z2, z3, z4, z5, z6, z7, h1, h2, h3.below hb h3.lt⟩)
theorem SF.pure {j : Nat} {v : Value} {w w' : World} (h : SF B D0 c0 fin qf j false v w) (hj : j ≠ 17) : SF B D0 c0 fin qf j true v w' := by
  unfold SF at *
  split at h
  all_goals first
    | exact h
    | exact fun h0 => by cases h0
    | (obtain ⟨D, c, Dv, cv, h1, _⟩ := h; exact ⟨D, c, Dv, cv, h1, fun h0 => by cases h0⟩)
    | (obtain ⟨D, c, h1, _⟩ := h; exact ⟨D, c, h1, fun h0 => by cases h0⟩)
    | exact absurd rfl hj

/-- What holds, whichever operations have come up. -/
structure StF (wq : World) (D0 : Option Addr) (c0 : Nat) (fin : Int) (qf : Nat) (L : Array Bool) (f : Nat → Value) (w : World) : Prop where
  size : L.size = 20
  below : Below wq.heap.size wq w
  last : L.getD 18 false = true → ∀ j, j < 18 → j ≠ 16 → L.getD j false = true
  facts : ∀ j, j < 20 → j ≠ 18 → L.getD j false = true → SF wq.heap.size D0 c0 fin qf j (L.getD 18 false) (f (slotOf j)) w
theorem on_set (L : Array Bool) (i j : Nat) (hi : i < L.size) : (L.setIfInBounds i true).getD j false = if j = i then true else L.getD j false := by
  simp only [Array.getD_eq_getD_getElem?, Array.getElem?_setIfInBounds]
  by_cases h : i = j
  · subst h; simp [hi]
  · simp [h, Ne.symm h]
theorem slot_inj : ∀ i : Nat, i < 20 → ∀ j : Nat, j < 20 → i ≠ 18 → j ≠ 18 → slotOf i = slotOf j → i = j := by decide
theorem slot_mem : ∀ i : Nat, i < 20 → i ≠ 18 → slotOf i ∈ dsts := by decide
variable {wq : World}
/-- Operation i has come up, and left v. -/
theorem StF.next {L : Array Bool} {f : Nat → Value} {w w' : World} (h : StF wq D0 c0 fin qf L f w) {i : Nat} {v : Value} (hi : i < 20) (h18 : i ≠ 18) (hoff : L.getD i true = false)
    (hw : Below w.heap.size w w') (hsame : i = 16 ∨ i = 19 → w' = w) (hnew : SF wq.heap.size D0 c0 fin qf i (L.getD 18 false) v w') : StF wq D0 c0 fin qf (L.setIfInBounds i true) (upd f (slotOf i) v) w' := by
  have hsz := h.size
  have hi' : i < L.size := by omega
  have hoffi : L.getD i false = false := by
    rw [Array.getD_eq_getD_getElem?] at hoff ⊢
    rw [Array.getElem?_eq_getElem hi'] at hoff ⊢
    exact hoff
  have hs18 : (L.setIfInBounds i true).getD 18 false = L.getD 18 false := by rw [on_set L i 18 hi', if_neg (Ne.symm h18)]
  refine ⟨by simpa using hsz, h.below.trans (hw.mono h.below.size), ?_, ?_⟩
  · intro hl j hj hj16
    rw [hs18] at hl
    rw [on_set L i j hi']
    split
    · rfl
    · exact h.last hl j hj hj16
  · intro j hj hj18 hon
    rw [on_set L i j hi'] at hon
    rw [hs18]
    by_cases hji : j = i
    · subst hji
      simpa [upd] using hnew
    · rw [if_neg hji] at hon
      have hne : slotOf j ≠ slotOf i := fun he => hji (slot_inj j hj i hi hj18 h18 he)
      have hf : upd f (slotOf i) v (slotOf j) = f (slotOf j) := by simp [upd, hne]
      rw [hf]
      have hfact := h.facts j hj hj18 hon
      cases hb18 : L.getD 18 false with
      | false =>
        rw [hb18] at hfact
        exact hfact.mono hw
      | true =>
        rw [hb18] at hfact
        have : i = 16 ∨ i = 19 := by
          by_cases h16 : i = 16
          · exact .inl h16
          · by_cases h19 : i = 19
            · exact .inr h19
            · have := h.last hb18 i (by omega) h16
              rw [this] at hoffi
              cases hoffi
        rw [hsame this]
        exact hfact
/-- The store has come up. -/
theorem StF.stored {L : Array Bool} {f : Nat → Value} {w w' : World} (h : StF wq D0 c0 fin qf L f w) (hoff : L.getD 18 true = false) (hall : ∀ j, j < 18 → j ≠ 16 → L.getD j false = true)
    (hw : Below wq.heap.size w w') (hnew : SF wq.heap.size D0 c0 fin qf 17 true (f 12) w') : StF wq D0 c0 fin qf (L.setIfInBounds 18 true) f w' := by
  have hsz := h.size
  have hi' : 18 < L.size := by omega
  have hoffi : L.getD 18 false = false := by
    rw [Array.getD_eq_getD_getElem?] at hoff ⊢
    rw [Array.getElem?_eq_getElem hi'] at hoff ⊢
    exact hoff
  refine ⟨by simpa using hsz, h.below.trans hw, ?_, ?_⟩
  · intro _ j hj hj16
    rw [on_set L 18 j hi', if_neg (by omega)]
    exact hall j hj hj16
  · intro j hj hj18 hon
    rw [on_set L 18 j hi', if_neg hj18] at hon
    rw [on_set L 18 18 hi', if_pos rfl]
    have hfact := h.facts j hj hj18 hon
    rw [hoffi] at hfact
    by_cases h17 : j = 17
    · subst h17
      exact hnew
    · exact hfact.pure h17
end Go.Proofs.Ytgpjphecgcfikaa
