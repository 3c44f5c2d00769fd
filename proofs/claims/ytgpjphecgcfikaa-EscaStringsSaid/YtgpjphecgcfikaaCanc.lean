/-
  What steps from nothing keep: outside a control sequence its numbers are nought, outside the ground nothing of a rune is begun; so a cancel leaves nothing.
-/
import Derived.Test.YtgpjphecgcfikaaPieces
namespace Go.Proofs.Ytgpjphecgcfikaa
open Go.RowKit

structure E.Inv (e : E) : Prop where
  utf : e.mode ≠ 0 → e.u = U.zero
  csi : e.mode ≠ 2 → e.par = [] ∧ e.num = 0 ∧ e.priv = false ∧ e.skip = false
theorem E.zero_inv : E.zero.Inv := ⟨fun h => absurd rfl h, fun _ => ⟨rfl, rfl, rfl, rfl⟩⟩
theorem nx_low (s : U) (b : Int) (h : b ≤ 127) : nx s b = U.zero := by
  unfold nx
  rw [if_neg (by omega)]
  have h1 : stN b = 0 := by unfold stN; rw [if_pos (by omega)]
  have h2 : stM b = 0 := by unfold stM; rw [if_pos (by omega)]
  have h3 : stG b = 0 := by unfold stG; rw [if_pos (by omega)]
  rw [h1, h2, h3]
  rfl
theorem nxE_inv (e : E) (b : Int) (h : e.Inv) : (nxE e b).1.Inv := by
  obtain ⟨h1, h2⟩ := h
  unfold nxE
  by_cases c0 : e.mode = 0
  · rw [if_pos c0]
    have h3 := h2 (by omega)
    refine ⟨fun hm => ?_, fun _ => h3⟩
    dsimp only at hm ⊢
    by_cases c : b = 27
    · exact nx_low _ _ (by omega)
    · rw [if_neg c] at hm
      exact absurd c0 hm
  rw [if_neg c0]
  have hu := h1 c0
  by_cases c1 : e.mode = 1
  · rw [if_pos c1]
    have h3 := h2 (by omega)
    unfold escE
    repeat' split
    · exact ⟨fun _ => hu, fun hm => absurd rfl hm⟩
    all_goals exact ⟨fun _ => hu, fun _ => h3⟩
  rw [if_neg c1]
  by_cases c2 : e.mode = 2
  · rw [if_pos c2]
    unfold csiE
    repeat' split
    all_goals first
      | exact ⟨fun _ => hu, fun _ => ⟨rfl, rfl, rfl, rfl⟩⟩
      | exact ⟨fun _ => hu, fun hm => absurd c2 hm⟩
  rw [if_neg c2]
  have h3 := h2 c2
  repeat' split
  all_goals exact ⟨fun _ => hu, fun _ => h3⟩
theorem feedE_inv (e : E) (bs : List Int) (h : e.Inv) : (feedE e bs).Inv := by
  induction bs generalizing e with
  | nil => exact h
  | cons a l ih => exact ih _ (nxE_inv e a h)

theorem ctl_none (b : Int) (hb : b = 24 ∨ b = 26) : ctl b = [] := by rcases hb with rfl | rfl <;> decide
/-- What a cancel, or a substitute, does. -/
theorem cancel_of (s : E) (b : Int) (hb : b = 24 ∨ b = 26) (ho : s.Ok) (hi : s.Inv) :
    (s.mode = 5 → (nxE s b).1.mode = 3 ∧ (nxE s b).2 = []) ∧
    (s.mode ≠ 5 → (nxE s b).1 = E.zero ∧ (nxE s b).2.length ≤ 1 ∧ (s.u.n = 0 → (nxE s b).2.length = 0)) := by
  obtain ⟨mo, u, par, num, pr, sk⟩ := s
  obtain ⟨o1, o2, o3, o4, o5⟩ := ho
  obtain ⟨i1, i2⟩ := hi
  dsimp only at *
  have hbl : b ≤ 127 := by omega
  refine ⟨fun hm => ?_, fun hm => ?_⟩
  · subst hm
    rcases hb with rfl | rfl
    · exact ⟨rfl, rfl⟩
    · exact ⟨rfl, rfl⟩
  · have hmm : mo = 0 ∨ mo = 1 ∨ mo = 2 ∨ mo = 3 ∨ mo = 4 := by omega
    rcases hmm with rfl | rfl | rfl | rfl | rfl
    · obtain ⟨rfl, rfl, rfl, rfl⟩ := i2 (by omega)
      have e1 : (nxE ⟨0, u, [], 0, false, false⟩ b) = (⟨0, nx u b, [], 0, false, false⟩, prints (nxR u b) ++ ctl b) := by
        unfold nxE
        rw [if_pos rfl]
        dsimp only
        rw [if_neg (by omega)]
      rw [e1, nx_low u b hbl, ctl_none b hb, List.append_nil]
      dsimp only
      refine ⟨rfl, ?_, ?_⟩
      · unfold nxR
        have hsr : stR b = [b] := by unfold stR; rw [if_pos hbl]
        by_cases c : 0 < u.n
        · rw [if_pos c, if_neg (by omega), hsr]
          rcases hb with rfl | rfl <;> decide
        · rw [if_neg c, hsr]
          rcases hb with rfl | rfl <;> decide
      · intro hn
        unfold nxR
        have hsr : stR b = [b] := by unfold stR; rw [if_pos hbl]
        rw [if_neg (by omega), hsr]
        rcases hb with rfl | rfl <;> decide
    · obtain ⟨rfl, rfl, rfl, rfl⟩ := i2 (by omega)
      obtain rfl := i1 (by omega)
      rcases hb with rfl | rfl
      · exact ⟨rfl, by decide, fun _ => rfl⟩
      · exact ⟨rfl, by decide, fun _ => rfl⟩
    · obtain rfl := i1 (by omega)
      rcases hb with rfl | rfl
      · exact ⟨rfl, Nat.zero_le _, fun _ => rfl⟩
      · exact ⟨rfl, Nat.zero_le _, fun _ => rfl⟩
    · obtain ⟨rfl, rfl, rfl, rfl⟩ := i2 (by omega)
      obtain rfl := i1 (by omega)
      rcases hb with rfl | rfl
      · exact ⟨rfl, by decide, fun _ => rfl⟩
      · exact ⟨rfl, by decide, fun _ => rfl⟩
    · obtain ⟨rfl, rfl, rfl, rfl⟩ := i2 (by omega)
      obtain rfl := i1 (by omega)
      rcases hb with rfl | rfl
      · exact ⟨rfl, by decide, fun _ => rfl⟩
      · exact ⟨rfl, by decide, fun _ => rfl⟩
end Go.Proofs.Ytgpjphecgcfikaa
