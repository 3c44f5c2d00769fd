/-
  Plain facts on steps: what ends, and what is begun, as the second statement counts it.
-/
import Derived.Test.YtijjkpaagkfiiaaFeed
namespace Go.Proofs.Ytijjkpaagkfiiaa
open Go.RowKit

theorem st_zero (b : Int) (h : stN b = 0) : (⟨stN b, stM b, stG b⟩ : U) = U.zero ∧ 1 ≤ (stR b).length := by
  unfold stN at h
  unfold stN stM stG stR U.zero
  by_cases c1 : b ≤ 127
  · simp only [if_pos c1, if_pos (show b ≤ 191 by omega)]
    simp
  · by_cases c2 : b ≤ 191
    · simp only [if_neg c1, if_pos c2]
      simp
    · simp only [if_neg c2] at h
      by_cases c3 : b ≤ 223
      · simp only [if_pos c3] at h
        omega
      · by_cases c4 : b ≤ 239
        · simp only [if_neg c3, if_pos c4] at h
          omega
        · by_cases c5 : b ≤ 247
          · simp only [if_neg c3, if_neg c4, if_pos c5] at h
            omega
          · simp only [if_neg c1, if_neg c2, if_neg c3, if_neg c4, if_neg c5]
            simp
theorem st_pos (b : Int) (h : stN b ≠ 0) : stR b = [] ∧ 1 ≤ stN b ∧ stN b ≤ 3 := by
  unfold stN at h ⊢
  unfold stR
  by_cases c2 : b ≤ 191
  · simp only [if_pos c2] at h
    omega
  · by_cases c5 : b ≤ 247
    · simp only [if_neg c2, if_neg (show ¬ b ≤ 127 by omega), if_pos c5]
      refine ⟨trivial, ?_⟩
      repeat' split
      all_goals omega
    · simp only [if_neg c2, if_neg (show ¬ b ≤ 223 by omega), if_neg (show ¬ b ≤ 239 by omega), if_neg c5] at h
      omega

/-- What is begun, and how many bytes it has taken. -/
def Opened (s : U) (o : Int) : Prop := s.Ok ∧ (s.n = 0 → o = 0) ∧ (0 < s.n → 1 ≤ o ∧ o + s.n ≤ 4)
theorem opened_zero : Opened U.zero 0 := ⟨U.zero_ok, fun _ => rfl, fun h => absurd h (by decide)⟩

theorem nx_zero (s : U) (b : Int) (hs : s.Ok) (h : (nx s b).n = 0) : nx s b = U.zero ∧ 1 ≤ (nxR s b).length := by
  obtain ⟨a1, a2, _⟩ := hs
  unfold nx nxR at *
  by_cases c : 0 < s.n
  · by_cases d : 128 ≤ b ∧ b ≤ 191
    · simp only [if_pos (And.intro c d), if_pos c, if_pos d] at h ⊢
      by_cases f : 1 < s.n
      · simp only [if_pos f] at h
        omega
      · simp only [if_neg f]
        simp
    · have e : ¬ (0 < s.n ∧ 128 ≤ b ∧ b ≤ 191) := fun x => d x.2
      simp only [if_neg e, if_pos c, if_neg d] at h ⊢
      exact ⟨(st_zero b h).1, by simp⟩
  · have e : ¬ (0 < s.n ∧ 128 ≤ b ∧ b ≤ 191) := fun x => c x.1
    simp only [if_neg e, if_neg c] at h ⊢
    exact st_zero b h

theorem opened_end (s : U) (b o : Int) (hs : Opened s o) (h : (nx s b).n = 0) : Opened (nx s b) 0 := by
  rw [(nx_zero s b hs.1 h).1]
  exact opened_zero

theorem opened_on (s : U) (b o : Int) (hs : Opened s o) (h : (nx s b).n ≠ 0) :
    (nxR s b = [] ∧ Opened (nx s b) (o + 1)) ∨ ((nxR s b).length = 1 ∧ Opened (nx s b) 1) := by
  have hok := nx_ok s b hs.1
  have h3 := hok.1
  obtain ⟨⟨a1, a2, a3, a4, a5, a6⟩, z, p⟩ := hs
  by_cases c : 0 < s.n
  · by_cases d : 128 ≤ b ∧ b ≤ 191
    · by_cases f : 1 < s.n
      · refine .inl ⟨by unfold nxR; simp only [if_pos c, if_pos d, if_pos f], hok, fun e => absurd e h, fun _ => ?_⟩
        have e : (nx s b).n = s.n - 1 := by unfold nx; simp only [if_pos (And.intro c d), if_pos f]
        have := p c
        omega
      · exact absurd (by unfold nx; simp only [if_pos (And.intro c d), if_neg f]; rfl) h
    · have e : nx s b = ⟨stN b, stM b, stG b⟩ := by unfold nx; simp only [if_neg (fun x : 0 < s.n ∧ 128 ≤ b ∧ b ≤ 191 => d x.2)]
      have e2 : nxR s b = 65533 :: stR b := by unfold nxR; simp only [if_pos c, if_neg d]
      have hst := st_pos b (by rw [e] at h; exact h)
      refine .inr ⟨by rw [e2, hst.1]; rfl, hok, fun x => absurd x h, fun _ => ?_⟩
      have : (nx s b).n = stN b := by rw [e]
      omega
  · have e : nx s b = ⟨stN b, stM b, stG b⟩ := by unfold nx; simp only [if_neg (fun x : 0 < s.n ∧ 128 ≤ b ∧ b ≤ 191 => c x.1)]
    have e2 : nxR s b = stR b := by unfold nxR; simp only [if_neg c]
    have hst := st_pos b (by rw [e] at h; exact h)
    refine .inl ⟨by rw [e2, hst.1], hok, fun x => absurd x h, fun _ => ?_⟩
    have : (nx s b).n = stN b := by rw [e]
    have := z (by omega)
    omega
end Go.Proofs.Ytijjkpaagkfiiaa
