/-
  Step as one plain function of what is begun and a byte; what a row of bytes comes to, byte by byte. Conditions: what is begun is what steps from nothing make.
-/
import Derived.Test.YtijjkpaagkfiiaaAwake
namespace Go.Proofs.Ytijjkpaagkfiiaa
open Go.RowKit

/-- What is begun. -/
structure U where
  n : Int
  m : Int
  g : Int

def U.zero : U := ⟨0, 0, 0⟩
/-- What steps from nothing make. -/
def U.Ok (s : U) : Prop := 0 ≤ s.n ∧ s.n ≤ 3 ∧ 0 ≤ s.g ∧ s.g ≤ 32767 ∧ (s.n = 2 → s.g ≤ 511) ∧ (s.n = 3 → s.g ≤ 7)
theorem U.zero_ok : U.zero.Ok := ⟨by decide, by decide, by decide, by decide, by decide, by decide⟩

def nx (s : U) (b : Int) : U :=
  if 0 < s.n ∧ 128 ≤ b ∧ b ≤ 191 then (if 1 < s.n then ⟨s.n - 1, s.m, s.g * 64 + b % 64⟩ else U.zero) else ⟨stN b, stM b, stG b⟩
def nxR (s : U) (b : Int) : List Int :=
  if 0 < s.n then (if 128 ≤ b ∧ b ≤ 191 then (if 1 < s.n then [] else [endR (s.g * 64 + b % 64) s.m]) else 65533 :: stR b) else stR b

theorem stR_len (b : Int) : (stR b).length ≤ 1 := by unfold stR; repeat' split
                                                     all_goals simp
theorem nxR_len (s : U) (b : Int) : (nxR s b).length ≤ 2 := by
  have := stR_len b
  unfold nxR
  repeat' split
  all_goals (simp <;> omega)

theorem st_ok (b : Int) : U.Ok ⟨stN b, stM b, stG b⟩ := by
  unfold U.Ok stN stG
  dsimp only
  repeat' split
  all_goals omega

theorem nx_ok (s : U) (b : Int) (hs : s.Ok) : (nx s b).Ok := by
  obtain ⟨a1, a2, a3, a4, a5, a6⟩ := hs
  unfold nx
  split
  · split
    · unfold U.Ok
      dsimp only
      omega
    · exact U.zero_ok
  · exact st_ok b

theorem step_any (s : U) (b : Int) (w : World) (hs : s.Ok) (h0 : 0 ≤ b) (h1 : b ≤ 255) :
    Calls Try.prog 7 #[.agg #[.int .i64 s.n, .int .i64 s.m, .int .i64 s.g], .int .u8 b] w (StepPost w (nx s b).n (nx s b).m (nx s b).g (nxR s b)) := by
  obtain ⟨a1, a2, a3, a4, a5, a6⟩ := hs
  by_cases c : 0 < s.n
  · by_cases d : 128 ≤ b ∧ b ≤ 191
    · by_cases f : 1 < s.n
      · have e1 : nx s b = ⟨s.n - 1, s.m, s.g * 64 + b % 64⟩ := by unfold nx; rw [if_pos ⟨c, d⟩, if_pos f]
        have e2 : nxR s b = [] := by unfold nxR; rw [if_pos c, if_pos d, if_pos f]
        rw [e1, e2]
        exact step_on s.n s.m s.g b w c d.1 d.2 _ _ _ _ fun w => goOn_more s.n s.m s.g b w f a2 a3 a4 d.1 d.2
      · have e1 : nx s b = U.zero := by unfold nx; rw [if_pos ⟨c, d⟩, if_neg f]
        have e2 : nxR s b = [endR (s.g * 64 + b % 64) s.m] := by unfold nxR; rw [if_pos c, if_pos d, if_neg f]
        rw [e1, e2]
        exact step_on s.n s.m s.g b w c d.1 d.2 _ _ _ _ fun w => goOn_last s.n s.m s.g b w (by omega) a3 a4 d.1 d.2
    · have e1 : nx s b = ⟨stN b, stM b, stG b⟩ := by unfold nx; rw [if_neg (fun h => d h.2)]
      have e2 : nxR s b = 65533 :: stR b := by unfold nxR; rw [if_pos c, if_neg d]
      rw [e1, e2]
      exact step_bad s.n s.m s.g b w c h0 h1 (by omega) (stR_len b)
  · have e1 : nx s b = ⟨stN b, stM b, stG b⟩ := by unfold nx; rw [if_neg (fun h => c h.1)]
    have e2 : nxR s b = stR b := by unfold nxR; rw [if_neg c]
    rw [e1, e2]
    exact step_fresh s.n s.m s.g b w (by omega) h0 h1

/-! ### rows of bytes -/
def feedS (s : U) : List Int → U
  | [] => s
  | b :: bs => feedS (nx s b) bs
def feedR (s : U) : List Int → List Int
  | [] => []
  | b :: bs => nxR s b ++ feedR (nx s b) bs
theorem feedS_snoc (s : U) (bs : List Int) (b : Int) : feedS s (bs ++ [b]) = nx (feedS s bs) b := by
  induction bs generalizing s with
  | nil => rfl
  | cons a l ih => exact ih _
theorem feedR_snoc (s : U) (bs : List Int) (b : Int) : feedR s (bs ++ [b]) = feedR s bs ++ nxR (feedS s bs) b := by
  induction bs generalizing s with
  | nil => simp [feedR, feedS]
  | cons a l ih => simp [feedR, feedS, ih, List.append_assoc]
theorem feedS_ok (s : U) (bs : List Int) (hs : s.Ok) : (feedS s bs).Ok := by
  induction bs generalizing s with
  | nil => exact hs
  | cons a l ih => exact ih _ (nx_ok s a hs)
theorem feedR_len (s : U) (bs : List Int) : (feedR s bs).length ≤ 2 * bs.length := by
  induction bs generalizing s with
  | nil => simp [feedR]
  | cons a l ih =>
    have := ih (nx s a)
    have := nxR_len s a
    simp [feedR]
    omega
end Go.Proofs.Ytijjkpaagkfiiaa
