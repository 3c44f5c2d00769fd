/-
  What colour, colourAt, Parts and Make of package attr answer: the plain functions, and the world stands as it was. Conditions: none.
-/
import Derived.Test.YthjpfljklbfeeaaRows
import Derived.Test.YthjpfljklbfeeaaPlain
import Derived.WalkKit
import Derived.WalkSpells
import Derived.WalkLawsBesides
import Derived.Lib.Hide
namespace Go.Proofs.Ythjpfljklbfeeaa
open Go.RowKit

theorem ret_i {a b : Int} (h : a = b) : Ending.returned (.int .i64 a) = .returned (.int .i64 b) := by rw [h]

set_option maxHeartbeats 400000 in
theorem colour_any (c : Int) (w : World) : Calls Try.prog 14 #[.int .i64 c] w fun e w' => e = .returned (.int .i64 (colF c)) ∧ w = w' := by
  by_cases h0 : c < 0
  · rw [show colF c = 0 by unfold colF; rw [if_pos h0]]
    have h1 : ¬ 8 < c := by omega
    go_enter Try.func14, Try.ntmps14
    go_wp2
    go_ret
    exact ⟨rfl, rfl⟩
  · by_cases h1 : 8 < c
    · rw [show colF c = 8 by unfold colF; rw [if_neg h0, if_pos h1]]
      go_enter Try.func14, Try.ntmps14
      go_wp2
      go_ret
      exact ⟨rfl, rfl⟩
    · rw [show colF c = c by unfold colF; rw [if_neg h0, if_neg h1]]
      go_enter Try.func14, Try.ntmps14
      go_wp2
      · go_ret
        exact ⟨rfl, rfl⟩
      · go_ret
        exact ⟨ret_i (by omega), rfl⟩

set_option maxHeartbeats 400000 in
theorem at16 (a : Int) (w : World) : Calls Try.prog 13 #[.int .i64 a, .int .i64 16] w fun e w' => e = .returned (.int .i64 (colF (a / 16 % 16))) ∧ w = w' := by
  have hm := i64_and240 a
  obtain ⟨q, hq, q0, q1⟩ : ∃ q : Int, q = a / 16 % 16 ∧ 0 ≤ q ∧ q ≤ 15 := ⟨_, rfl, by omega, by omega⟩
  rw [← hq] at hm ⊢
  clear hq
  go_enter Try.func13, Try.ntmps13
  go_wp2_with (go_at_call 14; refine (colour_any _ _).mono ?_; rintro e w' ⟨rfl, rfl⟩)
  go_ret
  exact ⟨rfl, rfl⟩
set_option maxHeartbeats 400000 in
theorem at256 (a : Int) (w : World) : Calls Try.prog 13 #[.int .i64 a, .int .i64 256] w fun e w' => e = .returned (.int .i64 (colF (a / 256 % 16))) ∧ w = w' := by
  have hm := i64_and3840 a
  obtain ⟨q, hq, q0, q1⟩ : ∃ q : Int, q = a / 256 % 16 ∧ 0 ≤ q ∧ q ≤ 15 := ⟨_, rfl, by omega, by omega⟩
  rw [← hq] at hm ⊢
  clear hq
  go_enter Try.func13, Try.ntmps13
  go_wp2_with (go_at_call 14; refine (colour_any _ _).mono ?_; rintro e w' ⟨rfl, rfl⟩)
  go_ret
  exact ⟨rfl, rfl⟩

set_option maxHeartbeats 400000 in
theorem make_any (b u t : Bool) (f k : Int) (w : World) : Calls Try.prog 10 #[.bool b, .bool u, .bool t, .int .i64 f, .int .i64 k] w fun e w' => e = .returned (.int .i64 (makeF ⟨b, u, t, f, k⟩)) ∧ w = w' := by
  have f0 := colF_lo f
  have f1 := colF_hi f
  have k0 := colF_lo k
  have k1 := colF_hi k
  unfold makeF
  dsimp only
  cases b <;> cases u <;> cases t
  all_goals
    go_enter Try.func10, Try.ntmps10
    go_wp2_with (go_at_call 14; refine (colour_any _ _).mono ?_; rintro e w' ⟨rfl, rfl⟩)
    go_ret
    exact ⟨ret_i (by simp only [bitN] <;> omega), rfl⟩

def partsV (l : L) : Value := .tuple #[.bool l.b, .bool l.u, .bool l.t, .int .i64 l.f, .int .i64 l.k]
def lookV (l : L) : Value := .agg #[.bool l.b, .bool l.u, .bool l.t, .int .i64 l.f, .int .i64 l.k]
def lookC (l : L) : Array Value := #[.bool l.b, .bool l.u, .bool l.t, .int .i64 l.f, .int .i64 l.k]

set_option maxHeartbeats 400000 in
theorem parts_any (a : Int) (w : World) : Calls Try.prog 9 #[.int .i64 a] w fun e w' => e = .returned (partsV (partsF a)) ∧ w = w' := by
  have h1 := i64_and1 a
  have h2 := i64_and2 a
  have h4 := i64_and4 a
  unfold partsF partsV
  dsimp only
  obtain ⟨q1, e1, q10, q11⟩ : ∃ q : Int, q = a % 2 ∧ 0 ≤ q ∧ q ≤ 1 := ⟨_, rfl, by omega, by omega⟩
  obtain ⟨q2, e2, q20, q21⟩ : ∃ q : Int, q = a / 2 % 2 ∧ 0 ≤ q ∧ q ≤ 1 := ⟨_, rfl, by omega, by omega⟩
  obtain ⟨q4, e4, q40, q41⟩ : ∃ q : Int, q = a / 4 % 2 ∧ 0 ≤ q ∧ q ≤ 1 := ⟨_, rfl, by omega, by omega⟩
  rw [← e1] at h1 ⊢
  rw [← e2] at h2 ⊢
  rw [← e4] at h4 ⊢
  clear e1 e2 e4
  go_enter Try.func9, Try.ntmps9
  go_wp2_with fail
  refine (at16 _ _).mono ?_
  rintro e w' ⟨rfl, rfl⟩
  go_wp2_with fail
  refine (at256 _ _).mono ?_
  rintro e w' ⟨rfl, rfl⟩
  go_wp2_with fail
  refine bodyPost_ret (v := .tuple #[.bool (q1 != 0), .bool (q2 * 2 != 0), .bool (q4 * 4 != 0), .int .i64 (colF (a / 16 % 16)), .int .i64 (colF (a / 256 % 16))]) (by simp [results, Try.results9, go_sem]) rfl ⟨?_, rfl⟩
  rw [show (q1 != 0) = decide (q1 ≠ 0) by rw [Bool.eq_iff_iff]; simp, show (q2 * 2 != 0) = decide (q2 ≠ 0) by rw [Bool.eq_iff_iff]; simp, show (q4 * 4 != 0) = decide (q4 ≠ 0) by rw [Bool.eq_iff_iff]; simp]
end Go.Proofs.Ythjpfljklbfeeaa
