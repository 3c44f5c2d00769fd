/-
  That the small check 'awake' at the end of every statement of this seat answers true. Conditions: none.
-/
import Derived.Test.YtmnpialffhglhaaLeaf
namespace Go.Proofs.Ytmnpialffhglhaa
open Go.RowKit Ieee

theorem part_is {n : Int} {r : Nat} {q : Int} (h : partF n r = q) (w : World) : Calls Try.prog 10 #[.int .i64 n, .float .f64 r] w (Ans (.int .i64 q) w) := by subst h; exact part_any n r w
theorem same_is {a b : Nat} {q : Bool} (h : sameF a b = q) (w : World) : Calls Try.prog 13 #[.float .f64 a, .float .f64 b] w (Ans (.bool q) w) := by subst h; exact same_any a b w
theorem held_is {n lo hi q : Int} (h : heldF n lo hi = q) (w : World) : Calls Try.prog 18 #[.int .i64 n, .int .i64 lo, .int .i64 hi] w (Ans (.int .i64 q) w) := by subst h; exact held_any n lo hi w

theorem aw1 : partF 9 9221120237041090561 = 4 := by decide +kernel
theorem aw2 : partF 9 9223372036854775808 = 0 := by decide +kernel
theorem aw3 : partF 9 9218868437227405312 = 9 := by decide +kernel
theorem aw4 : partF 10 4598175219545276416 = 2 := by decide +kernel
theorem aw5 : heldF 5 7 6 = 6 := by decide +kernel
theorem aw6 : sameF 9221120237041090561 (Op.negFloat .f64 9221120237041090561) = true := by decide +kernel
theorem aw7 : sameF 0 9223372036854775808 = false := by decide +kernel
theorem aw8 : partF 20000 4607182418800017408 = 10000 := by decide +kernel

theorem awake_any (w : World) : Calls Try.prog 11 #[] w (Ans (.bool true) w) := by
  go_enter Try.func11, Try.ntmps11
  go_wp2_with fail
  refine (minus_zero _).mono ?_
  rintro e w' ⟨rfl, rfl⟩
  go_wp2_with fail
  refine (nan_any _).mono ?_
  rintro e w' ⟨rfl, rfl⟩
  go_wp2_with fail
  refine (part_is aw1 _).mono ?_
  rintro e w' ⟨rfl, rfl⟩
  go_wp2_with fail
  refine (part_is aw2 _).mono ?_
  rintro e w' ⟨rfl, rfl⟩
  go_wp2_with fail
  refine (inf_pos _).mono ?_
  rintro e w' ⟨rfl, rfl⟩
  go_wp2_with fail
  refine (part_is aw3 _).mono ?_
  rintro e w' ⟨rfl, rfl⟩
  go_wp2_with fail
  refine (part_is aw4 _).mono ?_
  rintro e w' ⟨rfl, rfl⟩
  go_wp2_with fail
  refine (held_is aw5 _).mono ?_
  rintro e w' ⟨rfl, rfl⟩
  go_wp2_with fail
  refine (nan_any _).mono ?_
  rintro e w' ⟨rfl, rfl⟩
  go_wp2_with fail
  refine (nan_any _).mono ?_
  rintro e w' ⟨rfl, rfl⟩
  go_wp2_with fail
  refine (same_is aw6 _).mono ?_
  rintro e w' ⟨rfl, rfl⟩
  go_wp2_with fail
  refine (same_is aw7 _).mono ?_
  rintro e w' ⟨rfl, rfl⟩
  go_wp2_with fail
  refine (part_is aw8 _).mono ?_
  rintro e w' ⟨rfl, rfl⟩
  go_wp2_with fail
  go_ret
  exact ⟨rfl, rfl⟩
theorem u64_wf {a : Int} (h : (Lit.int .u64 a).wf = true) : 0 ≤ a ∧ a < 18446744073709551616 := by
  have h2 : (decide (IntKind.u64.min ≤ a) && decide (a ≤ IntKind.u64.max)) = true := h
  have e1 : IntKind.u64.min = 0 := by decide
  have e2 : IntKind.u64.max = 18446744073709551615 := by decide
  rw [e1, e2] at h2
  simp only [Bool.and_eq_true, decide_eq_true_eq] at h2
  omega
end Go.Proofs.Ytmnpialffhglhaa
