/-
  What the small calls of rati, of math and of the document's own answer give: the plain functions, and the world stands as it was. Conditions: none.
-/
import Derived.Test.YtojgmofpgefonaaLeaf
import Derived.Test.YtojgmofpgefonaaOrd
import Derived.WalkKit
import Derived.WalkSpells
import Derived.WalkLawsBesides
import Derived.Laws.Externs
import Derived.Lib.Hide
namespace Go.Proofs.Ytojgmofpgefonaa
open Go.RowKit Ieee

@[go_sem] theorem run_frombits (n : Int) (w : World) : (callFunc 61 #[.int .u64 n]).run Try.prog w = .ok (.value (.float .f64 n.toNat)) w := by
  rw [run_callFunc_extern (fn := Try.f61) (e := Extern.MathFloatBits.float64frombits) rfl (by kernel_rfl) (by kernel_rfl) (by kernel_rfl) (by kernel_rfl)]
  rfl
@[go_sem] theorem run_bits (b : Nat) (w : World) : (callFunc 72 #[.float .f64 b]).run Try.prog w = .ok (.value (.int .u64 b)) w := by
  rw [run_callFunc_extern (fn := Try.f72) (e := Extern.MathFloatBits.float64bits) rfl (by kernel_rfl) (by kernel_rfl) (by kernel_rfl) (by kernel_rfl)]
  rfl

@[go_sem] theorem unary_neg_float (k : FloatKind) (b : Nat) : Op.unary .neg (.float k b) = pure (.float k (Op.negFloat k b)) := rfl

theorem isnan_any (r : Nat) (w : World) : Calls Try.prog 64 #[.float .f64 r] w (Ans (.bool (FloatKind.f64.format.order r r != some .eq)) w) := by
  go_enter Try.func64, Try.ntmps64
  go_wp2_with fail
  go_ret
  exact ⟨rfl, rfl⟩

theorem nan_any (w : World) : Calls Try.prog 59 #[] w (Ans (.float .f64 9221120237041090561) w) := by
  go_enter Try.func59, Try.ntmps59
  go_wp2_with fail
  go_ret
  exact ⟨rfl, rfl⟩

theorem inf_pos (w : World) : Calls Try.prog 60 #[.int .i64 1] w (Ans (.float .f64 9218868437227405312) w) := by
  go_enter Try.func60, Try.ntmps60
  go_wp2_with fail
  go_ret
  exact ⟨rfl, rfl⟩
theorem inf_neg (w : World) : Calls Try.prog 60 #[.int .i64 (-1)] w (Ans (.float .f64 18442240474082181120) w) := by
  go_enter Try.func60, Try.ntmps60
  go_wp2_with fail
  go_ret
  exact ⟨rfl, rfl⟩

theorem minus_zero (w : World) : Calls Try.prog 58 #[.float .f64 0, .float .f64 13830554455654793216] w (Ans (.float .f64 9223372036854775808) w) := by
  go_enter Try.func58, Try.ntmps58
  go_wp2_with fail
  go_ret
  exact ⟨rfl, rfl⟩

theorem rheld_any (n lo hi : Int) (w : World) : Calls Try.prog 55 #[.int .i64 n, .int .i64 lo, .int .i64 hi] w (Ans (.int .i64 (heldF n lo hi)) w) := by
  go_enter Try.func55, Try.ntmps55
  go_wp2_with fail
  all_goals
    go_ret
    exact ⟨ret_i (by unfold heldF; omega), rfl⟩

/-- A share of a number that lies within its bounds. -/
def mulF (n : Int) (r : Nat) : Int := ((floatBits .mul .f64 r (floatOfInt .f64 n)).bind fun p => floatToIntVal .f64 p .i64).getD 0
def partF (n : Int) (r : Nat) : Int :=
  if (FloatKind.f64.format.order r r != some .eq) = true then (heldF n 0 10000) / 2
  else if (FloatKind.f64.format.order r 0 == some .lt || FloatKind.f64.format.order r 0 == some .eq) = true then 0
  else if (FloatKind.f64.format.order r 4607182418800017408 == some .gt) = true then heldF n 0 10000
  else mulF (heldF n 0 10000) r

theorem mul_ok {r : Nat} (h0 : (FloatKind.f64.format.order r r != some .eq) = false) (h1 : (FloatKind.f64.format.order r 0 == some .lt || FloatKind.f64.format.order r 0 == some .eq) = false)
    (h2 : (FloatKind.f64.format.order r 4607182418800017408 == some .gt) = false) (n : Int) (hn : 0 ≤ n) (hn1 : n ≤ 10000) :
    ∃ p : Nat, floatBits .mul .f64 r (floatOfInt .f64 n) = some p ∧ floatToIntVal .f64 p .i64 = some (mulF n r) ∧ 0 ≤ mulF n r ∧ mulF n r ≤ n := by
  obtain ⟨p, q, a, b, c⟩ := share_int (r := r) (by
    have : (double.order r r != some .eq) = false := h0
    simpa using this) h1 h2 n.toNat (by omega)
  rw [Int.toNat_of_nonneg hn] at a
  have e : mulF n r = (q : Int) := by
    unfold mulF
    rw [a]
    show (floatToIntVal .f64 p .i64).getD 0 = _
    rw [b]; rfl
  rw [e]
  exact ⟨p, a, b, by omega, by omega⟩

theorem half (n : Int) (h : 0 ≤ n) : n.tdiv 2 = n / 2 := Int.tdiv_eq_ediv_of_nonneg h

theorem part_any (n : Int) (r : Nat) (w : World) : Calls Try.prog 39 #[.int .i64 n, .float .f64 r] w (Ans (.int .i64 (partF n r)) w) := by
  have H : ∀ w, Calls Try.prog 38 #[.int .i64 n, .int .i64 0, .int .i64 10000] w (Ans (.int .i64 (heldF n 0 10000)) w) := held_any n 0 10000
  have hN : ∀ w, Calls Try.prog 64 #[.float .f64 r] w (Ans (.bool (FloatKind.f64.format.order r r != some .eq)) w) := isnan_any r
  have k0 : 0 ≤ heldF n 0 10000 := by unfold heldF; omega
  have k1 : heldF n 0 10000 ≤ 10000 := by unfold heldF; omega
  unfold partF
  generalize heldF n 0 10000 = m at *
  have hh := half m k0
  by_cases h0 : (FloatKind.f64.format.order r r != some .eq) = true
  · rw [if_pos h0]
    rw [h0] at hN
    go_enter Try.func39, Try.ntmps39
    go_wp2_with (first | (go_at_call 38; refine (H _).mono ?_; rintro e w' ⟨rfl, rfl⟩) | (go_at_call 64; refine (hN _).mono ?_; rintro e w' ⟨rfl, rfl⟩))
    go_ret
    exact ⟨ret_i (by omega), rfl⟩
  · have h0' := Bool.eq_false_iff.2 h0
    rw [if_neg h0]
    rw [h0'] at hN
    by_cases h1 : (FloatKind.f64.format.order r 0 == some .lt || FloatKind.f64.format.order r 0 == some .eq) = true
    · rw [if_pos h1]
      go_enter Try.func39, Try.ntmps39
      go_wp2_with (first | (go_at_call 38; refine (H _).mono ?_; rintro e w' ⟨rfl, rfl⟩) | (go_at_call 64; refine (hN _).mono ?_; rintro e w' ⟨rfl, rfl⟩))
      go_ret
      exact ⟨rfl, rfl⟩
    · have h1' := Bool.eq_false_iff.2 h1
      rw [if_neg h1]
      by_cases h2 : (FloatKind.f64.format.order r 4607182418800017408 == some .gt) = true
      · rw [if_pos h2]
        go_enter Try.func39, Try.ntmps39
        go_wp2_with (first | (go_at_call 38; refine (H _).mono ?_; rintro e w' ⟨rfl, rfl⟩) | (go_at_call 64; refine (hN _).mono ?_; rintro e w' ⟨rfl, rfl⟩))
        go_ret
        exact ⟨rfl, rfl⟩
      · have h2' := Bool.eq_false_iff.2 h2
        rw [if_neg h2]
        obtain ⟨p, a, b, _, _⟩ := mul_ok h0' h1' h2' m k0 k1
        generalize mulF m r = q at *
        have hm : ∀ t w, (binOp .mul t (.float .f64 r) (.float .f64 (floatOfInt .f64 m))).run Try.prog w = .ok (.float .f64 p) w := fun t w => run_float_arith w .mul t .f64 r _ p a
        have hc : ∀ w, (convert 42 3 (.float .f64 p)).run Try.prog w = .ok (.int .i64 q) w := fun w => run_convert_float_int w 42 3 .f64 .i64 p q (by rw [Try.underlying42]; rfl) Try.underlying3 b
        go_enter Try.func39, Try.ntmps39
        go_wp2_with (first | (go_at_call 38; refine (H _).mono ?_; rintro e w' ⟨rfl, rfl⟩) | (go_at_call 64; refine (hN _).mono ?_; rintro e w' ⟨rfl, rfl⟩) | rw [hm] | rw [hc])
        go_ret
        exact ⟨rfl, rfl⟩

theorem rpart_any (n : Int) (r : Nat) (w : World) : Calls Try.prog 56 #[.int .i64 n, .float .f64 r] w (Ans (.int .i64 (partF n r)) w) := by
  obtain ⟨m, hm⟩ : ∃ m, m = heldF n 0 10000 := ⟨_, rfl⟩
  have k0 : 0 ≤ m := by rw [hm]; unfold heldF; omega
  have k1 : m ≤ 10000 := by rw [hm]; unfold heldF; omega
  have e1 : (if 0 > n then 0 else n) = max n 0 := by omega
  have e2 : (if 10000 < max n 0 then 10000 else max n 0) = m := by rw [hm]; unfold heldF; omega
  unfold partF
  rw [← hm]
  clear hm
  have hh := half m k0
  by_cases h0 : (FloatKind.f64.format.order r r != some .eq) = true
  · rw [if_pos h0]
    go_enter Try.func56, Try.ntmps56
    go_wp2_with (first | rw [e1] | rw [e2])
    go_ret
    exact ⟨ret_i (by omega), rfl⟩
  · have h0' := Bool.eq_false_iff.2 h0
    rw [if_neg h0]
    by_cases h1 : (FloatKind.f64.format.order r 0 == some .lt || FloatKind.f64.format.order r 0 == some .eq) = true
    · rw [if_pos h1]
      go_enter Try.func56, Try.ntmps56
      go_wp2_with (first | rw [e1] | rw [e2])
      go_ret
      exact ⟨rfl, rfl⟩
    · have h1' := Bool.eq_false_iff.2 h1
      rw [if_neg h1]
      by_cases h2 : (FloatKind.f64.format.order r 4607182418800017408 == some .gt) = true
      · rw [if_pos h2]
        go_enter Try.func56, Try.ntmps56
        go_wp2_with (first | rw [e1] | rw [e2])
        go_ret
        exact ⟨rfl, rfl⟩
      · have h2' := Bool.eq_false_iff.2 h2
        rw [if_neg h2]
        obtain ⟨p, a, b, q0, q1⟩ := mul_ok h0' h1' h2' m k0 k1
        generalize mulF m r = q at *
        have hm : ∀ t w, (binOp .mul t (.float .f64 r) (.float .f64 (floatOfInt .f64 m))).run Try.prog w = .ok (.float .f64 p) w := fun t w => run_float_arith w .mul t .f64 r _ p a
        have hc : ∀ w, (convert 42 3 (.float .f64 p)).run Try.prog w = .ok (.int .i64 q) w := fun w => run_convert_float_int w 42 3 .f64 .i64 p q (by rw [Try.underlying42]; rfl) Try.underlying3 b
        go_enter Try.func56, Try.ntmps56
        go_wp2_with (first | rw [e1] | rw [e2] | rw [hm] | rw [hc])
        all_goals
          go_ret
          exact ⟨ret_i (by omega), rfl⟩
end Go.Proofs.Ytojgmofpgefonaa
