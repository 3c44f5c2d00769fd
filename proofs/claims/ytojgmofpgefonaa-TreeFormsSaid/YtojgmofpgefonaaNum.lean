/-
  What Number answers: some double; of what was there nothing is turned. Conditions: the bits are those of a uint64.
-/
import Derived.Test.YtojgmofpgefonaaFrac
import Derived.Test.YtojgmofpgefonaaRLeaf
import Derived.Laws.BitsAllLaws
import Derived.Below
namespace Go.Proofs.Ytojgmofpgefonaa
open Go.RowKit Ieee

theorem u64_low (k : Nat) (n : Int) (h0 : 0 ≤ n) (h1 : n < 18446744073709551616) (hk : k < 64) : bits .and .u64 n ((2 ^ k - 1 : Nat) : Int) = n % ((2 ^ k : Nat) : Int) := by
  have h2 : 2 ^ k < 2 ^ 64 := Nat.pow_lt_pow_right (by decide) hk
  have h3 : 0 < 2 ^ k := Nat.two_pow_pos k
  have h4 : (2 : Nat) ^ 64 = 18446744073709551616 := by decide
  rw [u64_and n _ h0 h1 (by omega) (by omega), Int.toNat_natCast, Nat.and_two_pow_sub_one_eq_mod]
  rw [Int.natCast_emod, Int.toNat_of_nonneg h0]

theorem quo_some (k d : Nat) (hk : k < 2 ^ 52) (hd : d < 2 ^ 52) (h0 : d ≠ 0) : ∃ r, floatBits .quo .f64 (floatOfInt .f64 (k : Int)) (floatOfInt .f64 (d : Int)) = some r := by
  have hf : ∀ n : Nat, floatOfInt .f64 (n : Int) = double.nearest false n 0 := by
    intro n
    have : decide ((n : Int) < 0) = false := by simp
    unfold floatOfInt FloatKind.nearest FloatKind.encode FloatKind.format Format.write
    rw [this]; rfl
  obtain ⟨m, i, h1, _⟩ := nat_read k hk
  obtain ⟨T, hT⟩ : ∃ T, T = 1074 := ⟨_, rfl⟩
  obtain ⟨m', i', h2, h3⟩ := nat_read_T T d hT hd
  have hm : m' ≠ 0 := by
    rintro rfl
    rw [Nat.zero_mul] at h3
    exact h0 ((Nat.mul_eq_zero.1 h3.symm).resolve_right (Nat.pos_iff_ne_zero.1 (Nat.two_pow_pos _)))
  rw [hf, hf]
  unfold floatBits FloatKind.format Format.div
  dsimp only
  rw [h1, h2]
  unfold Datum.quotient
  dsimp only
  rw [if_neg hm]
  exact ⟨_, rfl⟩

/-- Some double comes, and nothing that there was has changed. -/
def FltPost (w : World) (e : Ending) (w' : World) : Prop := ∃ b, e = .returned (.float .f64 b) ∧ Below w.heap.size w w'

set_option maxHeartbeats 1000000 in
theorem numF_any (n : Int) (hn : 0 ≤ n) (hn1 : n < 18446744073709551616) (w : World) : Calls Try.prog 34 #[.int .u64 n] w (FltPost w) := by
  have m3 : bits .and .u64 n 3 = n % 4 := u64_low 2 n hn hn1 (by decide)
  have m15 : bits .and .u64 (n / 4) 15 = n / 4 % 16 := u64_low 4 (n / 4) (by omega) (by omega) (by decide)
  have m1023 : bits .and .u64 (n / 4) 1023 = n / 4 % 1024 := u64_low 10 (n / 4) (by omega) (by omega) (by decide)
  have m255 : bits .and .u64 (n / 4) 255 = n / 4 % 256 := u64_low 8 (n / 4) (by omega) (by omega) (by decide)
  have m63 : bits .and .u64 (n / 1024) 63 = n / 1024 % 64 := u64_low 6 (n / 1024) (by omega) (by omega) (by decide)
  have hw : IntKind.u64.wrap (n / 1024 % 64 + 1) = n / 1024 % 64 + 1 := by rw [IntKind.wrap_u64]; omega
  obtain ⟨a, ha⟩ : ∃ a : Nat, n / 4 % 1024 = (a : Int) ∧ a < 1025 := ⟨(n / 4 % 1024).toNat, by omega, by omega⟩
  obtain ⟨b, hb⟩ : ∃ b : Nat, n / 4 % 256 = (b : Int) ∧ b < 2 ^ 52 := ⟨(n / 4 % 256).toNat, by omega, by omega⟩
  obtain ⟨c, hc⟩ : ∃ c : Nat, n / 1024 % 64 + 1 = (c : Int) ∧ c < 2 ^ 52 ∧ c ≠ 0 := ⟨(n / 1024 % 64 + 1).toNat, by omega, by omega, by omega⟩
  have q1 := x_quo a ha.2
  obtain ⟨r, q2⟩ := quo_some b c hb.2 hc.2.1 hc.2.2
  rw [← ha.1] at q1
  rw [← hb.1, ← hc.1] at q2
  have hd1 : ∀ t w, (binOp .quo t (.float .f64 (floatOfInt .f64 (n / 4 % 1024))) (.float .f64 4652218415073722368)).run Try.prog w = .ok (.float .f64 (X a)) w := fun t w => run_float_arith w .quo t .f64 _ _ _ q1
  have hd2 : ∀ t w, (binOp .quo t (.float .f64 (floatOfInt .f64 (n / 4 % 256))) (.float .f64 (floatOfInt .f64 (n / 1024 % 64 + 1)))).run Try.prog w = .ok (.float .f64 r) w := fun t w => run_float_arith w .quo t .f64 _ _ _ q2
  obtain ⟨j, hj, hj0, hj1⟩ : ∃ j, j = n / 4 % 16 ∧ 0 ≤ j ∧ j < 16 := ⟨_, rfl, by omega, by omega⟩
  rw [← hj] at m15
  clear hj ha hb hc q1 q2
  go_enter Try.func34, Try.ntmps34
  go_wp2_with fail
  refine (minus_zero _).mono ?_
  rintro e w' ⟨rfl, rfl⟩
  go_wp2_with fail
  refine (nan_any _).mono ?_
  rintro e w' ⟨rfl, rfl⟩
  go_wp2_with fail
  refine (inf_pos _).mono ?_
  rintro e w' ⟨rfl, rfl⟩
  go_wp2_with fail
  refine (inf_neg _).mono ?_
  rintro e w' ⟨rfl, rfl⟩
  go_wp2_with (first | rw [m3] | rw [m15] | rw [m1023] | rw [m255] | rw [m63] | rw [hw] | rw [hd1] | rw [hd2])
  · obtain ⟨k, rfl⟩ := Int.eq_ofNat_of_zero_le hj0
    have hk : k < 16 := by omega
    simp only [Int.toNat_natCast]
    have : k = 0 ∨ k = 1 ∨ k = 2 ∨ k = 3 ∨ k = 4 ∨ k = 5 ∨ k = 6 ∨ k = 7 ∨ k = 8 ∨ k = 9 ∨ k = 10 ∨ k = 11 ∨ k = 12 ∨ k = 13 ∨ k = 14 ∨ k = 15 := by omega
    clear m15 hk
    rcases this with rfl | rfl | rfl | rfl | rfl | rfl | rfl | rfl | rfl | rfl | rfl | rfl | rfl | rfl | rfl | rfl <;>
    · go_ret
      exact ⟨_, rfl, (Below.refl _ w).alloc (Nat.le_refl _) _⟩
  all_goals
    go_ret
    exact ⟨_, rfl, (Below.refl _ w).alloc (Nat.le_refl _) _⟩
end Go.Proofs.Ytojgmofpgefonaa
