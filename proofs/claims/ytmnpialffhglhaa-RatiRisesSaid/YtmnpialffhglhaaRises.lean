/-
  The walk of RatiRises. Conditions: the shares' bits are those of uint64s.
-/
import Derived.Test.YtmnpialffhglhaaNum
namespace Go.Proofs.Ytmnpialffhglhaa
open Go.RowKit Ieee

theorem i64_and8191 (n : Int) : bits .and .i64 n 8191 = n % 8192 := by
  have h127 : (BitVec.ofInt 64 8191).toNat = 2 ^ 13 - 1 := by decide
  have key : (BitVec.ofInt 64 n &&& BitVec.ofInt 64 8191).toNat = (n % ((2 ^ 64 : Nat) : Int)).toNat % 2 ^ 13 := by
    rw [BitVec.toNat_and, BitVec.toNat_ofInt, h127, Nat.and_two_pow_sub_one_eq_mod]
  show IntKind.i64.wrap ((BitVec.ofInt 64 n &&& BitVec.ofInt 64 8191).toNat : Nat) = n % 8192
  rw [key, IntKind.wrap_i64]
  omega

def xf (k n : Nat) : Int := ((k * n / 1024 : Nat) : Int)

/-- The part that a share of 1024ths is. -/
theorem part_x (k n : Nat) (hk : k < 1025) (hn : n < 8192) : partF (n : Int) (X k) = xf k n := by
  obtain ⟨p, a, b⟩ := x_part k n hk (by omega)
  have hh : heldF (n : Int) 0 10000 = n := by unfold heldF; omega
  have o1 : FloatKind.f64.format.order (X k) (X k) = some .eq := by
    have := x_order k k hk hk
    rwa [Nat.compare_eq_eq.2 rfl] at this
  have o2 : FloatKind.f64.format.order (X k) 0 = some (compare k 0) := by
    have := x_order k 0 hk (by omega)
    rwa [x0] at this
  have o3 : FloatKind.f64.format.order (X k) 4607182418800017408 = some (compare k 1024) := by
    have := x_order k 1024 hk (by omega)
    rwa [x1024] at this
  unfold partF
  rw [o1, o2, o3, hh]
  rw [if_neg (by decide)]
  by_cases h0 : k = 0
  · subst h0
    rw [if_pos (by decide)]
    unfold xf; simp
  · have : compare k 0 = .gt := Nat.compare_eq_gt.2 (by omega)
    rw [this, if_neg (by decide), if_neg]
    · unfold mulF
      rw [a]
      show (floatToIntVal .f64 p .i64).getD 0 = _
      rw [b]; rfl
    · rcases Nat.lt_or_ge k 1024 with h | h
      · rw [Nat.compare_eq_lt.2 h]; decide
      · have : k = 1024 := by omega
        subst this; decide

theorem xmin (P : Program) (ts : Array TypeId) (t : TypeId) (k l : Nat) (hk : k < 1025) (hl : l < 1025) (w : World) :
    (Builtin.min_ ts t #[.float .f64 (X k), .float .f64 (X l)]).run P w = .ok (.float .f64 (X (min k l))) w := by
  have h : FloatKind.f64.format.order (X k) (X l) = some (compare k l) := x_order k l hk hl
  rcases Nat.lt_trichotomy k l with c | c | c
  · rw [Nat.compare_eq_lt.2 c] at h
    simp [Builtin.min_, Builtin.min2, h, Nat.min_eq_left (Nat.le_of_lt c)]
  · subst c
    simp [Builtin.min_, Builtin.min2, h]
  · rw [Nat.compare_eq_gt.2 c] at h
    simp [Builtin.min_, Builtin.min2, h, Nat.min_eq_right (Nat.le_of_lt c)]

theorem xmax (P : Program) (ts : Array TypeId) (t : TypeId) (k l : Nat) (hk : k < 1025) (hl : l < 1025) (w : World) :
    (Builtin.max_ ts t #[.float .f64 (X k), .float .f64 (X l)]).run P w = .ok (.float .f64 (X (max k l))) w := by
  have h : FloatKind.f64.format.order (X k) (X l) = some (compare k l) := x_order k l hk hl
  rcases Nat.lt_trichotomy k l with c | c | c
  · rw [Nat.compare_eq_lt.2 c] at h
    simp [Builtin.max_, Builtin.max2, h, Nat.max_eq_right (Nat.le_of_lt c)]
  · subst c
    simp [Builtin.max_, Builtin.max2, h]
  · rw [Nat.compare_eq_gt.2 c] at h
    simp [Builtin.max_, Builtin.max2, h, Nat.max_eq_left (Nat.le_of_lt c)]

/-- All that the law asks of numbers. -/
theorem rises (n m a b : Nat) (ha : a < 1025) (hb : b < 1025) :
    0 ≤ xf (min a b) n ∧ xf (min a b) n ≤ xf (max a b) n ∧ xf (max a b) n ≤ n ∧ xf a n ≤ xf a (max n m) ∧
      (xf a n + xf (1024 - a) n = n ∨ xf a n + xf (1024 - a) n = n - 1) ∧ xf 0 n = 0 ∧ xf 1024 n = n := by
  unfold xf
  have m1 : min a b * n ≤ max a b * n := Nat.mul_le_mul_right _ (by omega)
  have m2 : max a b * n ≤ 1024 * n := Nat.mul_le_mul_right _ (by omega)
  have m3 : a * n ≤ a * max n m := Nat.mul_le_mul_left _ (by omega)
  have m4 : a * n + (1024 - a) * n = 1024 * n := by rw [← Nat.add_mul]; congr 1; omega
  have m5 : 0 * n = 0 := Nat.zero_mul n
  generalize min a b * n = p1 at *
  generalize max a b * n = p2 at *
  generalize a * max n m = p3 at *
  generalize a * n = p4 at *
  generalize (1024 - a) * n = p5 at *
  generalize 0 * n = p6 at *
  omega

set_option maxHeartbeats 4000000 in
theorem rises_walk (n m a b : Int) (ha : 0 ≤ a) (hb : 0 ≤ b) (w : World) :
    Calls Try.prog 6 #[.int .i64 n, .int .i64 m, .int .u64 a, .int .u64 b] w (Ans (.bool true) w) := by
  have e1 := i64_and8191 n
  have e2 := i64_and8191 m
  obtain ⟨N, hN, hN1⟩ : ∃ N : Nat, n % 8192 = (N : Int) ∧ N < 8192 := ⟨(n % 8192).toNat, by omega, by omega⟩
  obtain ⟨M, hM, hM1⟩ : ∃ M : Nat, m % 8192 = (M : Int) ∧ M < 8192 := ⟨(m % 8192).toNat, by omega, by omega⟩
  obtain ⟨k, hk, hk1⟩ : ∃ k : Nat, a % 1025 = (k : Int) ∧ k < 1025 := ⟨(a % 1025).toNat, by omega, by omega⟩
  obtain ⟨l, hl, hl1⟩ : ∃ l : Nat, b % 1025 = (l : Int) ∧ l < 1025 := ⟨(b % 1025).toNat, by omega, by omega⟩
  rw [hN] at e1
  rw [hM] at e2
  have t1 : a.tmod 1025 = (k : Int) := by rw [Int.tmod_eq_emod_of_nonneg ha]; exact hk
  have t2 : b.tmod 1025 = (l : Int) := by rw [Int.tmod_eq_emod_of_nonneg hb]; exact hl
  have d1 : ∀ t w, (binOp .quo t (.float .f64 (floatOfInt .f64 (k : Int))) (.float .f64 4652218415073722368)).run Try.prog w = .ok (.float .f64 (X k)) w := fun t w => run_float_arith w .quo t .f64 _ _ _ (x_quo k hk1)
  have d2 : ∀ t w, (binOp .quo t (.float .f64 (floatOfInt .f64 (l : Int))) (.float .f64 4652218415073722368)).run Try.prog w = .ok (.float .f64 (X l)) w := fun t w => run_float_arith w .quo t .f64 _ _ _ (x_quo l hl1)
  have s1 : ∀ t w, (binOp .sub t (.float .f64 4607182418800017408) (.float .f64 (X k))).run Try.prog w = .ok (.float .f64 (X (1024 - k))) w := fun t w => run_float_arith w .sub t .f64 _ _ _ (x_sub k hk1)
  have mn : ∀ ts t w, (Builtin.min_ ts t #[.float .f64 (X k), .float .f64 (X l)]).run Try.prog w = .ok (.float .f64 (X (min k l))) w := fun ts t w => xmin _ ts t k l hk1 hl1 w
  have mx : ∀ ts t w, (Builtin.max_ ts t #[.float .f64 (X k), .float .f64 (X l)]).run Try.prog w = .ok (.float .f64 (X (max k l))) w := fun ts t w => xmax _ ts t k l hk1 hl1 w
  have P1 := fun w => part_is (part_x (min k l) N (by omega) hN1) w
  have P2 := fun w => part_is (part_x (max k l) N (by omega) hN1) w
  have P3 := fun w => part_is (part_x k (max N M) hk1 (by omega)) w
  have P4 := fun w => part_is (part_x k N hk1 hN1) w
  have P5 := fun w => part_is (part_x (1024 - k) N (by omega) hN1) w
  have P6 := fun w => part_is (part_x 0 N (by omega) hN1) w
  have P7 := fun w => part_is (part_x 1024 N (by omega) hN1) w
  rw [x0] at P6
  rw [x1024] at P7
  obtain ⟨r1, r2, r3, r4, r5, r6, r7⟩ := rises N M k l hk1 hl1
  rw [r6] at P6
  rw [r7] at P7
  clear r6 r7
  generalize xf (min k l) N = v1 at *
  generalize xf (max k l) N = v2 at *
  generalize xf k (max N M) = v3 at *
  have hv : 0 ≤ xf k N ∧ 0 ≤ xf (1024 - k) N := by unfold xf; omega
  generalize xf k N = v4 at *
  generalize xf (1024 - k) N = v5 at *
  generalize X (min k l) = f1 at *
  generalize X (max k l) = f2 at *
  generalize X (1024 - k) = f5 at *
  generalize X k = f3 at *
  generalize X l = f4 at *
  have emx : (if N < M then (M : Int) else (N : Int)) = ((max N M : Nat) : Int) := by omega
  have hM2 : max N M < 8192 := by omega
  generalize max N M = Q at *
  have wr0 : wrap64 (v4 + v5) = v4 + v5 := by unfold wrap64; omega
  have wr2 : IntKind.i64.wrap ((N : Int) - 1) = (N : Int) - 1 := by rw [IntKind.wrap_i64]; omega
  clear hN hM hk hl ha hb hk1 hl1
  rcases r5 with r5 | r5
  · have wr : wrap64 (v4 + v5) = N := wr0.trans r5
    clear wr0 r5
    go_enter Try.func6, Try.ntmps6
    go_wp2_with (first | rw [e1] | rw [e2] | rw [t1] | rw [t2] | rw [d1] | rw [d2] | rw [mn] | rw [mx])
    refine (P1 _).mono ?_
    rintro e w' ⟨rfl, rfl⟩
    go_wp2_with (first | rw [emx] | rw [s1] | rw [mn] | rw [mx])
    refine (P2 _).mono ?_
    rintro e w' ⟨rfl, rfl⟩
    go_wp2_with (first | rw [emx] | rw [s1] | rw [mn] | rw [mx])
    refine (P3 _).mono ?_
    rintro e w' ⟨rfl, rfl⟩
    go_wp2_with (first | rw [s1])
    refine (P4 _).mono ?_
    rintro e w' ⟨rfl, rfl⟩
    go_wp2_with (first | rw [s1])
    refine (P5 _).mono ?_
    rintro e w' ⟨rfl, rfl⟩
    go_wp2_with (first | rw [s1])
    refine (P4 _).mono ?_
    rintro e w' ⟨rfl, rfl⟩
    go_wp2_with (first | rw [s1])
    refine (P6 _).mono ?_
    rintro e w' ⟨rfl, rfl⟩
    go_wp2_with (first | rw [s1])
    refine (P7 _).mono ?_
    rintro e w' ⟨rfl, rfl⟩
    go_wp2_with (first | rw [s1])
    refine (awake_any _).mono ?_
    rintro e w' ⟨rfl, rfl⟩
    go_wp2_with (first | rw [s1])
    go_ret
    exact ⟨rfl, rfl⟩
  · have wr : wrap64 (v4 + v5) = (N : Int) - 1 := wr0.trans r5
    have q1 : ¬ wrap64 (v4 + v5) = N := by rw [wr]; omega
    clear wr0 r5
    go_enter Try.func6, Try.ntmps6
    go_wp2_with (first | rw [e1] | rw [e2] | rw [t1] | rw [t2] | rw [d1] | rw [d2] | rw [mn] | rw [mx])
    refine (P1 _).mono ?_
    rintro e w' ⟨rfl, rfl⟩
    go_wp2_with (first | rw [emx] | rw [s1] | rw [mn] | rw [mx])
    refine (P2 _).mono ?_
    rintro e w' ⟨rfl, rfl⟩
    go_wp2_with (first | rw [emx] | rw [s1] | rw [mn] | rw [mx])
    refine (P3 _).mono ?_
    rintro e w' ⟨rfl, rfl⟩
    go_wp2_with (first | rw [s1])
    refine (P4 _).mono ?_
    rintro e w' ⟨rfl, rfl⟩
    go_wp2_with (first | rw [s1])
    refine (P5 _).mono ?_
    rintro e w' ⟨rfl, rfl⟩
    go_wp2_with (first | rw [s1])
    refine (P4 _).mono ?_
    rintro e w' ⟨rfl, rfl⟩
    go_wp2_with (first | rw [s1])
    refine (P6 _).mono ?_
    rintro e w' ⟨rfl, rfl⟩
    go_wp2_with (first | rw [s1])
    refine (P7 _).mono ?_
    rintro e w' ⟨rfl, rfl⟩
    go_wp2_with (first | rw [s1])
    refine (awake_any _).mono ?_
    rintro e w' ⟨rfl, rfl⟩
    go_wp2_with (first | rw [s1])
    go_ret
    exact ⟨rfl, rfl⟩
end Go.Proofs.Ytmnpialffhglhaa
