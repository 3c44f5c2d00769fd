/-
  The walk of RatiSame. Conditions: the bits are those of uint64s.
-/
import Derived.Test.YtmnpialffhglhaaAwake
namespace Go.Proofs.Ytmnpialffhglhaa
open Go.RowKit Ieee

def od (a b : Nat) : Option Ordering := FloatKind.f64.format.order a b

theorem od_sym (a b : Nat) : (od a b == some .eq) = (od b a == some .eq) := by
  show (double.order a b == some .eq) = (double.order b a == some .eq)
  unfold Format.order
  cases double.read a <;> cases double.read b <;> try rfl
  · rename_i s m i t n j
    unfold Datum.order
    dsimp only
    rw [Int.min_comm j i]
    rw [Bool.eq_iff_iff]
    simp only [beq_iff_eq, Option.some.injEq, Int.compare_eq_eq]
    exact eq_comm
  · rename_i s m i t
    cases t <;> rfl
  · rename_i t s m i
    cases t <;> rfl
  · rename_i s t
    cases s <;> cases t <;> rfl

/-- Numbers that are the same by their bits and no NaN are equal; numbers that are equal are no NaN. -/
theorem same_eq {a b : Nat} (h : sameF a b = true) (hn : (od a a != some .eq) = false) : a = b := by
  unfold sameF at h
  rw [show (FloatKind.f64.format.order a a != some .eq) = false from hn] at h
  simp only [Bool.false_or, Bool.false_and] at h
  split at h
  · cases h
  · have := beq_iff_eq.1 h
    omega
theorem od_self {a b : Nat} (h : (od a b == some .eq) = true) : (od a a != some .eq) = false := by
  cases hx : (od a a != some .eq) with
  | false => rfl
  | true =>
    have h1 : (double.order a a == some .eq) = false := by
      have : (double.order a a != some .eq) = true := hx
      simpa [bne] using this
    obtain ⟨s, t, hr⟩ := order_self a h1
    have h2 : (double.order a b == some .eq) = true := h
    rw [(order_nan hr b).1] at h2
    cases h2
theorem same_self (a : Nat) : sameF a a = true := by
  unfold sameF
  split
  · rename_i h
    simpa using h
  · exact beq_self_eq_true _
theorem same_sym (a b : Nat) : sameF a b = sameF b a := by
  unfold sameF
  rw [Bool.or_comm, Bool.and_comm, Bool.beq_comm]
theorem sm2 : sameF 9221120237041090561 9218868437227405313 = true := by decide +kernel

/-- What is left of the law, as a plain fact. -/
theorem same_law (a b : Nat) : (!(od a b == some .eq) || (a : Int) == b || !sameF a b) = true ∧ (od a b == some .eq || (od a a != some .eq) && (od b b != some .eq) || !sameF a b) = true := by
  constructor
  · cases h1 : (od a b == some .eq) with
    | false => rfl
    | true =>
      cases h2 : sameF a b with
      | false => simp
      | true =>
        have := same_eq h2 (od_self h1)
        subst this
        simp
  · cases h1 : (od a b == some .eq) with
    | true => rfl
    | false =>
      cases h2 : sameF a b with
      | false => simp
      | true =>
        cases h3 : (od a a != some .eq) with
        | false =>
          have := same_eq h2 h3
          subst this
          rw [bne, h1] at h3
          cases h3
        | true =>
          have h4 := h2
          unfold sameF at h4
          rw [show (FloatKind.f64.format.order a a != some .eq) = true from h3] at h4
          simp only [Bool.true_or, if_true, Bool.true_and] at h4
          rw [show (od b b != some .eq) = true from h4]
          rfl

set_option maxHeartbeats 2000000 in
theorem same_walk (a b : Int) (ha : 0 ≤ a) (hb : 0 ≤ b) (w : World) : Calls Try.prog 4 #[.int .u64 a, .int .u64 b] w (Ans (.bool true) w) := by
  obtain ⟨l1, l2⟩ := same_law a.toNat b.toNat
  rw [Int.toNat_of_nonneg ha, Int.toNat_of_nonneg hb] at l1
  have h1 := same_is (same_self a.toNat)
  have h2 : ∀ w, Calls Try.prog 13 #[.float .f64 a.toNat, .float .f64 b.toNat] w (Ans (.bool (sameF a.toNat b.toNat)) w) := same_any _ _
  have h3 : ∀ w, Calls Try.prog 13 #[.float .f64 b.toNat, .float .f64 a.toNat] w (Ans (.bool (sameF a.toNat b.toNat)) w) := same_is (same_sym _ _)
  have h4 : ∀ w, Calls Try.prog 14 #[.float .f64 a.toNat] w (Ans (.bool (od a.toNat a.toNat != some .eq)) w) := isnan_any _
  have h5 : ∀ w, Calls Try.prog 14 #[.float .f64 b.toNat] w (Ans (.bool (od b.toNat b.toNat != some .eq)) w) := isnan_any _
  have e1 : (FloatKind.f64.format.order a.toNat b.toNat == some .eq) = (od a.toNat b.toNat == some .eq) := rfl
  have e2 : (FloatKind.f64.format.order a.toNat b.toNat != some .eq) = !(od a.toNat b.toNat == some .eq) := rfl
  have H1 := Lib.hid h1
  have H2 := Lib.hid h2
  have H3 := Lib.hid h3
  have H4 := Lib.hid h4
  have H5 := Lib.hid h5
  clear h1 h2 h3 h4 h5
  generalize (od a.toNat b.toNat == some .eq) = x at *
  generalize (od a.toNat a.toNat != some .eq) = y at *
  generalize (od b.toNat b.toNat != some .eq) = z at *
  generalize sameF a.toNat b.toNat = s at *
  have hss : (s == s) = true := beq_self_eq_true s
  obtain ⟨q, hq⟩ : ∃ q, q = (a == b) := ⟨_, rfl⟩
  rw [← hq] at l1
  have hq' : (a == b) = q := hq.symm
  clear hq
  have hk : (x = true ∧ q = true) ∨ (x = true ∧ q = false ∧ s = false) ∨ (x = false ∧ y = true ∧ z = true) ∨ (x = false ∧ y = true ∧ z = false ∧ s = false) ∨ (x = false ∧ y = false ∧ s = false) := by
    revert l1 l2
    cases x <;> cases y <;> cases z <;> cases s <;> cases q <;> decide
  clear l1 l2
  rcases hk with ⟨rfl, rfl⟩ | ⟨rfl, rfl, rfl⟩ | ⟨rfl, rfl, rfl⟩ | ⟨rfl, rfl, rfl, rfl⟩ | ⟨rfl, rfl, rfl⟩
  · go_enter Try.func4, Try.ntmps4
    go_wp2_with fail
    refine (H1.out _).mono ?_
    rintro e w' ⟨rfl, rfl⟩
    go_wp2_with fail
    refine (H2.out _).mono ?_
    rintro e w' ⟨rfl, rfl⟩
    go_wp2_with fail
    refine (H3.out _).mono ?_
    rintro e w' ⟨rfl, rfl⟩
    go_wp2_with fail
    refine (minus_zero _).mono ?_
    rintro e w' ⟨rfl, rfl⟩
    go_wp2_with fail
    refine (same_is aw7 _).mono ?_
    rintro e w' ⟨rfl, rfl⟩
    go_wp2_with fail
    refine (nan_any _).mono ?_
    rintro e w' ⟨rfl, rfl⟩
    go_wp2_with fail
    refine (same_is sm2 _).mono ?_
    rintro e w' ⟨rfl, rfl⟩
    go_wp2_with fail
    refine (awake_any _).mono ?_
    rintro e w' ⟨rfl, rfl⟩
    go_wp2_with fail
    go_ret
    exact ⟨rfl, rfl⟩
  · go_enter Try.func4, Try.ntmps4
    go_wp2_with fail
    refine (H1.out _).mono ?_
    rintro e w' ⟨rfl, rfl⟩
    go_wp2_with fail
    refine (H2.out _).mono ?_
    rintro e w' ⟨rfl, rfl⟩
    go_wp2_with fail
    refine (H3.out _).mono ?_
    rintro e w' ⟨rfl, rfl⟩
    go_wp2_with fail
    refine (H2.out _).mono ?_
    rintro e w' ⟨rfl, rfl⟩
    go_wp2_with fail
    refine (minus_zero _).mono ?_
    rintro e w' ⟨rfl, rfl⟩
    go_wp2_with fail
    refine (same_is aw7 _).mono ?_
    rintro e w' ⟨rfl, rfl⟩
    go_wp2_with fail
    refine (nan_any _).mono ?_
    rintro e w' ⟨rfl, rfl⟩
    go_wp2_with fail
    refine (same_is sm2 _).mono ?_
    rintro e w' ⟨rfl, rfl⟩
    go_wp2_with fail
    refine (awake_any _).mono ?_
    rintro e w' ⟨rfl, rfl⟩
    go_wp2_with fail
    go_ret
    exact ⟨rfl, rfl⟩
  · go_enter Try.func4, Try.ntmps4
    go_wp2_with fail
    refine (H1.out _).mono ?_
    rintro e w' ⟨rfl, rfl⟩
    go_wp2_with fail
    refine (H2.out _).mono ?_
    rintro e w' ⟨rfl, rfl⟩
    go_wp2_with fail
    refine (H3.out _).mono ?_
    rintro e w' ⟨rfl, rfl⟩
    go_wp2_with fail
    refine (H4.out _).mono ?_
    rintro e w' ⟨rfl, rfl⟩
    go_wp2_with fail
    refine (H5.out _).mono ?_
    rintro e w' ⟨rfl, rfl⟩
    go_wp2_with fail
    refine (minus_zero _).mono ?_
    rintro e w' ⟨rfl, rfl⟩
    go_wp2_with fail
    refine (same_is aw7 _).mono ?_
    rintro e w' ⟨rfl, rfl⟩
    go_wp2_with fail
    refine (nan_any _).mono ?_
    rintro e w' ⟨rfl, rfl⟩
    go_wp2_with fail
    refine (same_is sm2 _).mono ?_
    rintro e w' ⟨rfl, rfl⟩
    go_wp2_with fail
    refine (awake_any _).mono ?_
    rintro e w' ⟨rfl, rfl⟩
    go_wp2_with fail
    go_ret
    exact ⟨rfl, rfl⟩
  · go_enter Try.func4, Try.ntmps4
    go_wp2_with fail
    refine (H1.out _).mono ?_
    rintro e w' ⟨rfl, rfl⟩
    go_wp2_with fail
    refine (H2.out _).mono ?_
    rintro e w' ⟨rfl, rfl⟩
    go_wp2_with fail
    refine (H3.out _).mono ?_
    rintro e w' ⟨rfl, rfl⟩
    go_wp2_with fail
    refine (H4.out _).mono ?_
    rintro e w' ⟨rfl, rfl⟩
    go_wp2_with fail
    refine (H5.out _).mono ?_
    rintro e w' ⟨rfl, rfl⟩
    go_wp2_with fail
    refine (H2.out _).mono ?_
    rintro e w' ⟨rfl, rfl⟩
    go_wp2_with fail
    refine (minus_zero _).mono ?_
    rintro e w' ⟨rfl, rfl⟩
    go_wp2_with fail
    refine (same_is aw7 _).mono ?_
    rintro e w' ⟨rfl, rfl⟩
    go_wp2_with fail
    refine (nan_any _).mono ?_
    rintro e w' ⟨rfl, rfl⟩
    go_wp2_with fail
    refine (same_is sm2 _).mono ?_
    rintro e w' ⟨rfl, rfl⟩
    go_wp2_with fail
    refine (awake_any _).mono ?_
    rintro e w' ⟨rfl, rfl⟩
    go_wp2_with fail
    go_ret
    exact ⟨rfl, rfl⟩
  · go_enter Try.func4, Try.ntmps4
    go_wp2_with fail
    refine (H1.out _).mono ?_
    rintro e w' ⟨rfl, rfl⟩
    go_wp2_with fail
    refine (H2.out _).mono ?_
    rintro e w' ⟨rfl, rfl⟩
    go_wp2_with fail
    refine (H3.out _).mono ?_
    rintro e w' ⟨rfl, rfl⟩
    go_wp2_with fail
    refine (H4.out _).mono ?_
    rintro e w' ⟨rfl, rfl⟩
    go_wp2_with fail
    refine (H2.out _).mono ?_
    rintro e w' ⟨rfl, rfl⟩
    go_wp2_with fail
    refine (minus_zero _).mono ?_
    rintro e w' ⟨rfl, rfl⟩
    go_wp2_with fail
    refine (same_is aw7 _).mono ?_
    rintro e w' ⟨rfl, rfl⟩
    go_wp2_with fail
    refine (nan_any _).mono ?_
    rintro e w' ⟨rfl, rfl⟩
    go_wp2_with fail
    refine (same_is sm2 _).mono ?_
    rintro e w' ⟨rfl, rfl⟩
    go_wp2_with fail
    refine (awake_any _).mono ?_
    rintro e w' ⟨rfl, rfl⟩
    go_wp2_with fail
    go_ret
    exact ⟨rfl, rfl⟩
end Go.Proofs.Ytmnpialffhglhaa
