/-
  What a product of two doubles is, rounded, and cut to a whole number. Plain facts of Ieee.double; no condition.
-/
import Derived.Laws.FloatArith
namespace Go.Proofs.Ytojgmofpgefonaa
open Ieee

theorem pow_split {a b c : Nat} (h : a + b = c) : 2 ^ c = 2 ^ a * 2 ^ b := by rw [← h, Nat.pow_add]

/-- A cut to even is at most a whole number that the quotient is at most. -/
theorem cut_le {m d N : Nat} (h : m ≤ N * 2 ^ d) : Toward.even.cut false m d ≤ N := by
  unfold Toward.cut
  dsimp only
  rw [Nat.shiftLeft_eq, Nat.one_mul]
  by_cases hd : d ≤ m.log2 + 2
  · rw [Nat.min_eq_left hd]
    have hg : 0 < 2 ^ d := Nat.two_pow_pos _
    generalize 2 ^ d = g at *
    have hdm := Nat.div_add_mod m g
    have hr := Nat.mod_lt m hg
    by_cases hN : m / g < N
    · have : ∀ b : Bool, b.toNat ≤ 1 := by decide
      have := this (decide (g < 2 * (m % g)) || (g == 2 * (m % g) && m / g % 2 == 1))
      omega
    · have h1 : m / g ≤ N := Nat.div_le_of_le_mul (by rw [Nat.mul_comm]; exact h)
      have h2 : m / g = N := by omega
      have h3 : m % g = 0 := by
        rw [h2, Nat.mul_comm] at hdm
        omega
      rw [h3]
      have : decide (g < 2 * 0) = false := by simp
      rw [this]
      have : (g == 2 * 0) = false := by simp; omega
      rw [this]
      simp; omega
  · rw [Nat.min_eq_right (by omega)]
    have hm : m < 2 ^ (m.log2 + 1) := Nat.lt_log2_self
    have hp : 2 ^ (m.log2 + 2) = 2 * 2 ^ (m.log2 + 1) := by rw [Nat.pow_succ, Nat.mul_comm]
    have h1 : m / 2 ^ (m.log2 + 2) = 0 := Nat.div_eq_of_lt (by omega)
    have h2 : m % 2 ^ (m.log2 + 2) = m := Nat.mod_eq_of_lt (by omega)
    rw [h1, h2]
    have : decide (2 ^ (m.log2 + 2) < 2 * m) = false := by simp; omega
    rw [this]
    have : (2 ^ (m.log2 + 2) == 2 * m) = false := by simp; omega
    rw [this]
    simp

/-- And at least one that it is at least. -/
theorem cut_ge {m d N : Nat} (h : N * 2 ^ d ≤ m) : N ≤ Toward.even.cut false m d := by
  unfold Toward.cut
  dsimp only
  rw [Nat.shiftLeft_eq, Nat.one_mul]
  have : N ≤ m / 2 ^ min d (m.log2 + 2) := by
    rw [Nat.le_div_iff_mul_le (Nat.two_pow_pos _)]
    exact Nat.le_trans (Nat.mul_le_mul_left _ (Nat.pow_le_pow_right (by decide) (Nat.min_le_left _ _))) h
  omega

/-- The rung of a place and a kept number, read. -/
theorem read_rung (a k : Nat) (hk : k ≤ 2 ^ 53) (ha : 0 < a → 2 ^ 52 ≤ k) (hf : a * 2 ^ 52 + k < 2047 * 2 ^ 52) :
    ∃ (m : Nat) (i : Nat), double.read (a * 2 ^ 52 + k) = .number false m ((i : Int) - 1074) ∧ m * 2 ^ i = k * 2 ^ a := by
  have hlp : double.leastPlace = -1074 := by decide
  have hb : double.binade = 2 ^ 52 := by decide
  have hs : double.signWeight = 2 ^ 63 := by decide
  have hi : double.infRung = 2047 * 2 ^ 52 := by decide
  have h63 : (2 : Nat) ^ 63 = 2048 * 2 ^ 52 := by decide
  have hneg : ((a * 2 ^ 52 + k) / 2 ^ 63 % 2 == 1) = false := by
    rw [Nat.div_eq_of_lt (by omega)]; rfl
  unfold Format.read
  simp only [hlp, hb, hs, hi]
  rw [hneg, Nat.mod_eq_of_lt (a := a * 2 ^ 52 + k) (b := 2 ^ 63) (by omega)]
  by_cases h1 : a * 2 ^ 52 + k < 2 ^ 52
  · rw [if_pos h1]
    have : a = 0 := by omega
    subst this
    exact ⟨k, 0, by simp, rfl⟩
  · rw [if_neg h1, if_pos hf]
    by_cases h2 : k < 2 ^ 53
    · by_cases h3 : 2 ^ 52 ≤ k
      · have e1 : (a * 2 ^ 52 + k) / 2 ^ 52 = a + 1 := by omega
        have e2 : (a * 2 ^ 52 + k) % 2 ^ 52 = k - 2 ^ 52 := by omega
        rw [e1, e2]
        refine ⟨k, a, ?_, rfl⟩
        rw [show 2 ^ 52 + (k - 2 ^ 52) = k by omega, show -1074 + ((a + 1 - 1 : Nat) : Int) = (a : Int) - 1074 by omega]
      · have : a = 0 := by omega
        omega
    · have : k = 2 ^ 53 := by omega
      subst this
      have e1 : (a * 2 ^ 52 + 2 ^ 53) / 2 ^ 52 = a + 2 := by omega
      have e2 : (a * 2 ^ 52 + 2 ^ 53) % 2 ^ 52 = 0 := by omega
      rw [e1, e2]
      refine ⟨2 ^ 52, a + 1, ?_, ?_⟩
      · rw [show 2 ^ 52 + 0 = 2 ^ 52 by omega, show -1074 + ((a + 2 - 1 : Nat) : Int) = ((a + 1 : Nat) : Int) - 1074 by omega]
      · have h : 2 ^ (a + 1) = 2 ^ a * 2 := Nat.pow_succ 2 a
        rw [h]
        generalize 2 ^ a = t
        omega

/-- A number, cut to a whole one. -/
theorem toInt_number (T m i : Nat) (hT : T = 1074) : (Datum.number false m ((i : Int) - 1074)).toInt .zero = some ((m * 2 ^ i / 2 ^ T : Nat) : Int) := by
  unfold Datum.toInt Datum.integral
  simp only [signed, Bool.false_eq_true, if_false, Nat.shiftLeft_zero, Option.some.injEq, Int.ofNat_inj]
  unfold Toward.cut
  simp only [Bool.toNat_false, Nat.add_zero, Nat.shiftLeft_eq, Nat.one_mul]
  by_cases hi : 1074 ≤ i
  · have e1 : ((i : Int) - 1074).toNat = i - 1074 := by omega
    have e2 : (-((i : Int) - 1074)).toNat = 0 := by omega
    rw [e1, e2, Nat.zero_min, Nat.pow_zero, Nat.div_one]
    have e3 : 2 ^ i = 2 ^ (i - 1074) * 2 ^ T := pow_split (by omega)
    rw [e3, ← Nat.mul_assoc, Nat.mul_div_cancel _ (Nat.two_pow_pos _)]
  · have e1 : ((i : Int) - 1074).toNat = 0 := by omega
    have e2 : (-((i : Int) - 1074)).toNat = 1074 - i := by omega
    rw [e1, e2, Nat.pow_zero, Nat.mul_one]
    have hsp : (2 : Nat) ^ T = 2 ^ (1074 - i) * 2 ^ i := pow_split (by omega)
    rw [hsp, Nat.mul_div_mul_right _ _ (Nat.two_pow_pos i)]
    by_cases hd : 1074 - i ≤ m.log2 + 2
    · rw [Nat.min_eq_left hd]
    · rw [Nat.min_eq_right (by omega)]
      have hm : m < 2 ^ (m.log2 + 1) := Nat.lt_log2_self
      have h1 : 2 ^ (m.log2 + 1) ≤ 2 ^ (m.log2 + 2) := Nat.pow_le_pow_right (by decide) (by omega)
      have h2 : 2 ^ (m.log2 + 1) ≤ 2 ^ (1074 - i) := Nat.pow_le_pow_right (by decide) (by omega)
      rw [Nat.div_eq_of_lt (by omega), Nat.div_eq_of_lt (by omega)]

/-- What is written of a number of which is known what it lies within: a place and a kept number between the same bounds. 'e' is the place of the bounds' last digit: it is at least the last place that is kept. -/
theorem near (m : Nat) (i : Int) (hi : -2148 ≤ i) (K e : Nat) (he : e ≤ 1074) (hl : K < 2 ^ 52)
    (hm : m * 2 ^ (i + 2148).toNat ≤ K * 2 ^ (2148 - e)) :
    ∃ a k : Nat, double.nearest false m i = a * 2 ^ 52 + k ∧ k ≤ 2 ^ 53 ∧ (0 < a → 2 ^ 52 ≤ k) ∧ a + e ≤ 1074 ∧
      k * 2 ^ a ≤ K * 2 ^ (1074 - e) ∧ (∀ J, J * 2 ^ (2148 - e) ≤ m * 2 ^ (i + 2148).toNat → J * 2 ^ (1074 - e) ≤ k * 2 ^ a) := by
  have hlp : double.leastPlace = -1074 := by decide
  have hb : double.binade = 2 ^ 52 := by decide
  have hinf : double.infRung = 2047 * 2 ^ 52 := by decide
  have hfb : double.fractionBits = 52 := by decide
  by_cases hk0 : m = 0
  · subst hk0
    refine ⟨0, 0, by unfold Format.nearest Format.word; simp, by omega, by omega, by omega, by simp, fun J hJ => ?_⟩
    rw [Nat.zero_mul, Nat.le_zero] at hJ
    have : J = 0 := (Nat.mul_eq_zero.1 hJ).resolve_right (Nat.pos_iff_ne_zero.1 (Nat.two_pow_pos _))
    rw [this]; simp
  unfold Format.nearest
  rw [if_neg hk0]
  dsimp only
  simp only [hlp, hb, hinf, hfb]
  obtain ⟨last, hlast⟩ : ∃ last : Int, last = max (i + m.log2 - (52 : Nat)) (-1074) := ⟨_, rfl⟩
  rw [← hlast]
  have hL1 : m < 2 ^ (m.log2 + 1) := Nat.lt_log2_self
  have hL0 : 2 ^ m.log2 ≤ m := Nat.log2_self_le hk0
  obtain ⟨L, hL⟩ : ∃ L, L = m.log2 := ⟨_, rfl⟩
  rw [← hL] at hlast hL1 hL0
  have hKe : i + L ≤ 52 - (e : Int) := by
    have h1 : 2 ^ L * 2 ^ (i + 2148).toNat ≤ K * 2 ^ (2148 - e) := Nat.le_trans (Nat.mul_le_mul_right _ hL0) hm
    have h2 : K * 2 ^ (2148 - e) < 2 ^ 52 * 2 ^ (2148 - e) := Nat.mul_lt_mul_of_pos_right hl (Nat.two_pow_pos _)
    have h3 := Nat.lt_of_le_of_lt h1 h2
    rw [← Nat.pow_add, ← Nat.pow_add] at h3
    have := (Nat.pow_lt_pow_iff_right (by decide)).1 h3
    omega
  have hle : last ≤ -(e : Int) := by omega
  have hge : -1074 ≤ last := by omega
  obtain ⟨a, ha⟩ : ∃ a : Nat, (a : Int) = last + 1074 := ⟨(last + 1074).toNat, by omega⟩
  have haN : (last - -1074).toNat = a := by omega
  rw [haN]
  -- the bound as a whole number of the last place
  have hb1 : ∀ X : Nat, X * 2 ^ (2148 - e) = (X * 2 ^ (1074 - e - a)) * 2 ^ (a + 1074) := by
    intro X
    rw [pow_split (a := 1074 - e - a) (b := a + 1074) (c := 2148 - e) (by omega), Nat.mul_assoc]
  obtain ⟨k, hk⟩ : ∃ k, k = Toward.even.cut false (m <<< (i - last).toNat) (last - i).toNat := ⟨_, rfl⟩
  rw [← hk]
  have key : k ≤ K * 2 ^ (1074 - e - a) ∧ (∀ J, J * 2 ^ (2148 - e) ≤ m * 2 ^ (i + 2148).toNat → J * 2 ^ (1074 - e - a) ≤ k) ∧ k ≤ 2 ^ 53 ∧ (0 < a → 2 ^ 52 ≤ k) := by
    rw [Nat.shiftLeft_eq] at hk
    rcases Int.le_total last i with hli | hli
    · have d0 : (last - i).toNat = 0 := by omega
      rw [d0] at hk
      have e1 : m * 2 ^ (i + 2148).toNat = (m * 2 ^ (i - last).toNat) * 2 ^ (a + 1074) := by
        rw [pow_split (a := (i - last).toNat) (b := a + 1074) (c := (i + 2148).toNat) (by omega), Nat.mul_assoc]
      generalize hM : m * 2 ^ (i - last).toNat = M at *
      have ek : k = M := by
        rw [hk]
        exact Nat.le_antisymm (cut_le (by simp)) (cut_ge (by simp))
      refine ⟨?_, ?_, ?_, ?_⟩
      · rw [ek]
        rw [e1, hb1] at hm
        exact Nat.le_of_mul_le_mul_right hm (Nat.two_pow_pos _)
      · intro J hJ
        rw [e1, hb1] at hJ
        rw [ek]
        exact Nat.le_of_mul_le_mul_right hJ (Nat.two_pow_pos _)
      · rw [ek, ← hM]
        have : m * 2 ^ (i - last).toNat < 2 ^ (L + 1) * 2 ^ (i - last).toNat := Nat.mul_lt_mul_of_pos_right hL1 (Nat.two_pow_pos _)
        rw [← Nat.pow_add] at this
        have h2 : 2 ^ (L + 1 + (i - last).toNat) ≤ 2 ^ 53 := Nat.pow_le_pow_right (by decide) (by omega)
        omega
      · intro h0
        rw [ek, ← hM]
        have : 2 ^ L * 2 ^ (i - last).toNat ≤ m * 2 ^ (i - last).toNat := Nat.mul_le_mul_right _ hL0
        rw [← Nat.pow_add, show L + (i - last).toNat = 52 by omega] at this
        exact this
    · have d0 : (i - last).toNat = 0 := by omega
      rw [d0, Nat.pow_zero, Nat.mul_one] at hk
      obtain ⟨d, hd⟩ : ∃ d, d = (last - i).toNat := ⟨_, rfl⟩
      rw [← hd] at hk
      have e1 : 2 ^ (a + 1074) = 2 ^ d * 2 ^ (i + 2148).toNat := pow_split (by omega)
      refine ⟨?_, ?_, ?_, ?_⟩
      · rw [hk]
        refine cut_le ?_
        rw [hb1, e1, ← Nat.mul_assoc] at hm
        exact Nat.le_of_mul_le_mul_right hm (Nat.two_pow_pos _)
      · intro J hJ
        rw [hk]
        refine cut_ge ?_
        rw [hb1, e1, ← Nat.mul_assoc] at hJ
        exact Nat.le_of_mul_le_mul_right hJ (Nat.two_pow_pos _)
      · rw [hk]
        refine cut_le ?_
        rw [← Nat.pow_add]
        have h2 : 2 ^ (L + 1) ≤ 2 ^ (53 + d) := Nat.pow_le_pow_right (by decide) (by omega)
        omega
      · intro h0
        rw [hk]
        refine cut_ge ?_
        rw [← Nat.pow_add]
        have h2 : 2 ^ (52 + d) = 2 ^ L := by rw [show 52 + d = L by omega]
        omega
  obtain ⟨k1, k2, k3, k4⟩ := key
  refine ⟨a, k, ?_, k3, k4, by omega, ?_, ?_⟩
  · unfold Format.word
    simp only [Bool.false_eq_true, if_false]
    have : a * 2 ^ 52 + k ≤ 2047 * 2 ^ 52 := by omega
    exact Nat.min_eq_left this
  · have := Nat.mul_le_mul_right (2 ^ a) k1
    rwa [Nat.mul_assoc, ← Nat.pow_add, show 1074 - e - a + a = 1074 - e by omega] at this
  · intro J hJ
    have := Nat.mul_le_mul_right (2 ^ a) (k2 J hJ)
    rwa [Nat.mul_assoc, ← Nat.pow_add, show 1074 - e - a + a = 1074 - e by omega] at this

theorem near_read (m : Nat) (i : Int) (hi : -2148 ≤ i) (K e : Nat) (he : e ≤ 1074)
    (hm : m * 2 ^ (i + 2148).toNat ≤ K * 2 ^ (2148 - e)) (hl : K < 2 ^ 52) :
    ∃ m' i' : Nat, double.read (double.nearest false m i) = .number false m' ((i' : Int) - 1074) ∧
      m' * 2 ^ i' ≤ K * 2 ^ (1074 - e) ∧ (∀ J, J * 2 ^ (2148 - e) ≤ m * 2 ^ (i + 2148).toNat → J * 2 ^ (1074 - e) ≤ m' * 2 ^ i') := by
  obtain ⟨a, k, h1, h2, h3, h4, h5, h6⟩ := near m i hi K e he hl hm
  obtain ⟨m', i', hr, hv⟩ := read_rung a k h2 h3 (by omega)
  exact ⟨m', i', by rw [h1, hr], by rw [hv]; exact h5, by rw [hv]; exact h6⟩

theorem near_int (m : Nat) (i : Int) (hi : -2148 ≤ i) (K e : Nat) (he : e ≤ 1074)
    (hm : m * 2 ^ (i + 2148).toNat ≤ K * 2 ^ (2148 - e)) (hl : K < 2 ^ 52) :
    ∃ q : Nat, floatToIntVal .f64 (double.nearest false m i) .i64 = some (q : Int) ∧ q ≤ K / 2 ^ e ∧ (∀ J, J * 2 ^ (2148 - e) ≤ m * 2 ^ (i + 2148).toNat → J / 2 ^ e ≤ q) := by
  obtain ⟨m', i', hr, hv, hw⟩ := near_read m i hi K e he hm hl
  obtain ⟨T, hT⟩ : ∃ T, T = 1074 := ⟨_, rfl⟩
  have hdiv : ∀ X, X * 2 ^ (1074 - e) / 2 ^ T = X / 2 ^ e := by
    intro X
    rw [pow_split (a := e) (b := 1074 - e) (c := T) (by omega), Nat.mul_div_mul_right _ _ (Nat.two_pow_pos _)]
  have h1 : m' * 2 ^ i' / 2 ^ T ≤ K / 2 ^ e := by
    rw [← hdiv]; exact Nat.div_le_div_right hv
  have h2 : K / 2 ^ e ≤ K := Nat.div_le_self _ _
  refine ⟨m' * 2 ^ i' / 2 ^ T, ?_, h1, ?_⟩
  · unfold floatToIntVal FloatKind.decode FloatKind.format
    rw [hr, toInt_number T m' i' hT]
    dsimp only
    rw [if_pos]
    generalize m' * 2 ^ i' / 2 ^ T = q at *
    generalize K / 2 ^ e = K' at *
    constructor
    · have : IntKind.i64.min = -9223372036854775808 := by decide
      rw [this]; omega
    · have : IntKind.i64.max = 9223372036854775807 := by decide
      rw [this]; omega
  · intro J hJ
    rw [← hdiv]; exact Nat.div_le_div_right (hw J hJ)

/-- A whole number as a double: it is just that number. -/
theorem nat_read (n : Nat) (hn : n < 2 ^ 52) : ∃ m' i' : Nat, double.read (double.nearest false n 0) = .number false m' ((i' : Int) - 1074) ∧ m' * 2 ^ i' = n * 2 ^ (1074 - 0) := by
  obtain ⟨m', i', h1, h2, h3⟩ := near_read n 0 (by omega) n 0 (by omega) (Nat.le_of_eq (by rw [show (0 + 2148 : Int).toNat = 2148 - 0 by omega])) hn
  exact ⟨m', i', h1, Nat.le_antisymm h2 (h3 n (Nat.le_of_eq (by rw [show (0 + 2148 : Int).toNat = 2148 - 0 by omega])))⟩

theorem nat_read_T (T n : Nat) (hT : T = 1074) (hn : n < 2 ^ 52) : ∃ m' i' : Nat, double.read (double.nearest false n 0) = .number false m' ((i' : Int) - 1074) ∧ m' * 2 ^ i' = n * 2 ^ T := by
  have h := nat_read n hn
  rwa [show 1074 - 0 = T by omega] at h

/-- A share times a whole number. 'V' is the share in units of the last place that there is. -/
theorem prod_int (r m i n : Nat) (hr : double.read r = .number false m ((i : Int) - 1074)) (hn : n < 2 ^ 52) (K e : Nat) (he : e ≤ 1074)
    (hK : m * 2 ^ i * n ≤ K * 2 ^ (1074 - e)) (hl : K < 2 ^ 52) :
    ∃ p q : Nat, floatBits .mul .f64 r (floatOfInt .f64 (n : Int)) = some p ∧ floatToIntVal .f64 p .i64 = some (q : Int) ∧ q ≤ K / 2 ^ e ∧ (∀ J, J * 2 ^ (1074 - e) ≤ m * 2 ^ i * n → J / 2 ^ e ≤ q) := by
  obtain ⟨m', i', h1, h2⟩ := nat_read n hn
  have hf : floatOfInt .f64 (n : Int) = double.nearest false n 0 := by
    have : decide ((n : Int) < 0) = false := by simp
    unfold floatOfInt FloatKind.nearest FloatKind.encode FloatKind.format Format.write
    rw [this]; rfl
  have hb : floatBits .mul .f64 r (floatOfInt .f64 (n : Int)) = some (double.nearest false (m * m') ((i : Int) - 1074 + ((i' : Int) - 1074))) := by
    rw [hf]
    unfold floatBits FloatKind.format Format.mul
    dsimp only
    rw [hr, h1]
    rfl
  have e0 : m * m' * 2 ^ ((i : Int) - 1074 + ((i' : Int) - 1074) + 2148).toNat = m * 2 ^ i * n * 2 ^ (1074 - 0) := by
    rw [show ((i : Int) - 1074 + ((i' : Int) - 1074) + 2148).toNat = i + i' by omega, Nat.mul_assoc (m * 2 ^ i), ← h2, Nat.pow_add]
    simp only [Nat.mul_assoc, Nat.mul_left_comm]
  have e1 : ∀ X, X * 2 ^ (2148 - e) = X * 2 ^ (1074 - e) * 2 ^ (1074 - 0) := by
    intro X
    rw [pow_split (a := 1074 - e) (b := 1074 - 0) (c := 2148 - e) (by omega), Nat.mul_assoc]
  obtain ⟨q, q1, q2, q3⟩ := near_int (m * m') ((i : Int) - 1074 + ((i' : Int) - 1074)) (by omega) K e he (by rw [e0, e1]; exact Nat.mul_le_mul_right _ hK) hl
  exact ⟨_, q, hb, q1, q2, fun J hJ => q3 J (by rw [e0, e1]; exact Nat.mul_le_mul_right _ hJ)⟩
end Go.Proofs.Ytojgmofpgefonaa
