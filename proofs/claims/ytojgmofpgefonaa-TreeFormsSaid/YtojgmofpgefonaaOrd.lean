/-
  How doubles stand to each other; what a share of a whole number is, cut to a whole one. Conditions: as each says.
-/
import Derived.Test.YtojgmofpgefonaaFlt
namespace Go.Proofs.Ytojgmofpgefonaa
open Ieee

theorem compare_scaled (a b c : Nat) (hc : 0 < c) : compare ((a : Nat) : Int) ((b : Nat) : Int) = compare (a * c) (b * c) := by
  rcases Nat.lt_trichotomy a b with h | h | h
  · have h2 : a * c < b * c := Nat.mul_lt_mul_of_pos_right h hc
    rw [Nat.compare_eq_lt.2 h2]
    exact Int.compare_eq_lt.2 (by omega)
  · subst h
    rw [Nat.compare_eq_eq.2 rfl]
    exact Int.compare_eq_eq.2 rfl
  · have h2 : b * c < a * c := Nat.mul_lt_mul_of_pos_right h hc
    rw [Nat.compare_eq_gt.2 h2]
    exact Int.compare_eq_gt.2 (by omega)

/-- How two numbers that are not negative stand to each other. -/
theorem order_pos (m i n j : Nat) : (Datum.number false m ((i : Int) - 1074)).order (.number false n ((j : Int) - 1074)) = some (compare (m * 2 ^ i) (n * 2 ^ j)) := by
  unfold Datum.order signed
  simp only [Bool.false_eq_true, if_false, Nat.shiftLeft_eq, Option.some.injEq]
  have e1 : ((i : Int) - 1074 - min ((i : Int) - 1074) ((j : Int) - 1074)).toNat = i - min i j := by omega
  have e2 : ((j : Int) - 1074 - min ((i : Int) - 1074) ((j : Int) - 1074)).toNat = j - min i j := by omega
  rw [e1, e2, compare_scaled _ _ (2 ^ min i j) (Nat.two_pow_pos _), Nat.mul_assoc, Nat.mul_assoc, ← Nat.pow_add, ← Nat.pow_add,
    show i - min i j + min i j = i by omega, show j - min i j + min i j = j by omega]

theorem read_place {r : Nat} {s : Bool} {m : Nat} {i : Int} (h : double.read r = .number s m i) : ∃ i' : Nat, i = (i' : Int) - 1074 := by
  have hlp : double.leastPlace = -1074 := by decide
  unfold Format.read at h
  dsimp only at h
  rw [hlp] at h
  split at h
  · cases h; exact ⟨0, by omega⟩
  · split at h
    · injection h with _ _ h3
      exact ⟨r % double.signWeight / double.binade - 1, by omega⟩
    · split at h <;> cases h

theorem read_zero : double.read 0 = .number false 0 (((0 : Nat) : Int) - 1074) := by decide +kernel
theorem read_one : double.read 4607182418800017408 = .number false (2 ^ 52) (((1022 : Nat) : Int) - 1074) := by decide +kernel

/-- A number is equal to itself, but for a NaN. -/
theorem order_self (r : Nat) (h : (double.order r r == some .eq) = false) : ∃ s t, double.read r = .nan s t := by
  unfold Format.order at h
  cases hr : double.read r with
  | nan s t => exact ⟨s, t, rfl⟩
  | infinity s => rw [hr] at h; cases s <;> cases h
  | number s m i => rw [hr] at h; simp [Datum.order] at h

theorem order_nan {r : Nat} {s : Bool} {t : Nat} (h : double.read r = .nan s t) (x : Nat) : double.order r x = none ∧ double.order x r = none := by
  unfold Format.order
  rw [h]
  constructor
  · rfl
  · cases double.read x <;> rfl

/-- A share that is neither at most 0 nor above 1 nor none. -/
theorem share {r : Nat} {T : Nat} (hT : T = 1074) (h0 : (double.order r r == some .eq) = true) (h1 : (double.order r 0 == some .lt || double.order r 0 == some .eq) = false)
    (h2 : (double.order r 4607182418800017408 == some .gt) = false) : ∃ m i : Nat, double.read r = .number false m ((i : Int) - 1074) ∧ m * 2 ^ i ≤ 2 ^ T := by
  unfold Format.order at h0 h1 h2
  rw [read_zero] at h1
  rw [read_one] at h2
  cases hr : double.read r with
  | nan s t => rw [hr] at h0; cases h0
  | infinity s => rw [hr] at h1 h2; cases s <;> revert h1 h2 <;> simp [Datum.order]
  | number s m i =>
    obtain ⟨i', rfl⟩ := read_place hr
    rw [hr] at h1 h2
    cases s with
    | true =>
      exfalso
      unfold Datum.order signed at h1
      simp only [if_true, Nat.shiftLeft_eq, Bool.false_eq_true, if_false, Nat.zero_mul] at h1
      generalize m * 2 ^ _ = k at h1
      rcases Nat.eq_zero_or_pos k with h | h
      · subst h; revert h1; decide
      · have : compare (-(k : Int)) ((0 : Nat) : Int) = .lt := Int.compare_eq_lt.2 (by omega)
        rw [this] at h1; revert h1; decide
    | false =>
      rw [order_pos] at h2
      refine ⟨m, i', rfl, ?_⟩
      obtain ⟨E, hE⟩ : ∃ E, E = 1022 := ⟨_, rfl⟩
      rw [← hE, ← Nat.pow_add, show 52 + E = T by omega] at h2
      rcases Nat.lt_or_ge (2 ^ T) (m * 2 ^ i') with h | h
      · rw [Nat.compare_eq_gt.2 h] at h2; cases h2
      · exact h

/-- The whole part of a share of a whole number. -/
theorem share_int {r : Nat} (h0 : (double.order r r == some .eq) = true) (h1 : (double.order r 0 == some .lt || double.order r 0 == some .eq) = false)
    (h2 : (double.order r 4607182418800017408 == some .gt) = false) (n : Nat) (hn : n < 2 ^ 52) :
    ∃ p q : Nat, floatBits .mul .f64 r (floatOfInt .f64 (n : Int)) = some p ∧ floatToIntVal .f64 p .i64 = some (q : Int) ∧ q ≤ n := by
  obtain ⟨T, hT⟩ : ∃ T, T = 1074 := ⟨_, rfl⟩
  obtain ⟨m, i, hr, hv⟩ := share hT h0 h1 h2
  obtain ⟨p, q, a, b, c, _⟩ := prod_int r m i n hr hn n 0 (by omega) (by
    rw [Nat.mul_comm n, show 1074 - 0 = T by omega]
    exact Nat.mul_le_mul_right _ hv) hn
  exact ⟨p, q, a, b, by rwa [Nat.pow_zero, Nat.div_one] at c⟩
end Go.Proofs.Ytojgmofpgefonaa
