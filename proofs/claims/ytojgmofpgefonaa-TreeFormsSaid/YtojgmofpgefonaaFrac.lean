/-
  The doubles of k / 1024, their order, and their parts of whole numbers. Conditions: k at most 1024, the number below 16,384.
-/
import Derived.Test.YtojgmofpgefonaaOrd
namespace Go.Proofs.Ytojgmofpgefonaa
open Ieee

/-- The double of k / 1024. -/
def X (k : Nat) : Nat := (floatBits .quo .f64 (floatOfInt .f64 (k : Int)) 4652218415073722368).getD 0

def okX (E k : Nat) : Bool :=
  floatBits .quo .f64 (floatOfInt .f64 (k : Int)) 4652218415073722368 == some (X k) &&
  floatBits .sub .f64 4607182418800017408 (X k) == some (X (1024 - k)) &&
  decide (X k < 2 ^ 64) &&
  match double.read (X k) with
  | .number false m i => decide (0 ≤ i + 1074) && m * 2 ^ (i + 1074).toNat == k * 2 ^ E
  | _ => false

theorem allX : ∀ k, k < 1025 → okX 1064 k = true := by decide +kernel

theorem x_quo (k : Nat) (h : k < 1025) : floatBits .quo .f64 (floatOfInt .f64 (k : Int)) 4652218415073722368 = some (X k) := by
  have := allX k h
  unfold okX at this
  simp only [Bool.and_eq_true, beq_iff_eq] at this
  exact this.1.1.1

theorem x_sub (k : Nat) (h : k < 1025) : floatBits .sub .f64 4607182418800017408 (X k) = some (X (1024 - k)) := by
  have := allX k h
  unfold okX at this
  simp only [Bool.and_eq_true, beq_iff_eq] at this
  exact this.1.1.2

theorem x_lt (k : Nat) (h : k < 1025) : X k < 2 ^ 64 := by
  have := allX k h
  unfold okX at this
  simp only [Bool.and_eq_true, beq_iff_eq] at this
  exact of_decide_eq_true this.1.2

theorem x_read (k : Nat) (h : k < 1025) (E : Nat) (hE : E = 1064) : ∃ m i : Nat, double.read (X k) = .number false m ((i : Int) - 1074) ∧ m * 2 ^ i = k * 2 ^ E := by
  have := allX k h
  rw [← hE] at this
  unfold okX at this
  simp only [Bool.and_eq_true] at this
  have h2 := this.2
  split at h2
  · rename_i m i hr
    simp only [Bool.and_eq_true, decide_eq_true_eq, beq_iff_eq] at h2
    exact ⟨m, (i + 1074).toNat, by rw [hr]; congr 1; omega, h2.2⟩
  · cases h2

theorem x_order (k l : Nat) (h : k < 1025) (h' : l < 1025) : double.order (X k) (X l) = some (compare k l) := by
  obtain ⟨E, hE⟩ : ∃ E, E = 1064 := ⟨_, rfl⟩
  obtain ⟨m, i, hr, hv⟩ := x_read k h E hE
  obtain ⟨m', i', hr', hv'⟩ := x_read l h' E hE
  unfold Format.order
  rw [hr, hr', order_pos, hv, hv']
  congr 1
  rcases Nat.lt_trichotomy k l with h | h | h
  · rw [Nat.compare_eq_lt.2 h]
    exact Nat.compare_eq_lt.2 (Nat.mul_lt_mul_of_pos_right h (Nat.two_pow_pos _))
  · subst h
    rw [Nat.compare_eq_eq.2 rfl, Nat.compare_eq_eq.2 rfl]
  · rw [Nat.compare_eq_gt.2 h]
    exact Nat.compare_eq_gt.2 (Nat.mul_lt_mul_of_pos_right h (Nat.two_pow_pos _))

theorem x0 : X 0 = 0 := by decide +kernel
theorem x1024 : X 1024 = 4607182418800017408 := by decide +kernel

/-- A part of so many 1024ths. -/
theorem x_part (k n : Nat) (h : k < 1025) (hn : n < 2 ^ 14) :
    ∃ p : Nat, floatBits .mul .f64 (X k) (floatOfInt .f64 (n : Int)) = some p ∧ floatToIntVal .f64 p .i64 = some ((k * n / 1024 : Nat) : Int) := by
  obtain ⟨E, hE⟩ : ∃ E, E = 1064 := ⟨_, rfl⟩
  obtain ⟨m, i, hr, hv⟩ := x_read k h E hE
  have hl : k * n < 2 ^ 25 := by
    have h1 : k * n ≤ 1024 * n := Nat.mul_le_mul_right _ (by omega)
    omega
  have e0 : m * 2 ^ i * n = k * n * 2 ^ (1074 - 10) := by
    rw [hv, show 1074 - 10 = E by omega, Nat.mul_assoc, Nat.mul_comm (2 ^ E), ← Nat.mul_assoc]
  obtain ⟨p, q, a, b, c, d⟩ := prod_int (X k) m i n hr (by omega) (k * n) 10 (by omega) (Nat.le_of_eq e0) (by omega)
  have := d (k * n) (Nat.le_of_eq e0.symm)
  have e : q = k * n / 1024 := by
    have : (2 : Nat) ^ 10 = 1024 := rfl
    omega
  rw [e] at b
  exact ⟨p, a, b⟩
end Go.Proofs.Ytojgmofpgefonaa
