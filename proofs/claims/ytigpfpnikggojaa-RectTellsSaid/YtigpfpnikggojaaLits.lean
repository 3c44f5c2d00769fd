/-
  What the statements of this seat share: masks, the three ways of Cut, a literal row of three rectangles. Conditions: none.
-/
import Derived.Test.YtigpfpnikggojaaAwake
namespace Go.Proofs.Ytigpfpnikggojaa
open Go.RowKit

theorem i64_low (k : Nat) (hk : k < 63) (n : Int) : bits .and .i64 n (((2 ^ k - 1 : Nat)) : Int) = n % ((2 ^ k : Nat) : Int) := by
  have h2 : 2 ^ k ≤ 2 ^ 62 := Nat.pow_le_pow_right (by decide) (by omega)
  have h3 : 0 < 2 ^ k := Nat.two_pow_pos k
  have h4 : (2 : Nat) ^ 62 = 4611686018427387904 := by decide
  have h127 : (BitVec.ofInt 64 ((2 ^ k - 1 : Nat) : Int)).toNat = 2 ^ k - 1 := by
    rw [BitVec.toNat_ofInt]
    have : (((2 ^ k - 1 : Nat) : Int) % ((2 ^ 64 : Nat) : Int)) = ((2 ^ k - 1 : Nat) : Int) := Int.emod_eq_of_lt (by omega) (by omega)
    rw [this, Int.toNat_natCast]
  have key : (BitVec.ofInt 64 n &&& BitVec.ofInt 64 ((2 ^ k - 1 : Nat) : Int)).toNat = (n % ((2 ^ 64 : Nat) : Int)).toNat % 2 ^ k := by
    rw [BitVec.toNat_and, BitVec.toNat_ofInt, h127, Nat.and_two_pow_sub_one_eq_mod]
  show IntKind.i64.wrap ((BitVec.ofInt 64 n &&& BitVec.ofInt 64 ((2 ^ k - 1 : Nat) : Int)).toNat : Nat) = n % ((2 ^ k : Nat) : Int)
  have e : ((2 ^ 64 : Nat) : Int) = ((2 ^ k : Nat) : Int) * ((2 ^ (64 - k) : Nat) : Int) := by
    rw [← Int.natCast_mul, ← Nat.pow_add]
    congr 2
    omega
  have m0 : 0 ≤ n % ((2 ^ 64 : Nat) : Int) := Int.emod_nonneg _ (by decide)
  have hm : (((n % ((2 ^ 64 : Nat) : Int)).toNat % 2 ^ k : Nat) : Int) = n % ((2 ^ k : Nat) : Int) := by
    rw [Int.natCast_emod, Int.toNat_of_nonneg m0, e]
    exact Int.emod_emod_of_dvd n ⟨_, rfl⟩
  rw [key, hm, IntKind.wrap_i64]
  have l0 : 0 ≤ n % ((2 ^ k : Nat) : Int) := Int.emod_nonneg _ (by omega)
  have l1 : n % ((2 ^ k : Nat) : Int) < ((2 ^ k : Nat) : Int) := Int.emod_lt_of_pos _ (by omega)
  generalize n % ((2 ^ k : Nat) : Int) = z at *
  omega
theorem and1 (n : Int) : ∃ z : Int, bits .and .i64 n 1 = z ∧ 0 ≤ z ∧ z ≤ 1 := ⟨n % 2, i64_low 1 (by decide) n, by omega, by omega⟩
theorem and3 (n : Int) : ∃ z : Int, bits .and .i64 n 3 = z ∧ 0 ≤ z ∧ z ≤ 3 := ⟨n % 4, i64_low 2 (by decide) n, by omega, by omega⟩
theorem and15 (n : Int) : ∃ z : Int, bits .and .i64 n 15 = z ∧ 0 ≤ z ∧ z ≤ 15 := ⟨n % 16, i64_low 4 (by decide) n, by omega, by omega⟩
theorem and31 (n : Int) : ∃ z : Int, bits .and .i64 n 31 = z ∧ 0 ≤ z ∧ z ≤ 31 := ⟨n % 32, i64_low 5 (by decide) n, by omega, by omega⟩
theorem and63 (n : Int) : ∃ z : Int, bits .and .i64 n 63 = z ∧ 0 ≤ z ∧ z ≤ 63 := ⟨n % 64, i64_low 6 (by decide) n, by omega, by omega⟩
theorem and255 (n : Int) : ∃ z : Nat, bits .and .i64 n 255 = (z : Int) ∧ z ≤ 255 := ⟨(n % 256).toNat, by
  have := i64_low 8 (by decide) n
  have e : (((2 ^ 8 - 1 : Nat)) : Int) = 255 := by decide
  rw [e] at this
  rw [this]
  omega, by omega⟩

theorem none_small {r : R} (h : 0 ≤ r.X ∧ r.X ≤ 1000 ∧ 0 ≤ r.Y ∧ r.Y ≤ 1000 ∧ 0 ≤ r.W ∧ r.W ≤ 1000 ∧ 0 ≤ r.H ∧ r.H ≤ 1000) : noneF r = false := by
  unfold noneF outF
  simp only [Bool.or_eq_false_iff, decide_eq_false_iff_not]
  omega

/-- The ways of Cut, of a rectangle that is one. -/
theorem cut_ways {r : R} (hn : noneF r = false) (dir first : Int) :
    (dir = 1 ∧ 1 ≤ first ∧ first ≤ r.W - 2 ∧ cutF r dir first = (⟨r.X, r.Y, first, r.H⟩, ⟨r.X + first, r.Y, 1, r.H⟩, ⟨r.X + first + 1, r.Y, r.W - 1 - first, r.H⟩, true)) ∨
    (dir = 2 ∧ 1 ≤ first ∧ first ≤ r.H - 2 ∧ cutF r dir first = (⟨r.X, r.Y, r.W, first⟩, ⟨r.X, r.Y + first, r.W, 1⟩, ⟨r.X, r.Y + first + 1, r.W, r.H - 1 - first⟩, true)) ∨
    (¬ (dir = 1 ∧ 1 ≤ first ∧ first ≤ r.W - 2) ∧ ¬ (dir = 2 ∧ 1 ≤ first ∧ first ≤ r.H - 2) ∧ cutF r dir first = (zR, zR, zR, false)) := by
  unfold cutF okF bothF
  rw [hn]
  by_cases h1 : dir = 1 ∧ 1 ≤ first ∧ first ≤ r.W - 2
  · obtain ⟨rfl, a, b⟩ := h1
    left
    simp [a, b]
  · by_cases h2 : dir = 2 ∧ 1 ≤ first ∧ first ≤ r.H - 2
    · obtain ⟨rfl, a, b⟩ := h2
      right; left
      simp [a, b]
    · right; right
      refine ⟨h1, h2, ?_⟩
      rw [if_neg]
      simp only [Bool.not_false, Bool.true_and, Bool.or_eq_true, Bool.and_eq_true, beq_iff_eq, decide_eq_true_eq]
      omega

/-- A row of three rectangles. -/
def pt (a m b : R) (k : Nat) : R := if k = 0 then a else if k = 1 then m else b
def tcs (a m b : R) : Array Value := #[.int .i64 a.X, .int .i64 a.Y, .int .i64 a.W, .int .i64 a.H, .int .i64 m.X, .int .i64 m.Y, .int .i64 m.W, .int .i64 m.H, .int .i64 b.X, .int .i64 b.Y, .int .i64 b.W, .int .i64 b.H]
def TB (w : World) (g : Nat) (a m b : R) : Prop := Held w g 23 (tcs a m b)
theorem TB.row {w : World} {g : Nat} {a m b : R} (h : TB w g a m b) {k : Nat} (hk : k < 3) :
    w.cell? ⟨g, k * 4, none⟩ = some (.int .i64 (pt a m b k).X) ∧ w.cell? ⟨g, k * 4 + 1, none⟩ = some (.int .i64 (pt a m b k).Y) ∧ w.cell? ⟨g, k * 4 + 2, none⟩ = some (.int .i64 (pt a m b k).W) ∧ w.cell? ⟨g, k * 4 + 3, none⟩ = some (.int .i64 (pt a m b k).H) := by
  have hc := fun o => Held.cell h o
  match k, hk with
  | 0, _ => exact ⟨(hc 0).trans rfl, (hc 1).trans rfl, (hc 2).trans rfl, (hc 3).trans rfl⟩
  | 1, _ => exact ⟨(hc 4).trans rfl, (hc 5).trans rfl, (hc 6).trans rfl, (hc 7).trans rfl⟩
  | 2, _ => exact ⟨(hc 8).trans rfl, (hc 9).trans rfl, (hc 10).trans rfl, (hc 11).trans rfl⟩
end Go.Proofs.Ytigpfpnikggojaa
