/-
  Plain facts: a rune's bytes, fed from nothing, are that rune again, and nothing of it ends ahead of the last byte.
-/
import Derived.Test.YtijjkpaagkfiiaaFeed
namespace Go.Proofs.Ytijjkpaagkfiiaa
open Go.RowKit

theorem nx_1 (b : Int) (h0 : 0 ≤ b) (h1 : b ≤ 127) : nx U.zero b = U.zero ∧ nxR U.zero b = [b] := by
  have e : ¬ (0 < U.zero.n ∧ 128 ≤ b ∧ b ≤ 191) := fun x => absurd x.1 (by decide)
  have e' : ¬ (0 < U.zero.n) := by decide
  unfold nx nxR stN stM stG stR
  simp only [if_neg e, if_neg e', if_pos h1, if_pos (show b ≤ 191 by omega)]
  exact ⟨rfl, trivial⟩
theorem nx_2 (q : Int) (h0 : 0 ≤ q) (h1 : q < 32) : nx U.zero (192 + q) = ⟨1, 128, q⟩ ∧ nxR U.zero (192 + q) = [] := by
  have e : ¬ (0 < U.zero.n ∧ 128 ≤ 192 + q ∧ 192 + q ≤ 191) := fun x => absurd x.1 (by decide)
  have e' : ¬ (0 < U.zero.n) := by decide
  have g : (192 + q) % 32 = q := by omega
  unfold nx nxR stN stM stG stR
  simp only [if_neg e, if_neg e', if_neg (show ¬ 192 + q ≤ 127 by omega), if_neg (show ¬ 192 + q ≤ 191 by omega), if_pos (show 192 + q ≤ 223 by omega), if_pos (show 192 + q ≤ 247 by omega), g]
  exact ⟨trivial, trivial⟩
theorem nx_3 (q : Int) (h0 : 0 ≤ q) (h1 : q < 16) : nx U.zero (224 + q) = ⟨2, 2048, q⟩ ∧ nxR U.zero (224 + q) = [] := by
  have e : ¬ (0 < U.zero.n ∧ 128 ≤ 224 + q ∧ 224 + q ≤ 191) := fun x => absurd x.1 (by decide)
  have e' : ¬ (0 < U.zero.n) := by decide
  have g : (224 + q) % 16 = q := by omega
  unfold nx nxR stN stM stG stR
  simp only [if_neg e, if_neg e', if_neg (show ¬ 224 + q ≤ 127 by omega), if_neg (show ¬ 224 + q ≤ 191 by omega), if_neg (show ¬ 224 + q ≤ 223 by omega), if_pos (show 224 + q ≤ 239 by omega), if_pos (show 224 + q ≤ 247 by omega), g]
  exact ⟨trivial, trivial⟩
theorem nx_4 (q : Int) (h0 : 0 ≤ q) (h1 : q < 8) : nx U.zero (240 + q) = ⟨3, 65536, q⟩ ∧ nxR U.zero (240 + q) = [] := by
  have e : ¬ (0 < U.zero.n ∧ 128 ≤ 240 + q ∧ 240 + q ≤ 191) := fun x => absurd x.1 (by decide)
  have e' : ¬ (0 < U.zero.n) := by decide
  have g : (240 + q) % 8 = q := by omega
  unfold nx nxR stN stM stG stR
  simp only [if_neg e, if_neg e', if_neg (show ¬ 240 + q ≤ 127 by omega), if_neg (show ¬ 240 + q ≤ 191 by omega), if_neg (show ¬ 240 + q ≤ 223 by omega), if_neg (show ¬ 240 + q ≤ 239 by omega), if_pos (show 240 + q ≤ 247 by omega), g]
  exact ⟨trivial, trivial⟩
theorem nx_more (n m g q : Int) (hn : 1 < n) (h0 : 0 ≤ q) (h1 : q < 64) : nx ⟨n, m, g⟩ (128 + q) = ⟨n - 1, m, g * 64 + q⟩ ∧ nxR ⟨n, m, g⟩ (128 + q) = [] := by
  have e : 0 < n ∧ 128 ≤ 128 + q ∧ 128 + q ≤ 191 := by omega
  have e2 : (128 + q) % 64 = q := by omega
  unfold nx nxR
  simp only [if_pos e, if_pos e.1, if_pos e.2, if_pos hn, e2]
  exact ⟨trivial, trivial⟩
theorem nx_last (m g q : Int) (h0 : 0 ≤ q) (h1 : q < 64) : nx ⟨1, m, g⟩ (128 + q) = U.zero ∧ nxR ⟨1, m, g⟩ (128 + q) = [endR (g * 64 + q) m] := by
  have e : 0 < (1 : Int) ∧ 128 ≤ 128 + q ∧ 128 + q ≤ 191 := by omega
  have e2 : (128 + q) % 64 = q := by omega
  unfold nx nxR
  simp only [if_pos e, if_pos e.1, if_pos e.2, if_neg (show ¬ (1 : Int) < 1 by decide), e2]
  exact ⟨trivial, trivial⟩

/-- What a number comes back as. -/
def wantR (r : Int) : Int := if r < 0 ∨ 1114111 < r ∨ (55296 ≤ r ∧ r ≤ 57343) then 65533 else r

/-- The bytes bs come back as the one rune r. -/
structure Comes (bs : List Int) (r : Int) : Prop where
  one : 1 ≤ bs.length
  four : bs.length ≤ 4
  low : ∀ b ∈ bs, 0 ≤ b ∧ b ≤ 255
  none : feedR U.zero (bs.take (bs.length - 1)) = []
  begun : enR (feedS U.zero (bs.take (bs.length - 1))).n = if bs.length = 1 then [] else [65533]
  all : feedR U.zero bs = [r]
  zero : feedS U.zero bs = U.zero

theorem comes_1 (r : Int) (h0 : 0 ≤ r) (h1 : r ≤ 127) : Comes [r] r := by
  have a := nx_1 r h0 h1
  refine ⟨by simp, by simp, by simp; omega, rfl, rfl, ?_, ?_⟩
  · simp [feedR, a.2]
  · simp [feedS, a.1]
theorem comes_2 (p q : Int) (p0 : 0 ≤ p) (p1 : p < 32) (q0 : 0 ≤ q) (q1 : q < 64) (h : endR (p * 64 + q) 128 = p * 64 + q) : Comes [192 + p, 128 + q] (p * 64 + q) := by
  have a := nx_2 p p0 p1
  have b := nx_last 128 p q q0 q1
  refine ⟨by simp, by simp, by simp; omega, ?_, ?_, ?_, ?_⟩
  · simp [feedR, a.2]
  · simp [feedS, a.1, enR]
  · simp [feedR, a.1, a.2, b.2, h]
  · simp [feedS, a.1, b.1]
theorem comes_3 (o p q r : Int) (o0 : 0 ≤ o) (o1 : o < 16) (p0 : 0 ≤ p) (p1 : p < 64) (q0 : 0 ≤ q) (q1 : q < 64) (h : endR ((o * 64 + p) * 64 + q) 2048 = r) : Comes [224 + o, 128 + p, 128 + q] r := by
  have a := nx_3 o o0 o1
  have b := nx_more 2 2048 o p (by decide) p0 p1
  have c := nx_last 2048 (o * 64 + p) q q0 q1
  rw [show (2 : Int) - 1 = 1 by decide] at b
  refine ⟨by simp, by simp, by simp; omega, ?_, ?_, ?_, ?_⟩
  · simp [feedR, a.1, a.2, b.2]
  · simp [feedS, a.1, b.1, enR]
  · simp [feedR, a.1, a.2, b.1, b.2, c.2, h]
  · simp [feedS, a.1, b.1, c.1]
theorem comes_4 (o p q s r : Int) (o0 : 0 ≤ o) (o1 : o < 8) (p0 : 0 ≤ p) (p1 : p < 64) (q0 : 0 ≤ q) (q1 : q < 64) (s0 : 0 ≤ s) (s1 : s < 64) (h : endR (((o * 64 + p) * 64 + q) * 64 + s) 65536 = r) : Comes [240 + o, 128 + p, 128 + q, 128 + s] r := by
  have a := nx_4 o o0 o1
  have b := nx_more 3 65536 o p (by decide) p0 p1
  rw [show (3 : Int) - 1 = 2 by decide] at b
  have c := nx_more 2 65536 (o * 64 + p) q (by decide) q0 q1
  rw [show (2 : Int) - 1 = 1 by decide] at c
  have d := nx_last 65536 ((o * 64 + p) * 64 + q) s s0 s1
  refine ⟨by simp, by simp, by simp; omega, ?_, ?_, ?_, ?_⟩
  · simp [feedR, a.1, a.2, b.1, b.2, c.2]
  · simp [feedS, a.1, b.1, c.1, enR]
  · simp [feedR, a.1, a.2, b.1, b.2, c.1, c.2, d.2, h]
  · simp [feedS, a.1, b.1, c.1, d.1]

theorem comes_put (r : Int) (h0 : 0 ≤ r) (h1 : r < 2097152) : Comes (putB r) (wantR r) := by
  unfold putB wantR
  by_cases c1 : r < 0 ∨ 1114111 < r ∨ (55296 ≤ r ∧ r ≤ 57343)
  · simp only [if_pos c1]
    exact comes_3 15 63 61 65533 (by decide) (by decide) (by decide) (by decide) (by decide) (by decide) (by decide)
  · simp only [if_neg c1]
    by_cases c2 : r ≤ 127
    · simp only [if_pos c2]
      exact comes_1 r h0 c2
    · simp only [if_neg c2]
      by_cases c3 : r ≤ 2047
      · simp only [if_pos c3]
        have e : r / 64 * 64 + r % 64 = r := by omega
        have := comes_2 (r / 64) (r % 64) (by omega) (by omega) (by omega) (by omega) (by rw [e]; unfold endR; rw [if_neg (by omega)])
        rwa [e] at this
      · simp only [if_neg c3]
        by_cases c4 : r ≤ 65535
        · simp only [if_pos c4]
          have e : (r / 4096 * 64 + r / 64 % 64) * 64 + r % 64 = r := by omega
          exact comes_3 (r / 4096) (r / 64 % 64) (r % 64) r (by omega) (by omega) (by omega) (by omega) (by omega) (by omega) (by rw [e]; unfold endR; rw [if_neg (by omega)])
        · simp only [if_neg c4]
          have e : ((r / 262144 * 64 + r / 4096 % 64) * 64 + r / 64 % 64) * 64 + r % 64 = r := by omega
          exact comes_4 (r / 262144) (r / 4096 % 64) (r / 64 % 64) (r % 64) r (by omega) (by omega) (by omega) (by omega) (by omega) (by omega) (by omega) (by omega) (by rw [e]; unfold endR; rw [if_neg (by omega)])

theorem valid_want (r : Int) (h0 : 0 ≤ r) (h : ¬ (r < 0 ∨ 1114111 < r ∨ (55296 ≤ r ∧ r ≤ 57343))) : Utf8.valid r = true := by
  unfold Utf8.valid
  simp
  omega

theorem encode_put (r : Int) : Utf8.encode (wantR r) = bytesBA (putB r) := by
  unfold wantR putB
  by_cases c1 : r < 0 ∨ 1114111 < r ∨ (55296 ≤ r ∧ r ≤ 57343)
  · simp only [if_pos c1]
    decide +kernel
  · simp only [if_neg c1]
    have hv := valid_want r (by omega) c1
    obtain ⟨n, rfl⟩ := Int.eq_ofNat_of_zero_le (show 0 ≤ r by omega)
    unfold Utf8.encode
    simp only [hv, if_true, Int.toNat_natCast]
    by_cases c2 : (n : Int) ≤ 127
    · simp only [if_pos c2, if_pos (show n < 0x80 by omega)]
      rfl
    · simp only [if_neg c2, if_neg (show ¬ n < 0x80 by omega)]
      by_cases c3 : (n : Int) ≤ 2047
      · simp only [if_pos c3, if_pos (show n < 0x800 by omega)]
        rw [show (0xC0 + n / 64 : Nat) = ((192 : Int) + n / 64).toNat by omega, show (0x80 + n % 64 : Nat) = ((128 : Int) + n % 64).toNat by omega]
        rfl
      · simp only [if_neg c3, if_neg (show ¬ n < 0x800 by omega)]
        by_cases c4 : (n : Int) ≤ 65535
        · simp only [if_pos c4, if_pos (show n < 0x10000 by omega)]
          rw [show (0xE0 + n / 4096 : Nat) = ((224 : Int) + n / 4096).toNat by omega, show (0x80 + n / 64 % 64 : Nat) = ((128 : Int) + n / 64 % 64).toNat by omega, show (0x80 + n % 64 : Nat) = ((128 : Int) + n % 64).toNat by omega]
          rfl
        · simp only [if_neg c4, if_neg (show ¬ n < 0x10000 by omega)]
          rw [show (0xF0 + n / 262144 : Nat) = ((240 : Int) + n / 262144).toNat by omega, show (0x80 + n / 4096 % 64 : Nat) = ((128 : Int) + n / 4096 % 64).toNat by omega, show (0x80 + n / 64 % 64 : Nat) = ((128 : Int) + n / 64 % 64).toNat by omega, show (0x80 + n % 64 : Nat) = ((128 : Int) + n % 64).toNat by omega]
          rfl

theorem i64_and21 (n : Int) : bits .and .i64 n 2097151 = n % 2097152 := by
  have hm : (BitVec.ofInt 64 2097151).toNat = 2 ^ 21 - 1 := by decide
  have key : (BitVec.ofInt 64 n &&& BitVec.ofInt 64 2097151).toNat = (n % ((2 ^ 64 : Nat) : Int)).toNat % 2 ^ 21 := by
    rw [BitVec.toNat_and, BitVec.toNat_ofInt, hm, Nat.and_two_pow_sub_one_eq_mod]
  show IntKind.i64.wrap ((BitVec.ofInt 64 n &&& BitVec.ofInt 64 2097151).toNat : Nat) = n % 2097152
  rw [key, IntKind.wrap_i64]
  omega

end Go.Proofs.Ytijjkpaagkfiiaa
