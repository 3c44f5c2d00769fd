/-
  What stands at each place of a row behind Insert and Delete; masks. Plain facts; no condition.
-/
import Derived.Test.YtpmioibgbknphaaAwake
namespace Go.Proofs.Ytpmioibgbknphaa
open Go.RowKit

theorem and_low (n : Int) (m : Nat) (i : Nat) (hm : (BitVec.ofInt 64 (m : Int)).toNat = 2 ^ i - 1) (hi : i ≤ 8) : bits .and .i64 n m = n % ((2 ^ i : Nat) : Int) := by
  have key : (BitVec.ofInt 64 n &&& BitVec.ofInt 64 (m : Int)).toNat = (n % ((2 ^ 64 : Nat) : Int)).toNat % 2 ^ i := by
    rw [BitVec.toNat_and, BitVec.toNat_ofInt, hm, Nat.and_two_pow_sub_one_eq_mod]
  show IntKind.i64.wrap ((BitVec.ofInt 64 n &&& BitVec.ofInt 64 (m : Int)).toNat : Nat) = _
  rw [key, IntKind.wrap_i64]
  have h : i = 0 ∨ i = 1 ∨ i = 2 ∨ i = 3 ∨ i = 4 ∨ i = 5 ∨ i = 6 ∨ i = 7 ∨ i = 8 := by omega
  rcases h with rfl | rfl | rfl | rfl | rfl | rfl | rfl | rfl | rfl <;> simp only [Nat.reducePow] <;> omega
theorem i64_and7 (n : Int) : bits .and .i64 n 7 = n % 8 := and_low n 7 3 (by decide) (by decide)
theorem i64_and31 (n : Int) : bits .and .i64 n 31 = n % 32 := and_low n 31 5 (by decide) (by decide)
theorem i64_and255 (n : Int) : bits .and .i64 n 255 = n % 256 := and_low n 255 8 (by decide) (by decide)

theorem splice_at {α : Type} (L : List α) (off : Nat) (cs : List α) (h : off + cs.length ≤ L.length) (j : Nat) :
    (splice L off cs)[j]? = if j < off then L[j]? else if j < off + cs.length then cs[j - off]? else L[j]? := by
  unfold splice
  have h1 : (L.take off).length = off := by rw [List.length_take]; omega
  by_cases c1 : j < off
  · rw [if_pos c1, List.getElem?_append_left (by omega), List.getElem?_take_of_lt c1]
  · rw [if_neg c1, List.getElem?_append_right (by omega), h1]
    by_cases c2 : j < off + cs.length
    · rw [if_pos c2, List.getElem?_append_left (by omega)]
    · rw [if_neg c2, List.getElem?_append_right (by omega), List.getElem?_drop]
      congr 1
      omega
theorem blanksF_at (n j : Nat) (h : j < n) : (blanksF n)[j]? = some C.blank := by simp [blanksF, h]

theorem insertN_at (l : List C) (x k j : Nat) (h : x + k ≤ l.length) (hj : j < l.length) :
    (insertN l x k)[j]? = if j < x then l[j]? else if j < x + k then some C.blank else l[j - k]? := by
  have e1 : (l.take x).length = x := by rw [List.length_take]; omega
  have e2 : ((l.drop x).take (l.length - (x + k))).length = l.length - (x + k) := by rw [List.length_take, List.length_drop]; omega
  have e3 : (splice (blanksF l.length) 0 (l.take x)).length = l.length := by rw [length_splice _ _ _ (by rw [blanksF_len]; omega), blanksF_len]
  unfold insertN
  rw [splice_at _ _ _ (by rw [e3, e2]; omega), splice_at _ _ _ (by rw [blanksF_len]; omega), e1, e2, blanksF_at _ _ hj]
  by_cases c1 : j < x
  · rw [if_pos (show j < x + k by omega), if_neg (by omega), if_pos (by omega), if_pos c1, Nat.sub_zero, List.getElem?_take_of_lt c1]
  · rw [if_neg c1]
    by_cases c2 : j < x + k
    · rw [if_pos c2, if_pos c2, if_neg (by omega), if_neg (by omega)]
    · rw [if_neg c2, if_neg c2, if_pos (by omega), List.getElem?_take_of_lt (by omega), List.getElem?_drop]
      congr 1
      omega
theorem deleteN_at (l : List C) (x k j : Nat) (h : x + k ≤ l.length) (hj : j < l.length) :
    (deleteN l x k)[j]? = if j < x then l[j]? else if j + k < l.length then l[j + k]? else some C.blank := by
  have e1 : (l.take x).length = x := by rw [List.length_take]; omega
  have e2 : ((l.drop (x + k)).take (l.length - x)).length = l.length - (x + k) := by rw [List.length_take, List.length_drop]; omega
  have e3 : (splice (blanksF l.length) 0 (l.take x)).length = l.length := by rw [length_splice _ _ _ (by rw [blanksF_len]; omega), blanksF_len]
  unfold deleteN
  rw [splice_at _ _ _ (by rw [e3, e2]; omega), splice_at _ _ _ (by rw [blanksF_len]; omega), e1, e2, blanksF_at _ _ hj]
  by_cases c1 : j < x
  · rw [if_pos c1, if_neg (by omega), if_pos (by omega), if_pos c1, Nat.sub_zero, List.getElem?_take_of_lt c1]
  · rw [if_neg c1, if_neg c1]
    by_cases c2 : j + k < l.length
    · rw [if_pos (by omega), if_pos c2, List.getElem?_take_of_lt (by omega), List.getElem?_drop]
      congr 1
      omega
    · rw [if_neg (by omega), if_neg c2, if_neg (by omega), if_neg (by omega)]

/-- Put in, and taken out again. -/
theorem both_at (l : List C) (x k j : Nat) (h : x + k ≤ l.length) (hj : j < l.length) :
    (deleteN (insertN l x k) x k)[j]? = if l.length - k ≤ j then some C.blank else l[j]? := by
  have e := insertN_len l x k h
  rw [deleteN_at _ x k j (by omega) (by omega), e]
  by_cases c1 : j < x
  · rw [if_pos c1, if_neg (by omega), insertN_at l x k j h hj, if_pos c1]
  · rw [if_neg c1]
    by_cases c2 : j + k < l.length
    · rw [if_pos c2, if_neg (by omega), insertN_at l x k (j + k) h c2, if_neg (by omega), if_neg (by omega), Nat.add_sub_cancel]
    · rw [if_neg c2, if_pos (by omega)]
end Go.Proofs.Ytpmioibgbknphaa
