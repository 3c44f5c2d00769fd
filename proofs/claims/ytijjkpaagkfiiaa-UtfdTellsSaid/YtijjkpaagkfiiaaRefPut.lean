/-
  What the document's own Put does: the same bytes as Put's.
-/
import Derived.Test.YtijjkpaagkfiiaaRef
namespace Go.Proofs.Ytijjkpaagkfiiaa
open Go.RowKit

def putN (n : Int) : List Int :=
  if n ≤ 127 then [n] else if n ≤ 2047 then [192 + n / 64, 128 + n % 64]
  else if n ≤ 65535 then [224 + n / 4096, 128 + n / 64 % 64, 128 + n % 64] else [240 + n / 262144, 128 + n / 4096 % 64, 128 + n / 64 % 64, 128 + n % 64]
theorem putB_N (r : Int) : putB r = putN (endR r 0) := by
  unfold putB endR
  by_cases c : r < 0 ∨ 1114111 < r ∨ (55296 ≤ r ∧ r ≤ 57343)
  · rw [if_pos c, if_pos c]
    decide
  · rw [if_neg c, if_neg c]
    rfl
theorem endR_lo (r : Int) : 0 ≤ endR r 0 ∧ endR r 0 ≤ 1114111 := by
  unfold endR
  split <;> omega
theorem bytes_lit (w : World) (bs : List Int) (n : Nat) (hn : bs.length = n) (h4 : n ≤ 4) : PutPost w bs (.returned (.slice (some ⟨w.heap.size, 0, none⟩) n n)) (w.alloc (.cells (u8s bs).toArray 5)) := by
  subst hn
  refine ⟨_, rfl, ?_, (Below.refl _ _).alloc (Nat.le_refl _) _⟩
  have := World.ownsRow_lit (base := w.heap.size) (e := 5) (size := 1) w (u8s bs).toArray bs.length (Nat.le_refl _) (by simp only [maxLen]; omega) (by simp [u8s])
  unfold Bytes
  simpa using this

theorem i64_and63 (n : Int) : bits .and .i64 n 63 = n % 64 := by
  have hm : (BitVec.ofInt 64 63).toNat = 2 ^ 6 - 1 := by decide
  have key : (BitVec.ofInt 64 n &&& BitVec.ofInt 64 63).toNat = (n % ((2 ^ 64 : Nat) : Int)).toNat % 2 ^ 6 := by
    rw [BitVec.toNat_and, BitVec.toNat_ofInt, hm, Nat.and_two_pow_sub_one_eq_mod]
  show IntKind.i64.wrap ((BitVec.ofInt 64 n &&& BitVec.ofInt 64 63).toNat : Nat) = n % 64
  rw [key, IntKind.wrap_i64]
  omega

set_option maxHeartbeats 400000 in
theorem refPut_n (r n : Int) (w : World) (r0 : -2147483648 ≤ r) (r1 : r ≤ 2147483647) (n0 : 0 ≤ n) (n1 : n ≤ 1114111)
    (h : ∀ w, Calls Try.prog 20 #[.int .i64 r, .int .i64 0] w fun e w' => e = .returned (.int .i32 n) ∧ w = w') : Calls Try.prog 14 #[.int .i32 r] w (PutPost w (putN n)) := by
  have H := Lib.hid h; clear h
  have a1 := i64_and63 n
  have a2 := i64_and63 (n / 64)
  have a3 := i64_and63 (n / 4096)
  by_cases c2 : n ≤ 127
  · rw [show putN n = [n] by unfold putN; rw [if_pos c2]]
    go_enter Try.func14, Try.ntmps14
    go_wp2_with (go_at_call 20; refine (H.out _).mono ?_; rintro e w' ⟨rfl, rfl⟩)
    go_ret
    exact bytes_lit w [n] 1 rfl (by omega)
  · by_cases c3 : n ≤ 2047
    · rw [show putN n = [192 + n / 64, 128 + n % 64] by unfold putN; rw [if_neg c2, if_pos c3]]
      go_enter Try.func14, Try.ntmps14
      go_wp2_with (go_at_call 20; refine (H.out _).mono ?_; rintro e w' ⟨rfl, rfl⟩)
      go_ret
      exact bytes_lit w [192 + n / 64, 128 + n % 64] 2 rfl (by omega)
    · by_cases c4 : n ≤ 65535
      · rw [show putN n = [224 + n / 4096, 128 + n / 64 % 64, 128 + n % 64] by unfold putN; rw [if_neg c2, if_neg c3, if_pos c4]]
        go_enter Try.func14, Try.ntmps14
        go_wp2_with (go_at_call 20; refine (H.out _).mono ?_; rintro e w' ⟨rfl, rfl⟩)
        go_ret
        exact bytes_lit w [224 + n / 4096, 128 + n / 64 % 64, 128 + n % 64] 3 rfl (by omega)
      · rw [show putN n = [240 + n / 262144, 128 + n / 4096 % 64, 128 + n / 64 % 64, 128 + n % 64] by unfold putN; rw [if_neg c2, if_neg c3, if_neg c4]]
        go_enter Try.func14, Try.ntmps14
        go_wp2_with (go_at_call 20; refine (H.out _).mono ?_; rintro e w' ⟨rfl, rfl⟩)
        go_ret
        exact bytes_lit w [240 + n / 262144, 128 + n / 4096 % 64, 128 + n / 64 % 64, 128 + n % 64] 4 rfl (by omega)

theorem refPut_any (r : Int) (w : World) (r0 : -2147483648 ≤ r) (r1 : r ≤ 2147483647) : Calls Try.prog 14 #[.int .i32 r] w (PutPost w (putB r)) := by
  rw [putB_N]
  exact refPut_n r (endR r 0) w r0 r1 (endR_lo r).1 (endR_lo r).2 fun w => rune1_any r 0 w (.inr (by decide))
end Go.Proofs.Ytijjkpaagkfiiaa
