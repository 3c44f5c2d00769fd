/-
  A string's bytes as a slice; a number's lowest bits. Conditions: the masks are one less than a power of two.
-/
import Derived.Test.YtgpjphecgcfikaaTab
namespace Go.Proofs.Ytgpjphecgcfikaa
open Go.RowKit

theorem i64_and255 (n : Int) : bits .and .i64 n 255 = n % 256 := by
  have hm : (BitVec.ofInt 64 255).toNat = 2 ^ 8 - 1 := by decide
  have key : (BitVec.ofInt 64 n &&& BitVec.ofInt 64 255).toNat = (n % ((2 ^ 64 : Nat) : Int)).toNat % 2 ^ 8 := by
    rw [BitVec.toNat_and, BitVec.toNat_ofInt, hm, Nat.and_two_pow_sub_one_eq_mod]
  show IntKind.i64.wrap ((BitVec.ofInt 64 n &&& BitVec.ofInt 64 255).toNat : Nat) = n % 256
  rw [key, IntKind.wrap_i64]
  omega
theorem i64_and65535 (n : Int) : bits .and .i64 n 65535 = n % 65536 := by
  have hm : (BitVec.ofInt 64 65535).toNat = 2 ^ 16 - 1 := by decide
  have key : (BitVec.ofInt 64 n &&& BitVec.ofInt 64 65535).toNat = (n % ((2 ^ 64 : Nat) : Int)).toNat % 2 ^ 16 := by
    rw [BitVec.toNat_and, BitVec.toNat_ofInt, hm, Nat.and_two_pow_sub_one_eq_mod]
  show IntKind.i64.wrap ((BitVec.ofInt 64 n &&& BitVec.ofInt 64 65535).toNat : Nat) = n % 65536
  rw [key, IntKind.wrap_i64]
  omega
theorem i64_and31 (n : Int) : bits .and .i64 n 31 = n % 32 := by
  have hm : (BitVec.ofInt 64 31).toNat = 2 ^ 5 - 1 := by decide
  have key : (BitVec.ofInt 64 n &&& BitVec.ofInt 64 31).toNat = (n % ((2 ^ 64 : Nat) : Int)).toNat % 2 ^ 5 := by
    rw [BitVec.toNat_and, BitVec.toNat_ofInt, hm, Nat.and_two_pow_sub_one_eq_mod]
  show IntKind.i64.wrap ((BitVec.ofInt 64 n &&& BitVec.ofInt 64 31).toNat : Nat) = n % 32
  rw [key, IntKind.wrap_i64]
  omega
theorem i64_and7 (n : Int) : bits .and .i64 n 7 = n % 8 := by
  have hm : (BitVec.ofInt 64 7).toNat = 2 ^ 3 - 1 := by decide
  have key : (BitVec.ofInt 64 n &&& BitVec.ofInt 64 7).toNat = (n % ((2 ^ 64 : Nat) : Int)).toNat % 2 ^ 3 := by
    rw [BitVec.toNat_and, BitVec.toNat_ofInt, hm, Nat.and_two_pow_sub_one_eq_mod]
  show IntKind.i64.wrap ((BitVec.ofInt 64 n &&& BitVec.ofInt 64 7).toNat : Nat) = n % 8
  rw [key, IntKind.wrap_i64]
  omega
theorem i64_and20 (n : Int) : bits .and .i64 n 1048575 = n % 1048576 := by
  have hm : (BitVec.ofInt 64 1048575).toNat = 2 ^ 20 - 1 := by decide
  have key : (BitVec.ofInt 64 n &&& BitVec.ofInt 64 1048575).toNat = (n % ((2 ^ 64 : Nat) : Int)).toNat % 2 ^ 20 := by
    rw [BitVec.toNat_and, BitVec.toNat_ofInt, hm, Nat.and_two_pow_sub_one_eq_mod]
  show IntKind.i64.wrap ((BitVec.ofInt 64 n &&& BitVec.ofInt 64 1048575).toNat : Nat) = n % 1048576
  rw [key, IntKind.wrap_i64]
  omega

theorem bytesOf_len (b : ByteArray) : (bytesOf b).length = b.size := by simp [bytesOf]
theorem bytesOf_ok (b : ByteArray) : ∀ z ∈ bytesOf b, 0 ≤ z ∧ z ≤ 255 := by
  intro z hz
  simp only [bytesOf, List.mem_map] at hz
  obtain ⟨c, _, rfl⟩ := hz
  exact ⟨Int.natCast_nonneg _, u8_le c⟩
theorem bytesRow_at (b : ByteArray) (cap k : Nat) (z : Int) (h : (bytesOf b)[k]? = some z) : (bytesRow b cap)[k]? = some (Value.int .u8 z) ∧ 0 ≤ z ∧ z ≤ 255 := by
  refine ⟨?_, bytesOf_ok b z (List.mem_of_getElem? h)⟩
  have hk : k < b.data.size := by
    have := (List.getElem?_eq_some_iff.1 h).1
    simpa [bytesOf] using this
  unfold bytesRow
  rw [Array.getElem?_append_left (by simpa using hk)]
  simp only [bytesOf, List.getElem?_map, Array.getElem?_toList] at h
  rw [Array.getElem?_map]
  cases hh : b.data[k]? with
  | none => simp [hh] at h
  | some c => simp [hh] at h ⊢; exact h

/-- '[]byte(s)': a new row that reads as the string's bytes. -/
theorem conv_bytes (w : World) (b : ByteArray) : ∃ cap w', (convert 9 36 (.string b)).run Try.prog w = .ok (.slice (some ⟨w.heap.size, 0, none⟩) b.size cap) w' ∧ ReadB w' (.slice (some ⟨w.heap.size, 0, none⟩) b.size cap) (bytesOf b) ∧ Below w.heap.size w w' := by
  refine ⟨_, _, run_bytes_of_string w 9 36 5 b Try.underlying9 Try.underlying36 Try.underlying5, ?_, (Below.refl _ w).drew.alloc (Nat.le_refl _) _⟩
  exact readB_new w.drew (bytesOf b) _ _ _ _ (bytesOf_len b) (bytesRow_at b _)
end Go.Proofs.Ytgpjphecgcfikaa
