/-
  The rows of bytes of the first statement, and what each comes to: told by the plain functions.
-/
import Derived.Test.YtijjkpaagkfiiaaFeed
namespace Go.Proofs.Ytijjkpaagkfiiaa
open Go.RowKit

theorem i64_and255 (n : Int) : bits .and .i64 n 255 = n % 256 := by
  have hm : (BitVec.ofInt 64 255).toNat = 2 ^ 8 - 1 := by decide
  have key : (BitVec.ofInt 64 n &&& BitVec.ofInt 64 255).toNat = (n % ((2 ^ 64 : Nat) : Int)).toNat % 2 ^ 8 := by
    rw [BitVec.toNat_and, BitVec.toNat_ofInt, hm, Nat.and_two_pow_sub_one_eq_mod]
  show IntKind.i64.wrap ((BitVec.ofInt 64 n &&& BitVec.ofInt 64 255).toNat : Nat) = n % 256
  rw [key, IntKind.wrap_i64]
  omega

/-- A string's bytes, as numbers. -/
def bytesOf (b : ByteArray) : List Int := b.data.toList.map fun c => (c.toNat : Int)
theorem bytesOf_len (b : ByteArray) : (bytesOf b).length = b.size := by simp [bytesOf]
theorem bytesOf_snoc (b : ByteArray) (k : Nat) (h : k < b.size) : (bytesOf b).take (k + 1) = (bytesOf b).take k ++ [(b[k].toNat : Int)] := by
  rw [List.take_succ_eq_append_getElem (by simpa [bytesOf] using h)]
  simp [bytesOf]
  rfl
/-- The bytes b are the text t. -/
def Good (b t : ByteArray) : Prop := b.size ≤ 4 ∧ runesBytes (feedR U.zero (bytesOf b) ++ enR (feedS U.zero (bytesOf b)).n) = t

def tab : List Value := [.string ⟨#[97]⟩, .string ⟨#[97]⟩, .string ⟨#[0]⟩, .string ⟨#[0]⟩, .string ⟨#[195, 169]⟩, .string ⟨#[195, 169]⟩, .string ⟨#[226, 130, 172]⟩, .string ⟨#[226, 130, 172]⟩, .string ⟨#[240, 159, 152, 128]⟩, .string ⟨#[240, 159, 152, 128]⟩, .string ⟨#[192, 128]⟩, .string ⟨#[239, 191, 189]⟩, .string ⟨#[193, 191]⟩, .string ⟨#[239, 191, 189]⟩, .string ⟨#[224, 128, 128]⟩, .string ⟨#[239, 191, 189]⟩, .string ⟨#[224, 159, 191]⟩, .string ⟨#[239, 191, 189]⟩, .string ⟨#[237, 160, 128]⟩, .string ⟨#[239, 191, 189]⟩, .string ⟨#[240, 128, 128, 128]⟩, .string ⟨#[239, 191, 189]⟩, .string ⟨#[244, 143, 191, 191]⟩, .string ⟨#[244, 143, 191, 191]⟩, .string ⟨#[244, 144, 128, 128]⟩, .string ⟨#[239, 191, 189]⟩, .string ⟨#[247, 191, 191, 191]⟩, .string ⟨#[239, 191, 189]⟩, .string ⟨#[248]⟩, .string ⟨#[239, 191, 189]⟩, .string ⟨#[255, 254]⟩, .string ⟨#[239, 191, 189, 239, 191, 189]⟩, .string ⟨#[128]⟩, .string ⟨#[239, 191, 189]⟩, .string ⟨#[195]⟩, .string ⟨#[239, 191, 189]⟩, .string ⟨#[195, 97]⟩, .string ⟨#[239, 191, 189, 97]⟩, .string ⟨#[226, 130]⟩, .string ⟨#[239, 191, 189]⟩, .string ⟨#[226, 130, 195, 169]⟩, .string ⟨#[239, 191, 189, 195, 169]⟩, .string ⟨#[226, 195, 169, 97]⟩, .string ⟨#[239, 191, 189, 195, 169, 97]⟩, .string ⟨#[239, 191, 189]⟩, .string ⟨#[239, 191, 189]⟩]

theorem tab_at : ∀ k : Nat, k < 23 → ∃ b t, tab[k * 2]? = some (.string b) ∧ tab[k * 2 + 1]? = some (.string t) ∧ Good b t
  | 0, _ => ⟨_, _, rfl, rfl, by decide +kernel, by decide +kernel⟩
  | 1, _ => ⟨_, _, rfl, rfl, by decide +kernel, by decide +kernel⟩
  | 2, _ => ⟨_, _, rfl, rfl, by decide +kernel, by decide +kernel⟩
  | 3, _ => ⟨_, _, rfl, rfl, by decide +kernel, by decide +kernel⟩
  | 4, _ => ⟨_, _, rfl, rfl, by decide +kernel, by decide +kernel⟩
  | 5, _ => ⟨_, _, rfl, rfl, by decide +kernel, by decide +kernel⟩
  | 6, _ => ⟨_, _, rfl, rfl, by decide +kernel, by decide +kernel⟩
  | 7, _ => ⟨_, _, rfl, rfl, by decide +kernel, by decide +kernel⟩
  | 8, _ => ⟨_, _, rfl, rfl, by decide +kernel, by decide +kernel⟩
  | 9, _ => ⟨_, _, rfl, rfl, by decide +kernel, by decide +kernel⟩
  | 10, _ => ⟨_, _, rfl, rfl, by decide +kernel, by decide +kernel⟩
  | 11, _ => ⟨_, _, rfl, rfl, by decide +kernel, by decide +kernel⟩
  | 12, _ => ⟨_, _, rfl, rfl, by decide +kernel, by decide +kernel⟩
  | 13, _ => ⟨_, _, rfl, rfl, by decide +kernel, by decide +kernel⟩
  | 14, _ => ⟨_, _, rfl, rfl, by decide +kernel, by decide +kernel⟩
  | 15, _ => ⟨_, _, rfl, rfl, by decide +kernel, by decide +kernel⟩
  | 16, _ => ⟨_, _, rfl, rfl, by decide +kernel, by decide +kernel⟩
  | 17, _ => ⟨_, _, rfl, rfl, by decide +kernel, by decide +kernel⟩
  | 18, _ => ⟨_, _, rfl, rfl, by decide +kernel, by decide +kernel⟩
  | 19, _ => ⟨_, _, rfl, rfl, by decide +kernel, by decide +kernel⟩
  | 20, _ => ⟨_, _, rfl, rfl, by decide +kernel, by decide +kernel⟩
  | 21, _ => ⟨_, _, rfl, rfl, by decide +kernel, by decide +kernel⟩
  | 22, _ => ⟨_, _, rfl, rfl, by decide +kernel, by decide +kernel⟩
  | k + 23, h => absurd h (by omega)
end Go.Proofs.Ytijjkpaagkfiiaa
