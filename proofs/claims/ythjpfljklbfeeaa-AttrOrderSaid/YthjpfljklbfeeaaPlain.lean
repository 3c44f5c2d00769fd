/-
  How signs look, as plain functions of numbers: what an attribute is made of, what its parts are, what a parameter turns. Conditions: none.
-/
import Derived.Laws.BitsLemmas
namespace Go.Proofs.Ythjpfljklbfeeaa

/-- An attribute, taken apart. -/
structure L where
  b : Bool
  u : Bool
  t : Bool
  f : Int
  k : Int

def L.zero : L := ⟨false, false, false, 0, 0⟩
def L.Ok (l : L) : Prop := 0 ≤ l.f ∧ l.f ≤ 8 ∧ 0 ≤ l.k ∧ l.k ≤ 8
theorem L.zero_ok : L.zero.Ok := ⟨by decide, by decide, by decide, by decide⟩

def colF (c : Int) : Int := if c < 0 then 0 else if 8 < c then 8 else c
theorem colF_lo (c : Int) : 0 ≤ colF c := by unfold colF; repeat' split
                                             all_goals omega
theorem colF_hi (c : Int) : colF c ≤ 8 := by unfold colF; repeat' split
                                             all_goals omega
theorem colF_id (c : Int) (h0 : 0 ≤ c) (h1 : c ≤ 8) : colF c = c := by unfold colF; rw [if_neg (by omega), if_neg (by omega)]

def bitN (n : Int) (b : Bool) : Int := match b with | true => n | false => 0
def makeF (l : L) : Int := 16 * colF l.f + 256 * colF l.k + bitN 1 l.b + bitN 2 l.u + bitN 4 l.t
def partsF (a : Int) : L := ⟨decide (a % 2 ≠ 0), decide (a / 2 % 2 ≠ 0), decide (a / 4 % 2 ≠ 0), colF (a / 16 % 16), colF (a / 256 % 16)⟩
def behindF (l : L) (p : Int) : L :=
  if p = -1 ∨ p = 0 then L.zero
  else if p = 1 then ⟨true, l.u, l.t, l.f, l.k⟩
  else if p = 22 then ⟨false, l.u, l.t, l.f, l.k⟩
  else if p = 4 then ⟨l.b, true, l.t, l.f, l.k⟩
  else if p = 24 then ⟨l.b, false, l.t, l.f, l.k⟩
  else if p = 7 then ⟨l.b, l.u, true, l.f, l.k⟩
  else if p = 27 then ⟨l.b, l.u, false, l.f, l.k⟩
  else if 30 ≤ p ∧ p ≤ 37 then ⟨l.b, l.u, l.t, p - 29, l.k⟩
  else if p = 39 then ⟨l.b, l.u, l.t, 0, l.k⟩
  else if 40 ≤ p ∧ p ≤ 47 then ⟨l.b, l.u, l.t, l.f, p - 39⟩
  else if p = 49 then ⟨l.b, l.u, l.t, l.f, 0⟩
  else l
def lookF (l : L) (ps : List Int) : L := ps.foldl behindF l
def applyF (a : Int) (ps : List Int) : Int := match ps with | [] => 0 | _ => makeF (lookF (partsF a) ps)

theorem applyF_cons (a p : Int) (ps : List Int) : applyF a (p :: ps) = makeF (lookF (partsF a) (p :: ps)) := rfl
theorem lookF_app (l : L) (xs ys : List Int) : lookF l (xs ++ ys) = lookF (lookF l xs) ys := List.foldl_append
theorem lookF_one (l : L) (x : Int) : lookF l [x] = behindF l x := rfl

theorem partsF_ok (a : Int) : (partsF a).Ok := ⟨colF_lo _, colF_hi _, colF_lo _, colF_hi _⟩
theorem behindF_ok (l : L) (p : Int) (h : l.Ok) : (behindF l p).Ok := by
  obtain ⟨h0, h1, h2, h3⟩ := h
  unfold behindF
  repeat' split
  all_goals first | exact L.zero_ok | exact ⟨h0, h1, h2, h3⟩ | (refine ⟨?_, ?_, ?_, ?_⟩ <;> dsimp only <;> omega)
theorem lookF_ok (l : L) (ps : List Int) (h : l.Ok) : (lookF l ps).Ok := by
  induction ps generalizing l with
  | nil => exact h
  | cons p ps ih => exact ih _ (behindF_ok l p h)

theorem bitN_cases (n : Int) (b : Bool) : (b = true ∧ bitN n b = n) ∨ (b = false ∧ bitN n b = 0) := by cases b <;> simp [bitN]

theorem partsF_makeF (l : L) (h : l.Ok) : partsF (makeF l) = l := by
  obtain ⟨b, u, t, f, k⟩ := l
  obtain ⟨h0, h1, h2, h3⟩ := h
  dsimp only at h0 h1 h2 h3
  unfold partsF makeF
  dsimp only
  rw [colF_id f h0 h1, colF_id k h2 h3]
  have ef : (16 * f + 256 * k + bitN 1 b + bitN 2 u + bitN 4 t) / 16 % 16 = f := by
    rcases bitN_cases 1 b with ⟨_, e1⟩ | ⟨_, e1⟩ <;> rcases bitN_cases 2 u with ⟨_, e2⟩ | ⟨_, e2⟩ <;> rcases bitN_cases 4 t with ⟨_, e3⟩ | ⟨_, e3⟩ <;> rw [e1, e2, e3] <;> omega
  have ek : (16 * f + 256 * k + bitN 1 b + bitN 2 u + bitN 4 t) / 256 % 16 = k := by
    rcases bitN_cases 1 b with ⟨_, e1⟩ | ⟨_, e1⟩ <;> rcases bitN_cases 2 u with ⟨_, e2⟩ | ⟨_, e2⟩ <;> rcases bitN_cases 4 t with ⟨_, e3⟩ | ⟨_, e3⟩ <;> rw [e1, e2, e3] <;> omega
  have eb : decide ((16 * f + 256 * k + bitN 1 b + bitN 2 u + bitN 4 t) % 2 ≠ 0) = b := by
    rcases bitN_cases 1 b with ⟨e0, e1⟩ | ⟨e0, e1⟩ <;> rcases bitN_cases 2 u with ⟨_, e2⟩ | ⟨_, e2⟩ <;> rcases bitN_cases 4 t with ⟨_, e3⟩ | ⟨_, e3⟩ <;> rw [e1, e2, e3, e0] <;> simp <;> omega
  have eu : decide ((16 * f + 256 * k + bitN 1 b + bitN 2 u + bitN 4 t) / 2 % 2 ≠ 0) = u := by
    rcases bitN_cases 1 b with ⟨e0, e1⟩ | ⟨e0, e1⟩ <;> rcases bitN_cases 2 u with ⟨e4, e2⟩ | ⟨e4, e2⟩ <;> rcases bitN_cases 4 t with ⟨_, e3⟩ | ⟨_, e3⟩ <;> rw [e1, e2, e3, e4] <;> simp <;> omega
  have et : decide ((16 * f + 256 * k + bitN 1 b + bitN 2 u + bitN 4 t) / 4 % 2 ≠ 0) = t := by
    rcases bitN_cases 1 b with ⟨e0, e1⟩ | ⟨e0, e1⟩ <;> rcases bitN_cases 2 u with ⟨e4, e2⟩ | ⟨e4, e2⟩ <;> rcases bitN_cases 4 t with ⟨e5, e3⟩ | ⟨e5, e3⟩ <;> rw [e1, e2, e3, e5] <;> simp <;> omega
  rw [ef, ek, eb, eu, et, colF_id f h0 h1, colF_id k h2 h3]

theorem makeF_lo (l : L) : 0 ≤ makeF l := by
  have h1 := colF_lo l.f
  have h2 := colF_lo l.k
  unfold makeF
  rcases bitN_cases 1 l.b with ⟨_, e1⟩ | ⟨_, e1⟩ <;> rcases bitN_cases 2 l.u with ⟨_, e2⟩ | ⟨_, e2⟩ <;> rcases bitN_cases 4 l.t with ⟨_, e3⟩ | ⟨_, e3⟩ <;> rw [e1, e2, e3] <;> omega
theorem makeF_hi (l : L) : makeF l < 4096 := by
  have h1 := colF_hi l.f
  have h2 := colF_hi l.k
  unfold makeF
  rcases bitN_cases 1 l.b with ⟨_, e1⟩ | ⟨_, e1⟩ <;> rcases bitN_cases 2 l.u with ⟨_, e2⟩ | ⟨_, e2⟩ <;> rcases bitN_cases 4 l.t with ⟨_, e3⟩ | ⟨_, e3⟩ <;> rw [e1, e2, e3] <;> omega

/-! ### masks -/
theorem and_low (n : Int) (m : Nat) (i : Nat) (hm : (BitVec.ofInt 64 (m : Int)).toNat = 2 ^ i - 1) (hi : i ≤ 20) : bits .and .i64 n m = n % ((2 ^ i : Nat) : Int) := by
  have key : (BitVec.ofInt 64 n &&& BitVec.ofInt 64 (m : Int)).toNat = (n % ((2 ^ 64 : Nat) : Int)).toNat % 2 ^ i := by
    rw [BitVec.toNat_and, BitVec.toNat_ofInt, hm, Nat.and_two_pow_sub_one_eq_mod]
  show IntKind.i64.wrap ((BitVec.ofInt 64 n &&& BitVec.ofInt 64 (m : Int)).toNat : Nat) = _
  rw [key, IntKind.wrap_i64]
  have h : i = 0 ∨ i = 1 ∨ i = 2 ∨ i = 3 ∨ i = 4 ∨ i = 5 ∨ i = 6 ∨ i = 7 ∨ i = 8 ∨ i = 9 ∨ i = 10 ∨ i = 11 ∨ i = 12 ∨ i = 13 ∨ i = 14 ∨ i = 15 ∨ i = 16 ∨ i = 17 ∨ i = 18 ∨ i = 19 ∨ i = 20 := by omega
  rcases h with rfl | rfl | rfl | rfl | rfl | rfl | rfl | rfl | rfl | rfl | rfl | rfl | rfl | rfl | rfl | rfl | rfl | rfl | rfl | rfl | rfl <;> simp only [Nat.reducePow] <;> omega
/-- A mask of s bits, i places up. -/
theorem and_mid (x i s : Nat) : x &&& ((2 ^ s - 1) * 2 ^ i) = (x / 2 ^ i % 2 ^ s) * 2 ^ i := by
  apply Nat.eq_of_testBit_eq
  intro j
  rw [Nat.testBit_and, Nat.testBit_mul_two_pow, Nat.testBit_mul_two_pow, Nat.testBit_two_pow_sub_one, Nat.testBit_mod_two_pow, Nat.testBit_div_two_pow]
  by_cases h : i ≤ j
  · by_cases h2 : j - i < s
    · simp [h, h2, Nat.sub_add_cancel h]
    · simp [h, h2]
  · simp [h]
theorem i64_mid (n : Int) (m i s : Nat) (hm : (BitVec.ofInt 64 (m : Int)).toNat = (2 ^ s - 1) * 2 ^ i) : bits .and .i64 n m = IntKind.i64.wrap (((n % ((2 ^ 64 : Nat) : Int)).toNat / 2 ^ i % 2 ^ s * 2 ^ i : Nat) : Int) := by
  have key : (BitVec.ofInt 64 n &&& BitVec.ofInt 64 (m : Int)).toNat = (n % ((2 ^ 64 : Nat) : Int)).toNat / 2 ^ i % 2 ^ s * 2 ^ i := by
    rw [BitVec.toNat_and, BitVec.toNat_ofInt, hm, and_mid]
  show IntKind.i64.wrap ((BitVec.ofInt 64 n &&& BitVec.ofInt 64 (m : Int)).toNat : Nat) = _
  rw [key]

theorem i64_and1 (n : Int) : bits .and .i64 n 1 = n % 2 := and_low n 1 1 (by decide) (by decide)
theorem i64_and7 (n : Int) : bits .and .i64 n 7 = n % 8 := and_low n 7 3 (by decide) (by decide)
theorem i64_and255 (n : Int) : bits .and .i64 n 255 = n % 256 := and_low n 255 8 (by decide) (by decide)
theorem i64_and2 (n : Int) : bits .and .i64 n 2 = n / 2 % 2 * 2 := by
  refine (i64_mid n 2 1 1 (by decide)).trans ?_
  rw [IntKind.wrap_i64]; omega
theorem i64_and4 (n : Int) : bits .and .i64 n 4 = n / 4 % 2 * 4 := by
  refine (i64_mid n 4 2 1 (by decide)).trans ?_
  rw [IntKind.wrap_i64]; omega
theorem i64_and240 (n : Int) : bits .and .i64 n 240 = n / 16 % 16 * 16 := by
  refine (i64_mid n 240 4 4 (by decide)).trans ?_
  rw [IntKind.wrap_i64]; omega
theorem i64_and3840 (n : Int) : bits .and .i64 n 3840 = n / 256 % 16 * 256 := by
  refine (i64_mid n 3840 8 4 (by decide)).trans ?_
  rw [IntKind.wrap_i64]; omega
end Go.Proofs.Ythjpfljklbfeeaa
