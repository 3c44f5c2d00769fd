/-
  Package attr: what its calls make as plain functions, and what they answer (taken over from the proofs of layer 3). Conditions: at most a million parameters.
-/
import Derived.Test.YtpcpmeihebgncaaB2
import Derived.Laws.BitsLemmas
import Derived.Lib.Hide
import Derived.WalkKit
import Derived.WalkLawsBesides
import Derived.WalkSpells
import Derived.Test.YtpcpmeihebgncaaB4
namespace Go.Proofs.Ytpcpmeihebgncaa.Attr
open Go.RowKit
set_option maxRecDepth 100000


/-- An attribute, taken apart. -/
structure L where
  b : Bool
  u : Bool
  t : Bool
  f : Int
  k : Int

def L.zero : L := ⟨false, false, false, 0, 0⟩
def L.Ok (l : L) : Prop := 0 ≤ l.f ∧ l.f ≤ 8 ∧ 0 ≤ l.k ∧ l.k ≤ 8
theorem L.zero_ok : L.zero.Ok := ⟨by decide, by decide, by decide, by decide⟩

def colF (c : Int) : Int := if c < 0 then 0 else if 8 < c then 8 else c
theorem colF_lo (c : Int) : 0 ≤ colF c := by unfold colF; repeat' split
                                             all_goals omega
theorem colF_hi (c : Int) : colF c ≤ 8 := by unfold colF; repeat' split
                                             all_goals omega
theorem colF_id (c : Int) (h0 : 0 ≤ c) (h1 : c ≤ 8) : colF c = c := by unfold colF; rw [if_neg (by omega), if_neg (by omega)]

def bitN (n : Int) (b : Bool) : Int := match b with | true => n | false => 0
def makeF (l : L) : Int := 16 * colF l.f + 256 * colF l.k + bitN 1 l.b + bitN 2 l.u + bitN 4 l.t
def partsF (a : Int) : L := ⟨decide (a % 2 ≠ 0), decide (a / 2 % 2 ≠ 0), decide (a / 4 % 2 ≠ 0), colF (a / 16 % 16), colF (a / 256 % 16)⟩
def behindF (l : L) (p : Int) : L :=
  if p = -1 ∨ p = 0 then L.zero
  else if p = 1 then ⟨true, l.u, l.t, l.f, l.k⟩
  else if p = 22 then ⟨false, l.u, l.t, l.f, l.k⟩
  else if p = 4 then ⟨l.b, true, l.t, l.f, l.k⟩
  else if p = 24 then ⟨l.b, false, l.t, l.f, l.k⟩
  else if p = 7 then ⟨l.b, l.u, true, l.f, l.k⟩
  else if p = 27 then ⟨l.b, l.u, false, l.f, l.k⟩
  else if 30 ≤ p ∧ p ≤ 37 then ⟨l.b, l.u, l.t, p - 29, l.k⟩
  else if p = 39 then ⟨l.b, l.u, l.t, 0, l.k⟩
  else if 40 ≤ p ∧ p ≤ 47 then ⟨l.b, l.u, l.t, l.f, p - 39⟩
  else if p = 49 then ⟨l.b, l.u, l.t, l.f, 0⟩
  else l
def lookF (l : L) (ps : List Int) : L := ps.foldl behindF l
def applyF (a : Int) (ps : List Int) : Int := match ps with | [] => 0 | _ => makeF (lookF (partsF a) ps)

theorem applyF_cons (a p : Int) (ps : List Int) : applyF a (p :: ps) = makeF (lookF (partsF a) (p :: ps)) := rfl
theorem lookF_app (l : L) (xs ys : List Int) : lookF l (xs ++ ys) = lookF (lookF l xs) ys := List.foldl_append
theorem lookF_one (l : L) (x : Int) : lookF l [x] = behindF l x := rfl

theorem partsF_ok (a : Int) : (partsF a).Ok := ⟨colF_lo _, colF_hi _, colF_lo _, colF_hi _⟩
theorem behindF_ok (l : L) (p : Int) (h : l.Ok) : (behindF l p).Ok := by
  obtain ⟨h0, h1, h2, h3⟩ := h
  unfold behindF
  repeat' split
  all_goals first | exact L.zero_ok | exact ⟨h0, h1, h2, h3⟩ | (refine ⟨?_, ?_, ?_, ?_⟩ <;> dsimp only <;> omega)
theorem lookF_ok (l : L) (ps : List Int) (h : l.Ok) : (lookF l ps).Ok := by
  induction ps generalizing l with
  | nil => exact h
  | cons p ps ih => exact ih _ (behindF_ok l p h)

theorem bitN_cases (n : Int) (b : Bool) : (b = true ∧ bitN n b = n) ∨ (b = false ∧ bitN n b = 0) := by cases b <;> simp [bitN]

theorem partsF_makeF (l : L) (h : l.Ok) : partsF (makeF l) = l := by
  obtain ⟨b, u, t, f, k⟩ := l
  obtain ⟨h0, h1, h2, h3⟩ := h
  dsimp only at h0 h1 h2 h3
  unfold partsF makeF
  dsimp only
  rw [colF_id f h0 h1, colF_id k h2 h3]
  have ef : (16 * f + 256 * k + bitN 1 b + bitN 2 u + bitN 4 t) / 16 % 16 = f := by
    rcases bitN_cases 1 b with ⟨_, e1⟩ | ⟨_, e1⟩ <;> rcases bitN_cases 2 u with ⟨_, e2⟩ | ⟨_, e2⟩ <;> rcases bitN_cases 4 t with ⟨_, e3⟩ | ⟨_, e3⟩ <;> rw [e1, e2, e3] <;> omega
  have ek : (16 * f + 256 * k + bitN 1 b + bitN 2 u + bitN 4 t) / 256 % 16 = k := by
    rcases bitN_cases 1 b with ⟨_, e1⟩ | ⟨_, e1⟩ <;> rcases bitN_cases 2 u with ⟨_, e2⟩ | ⟨_, e2⟩ <;> rcases bitN_cases 4 t with ⟨_, e3⟩ | ⟨_, e3⟩ <;> rw [e1, e2, e3] <;> omega
  have eb : decide ((16 * f + 256 * k + bitN 1 b + bitN 2 u + bitN 4 t) % 2 ≠ 0) = b := by
    rcases bitN_cases 1 b with ⟨e0, e1⟩ | ⟨e0, e1⟩ <;> rcases bitN_cases 2 u with ⟨_, e2⟩ | ⟨_, e2⟩ <;> rcases bitN_cases 4 t with ⟨_, e3⟩ | ⟨_, e3⟩ <;> rw [e1, e2, e3, e0] <;> simp <;> omega
  have eu : decide ((16 * f + 256 * k + bitN 1 b + bitN 2 u + bitN 4 t) / 2 % 2 ≠ 0) = u := by
    rcases bitN_cases 1 b with ⟨e0, e1⟩ | ⟨e0, e1⟩ <;> rcases bitN_cases 2 u with ⟨e4, e2⟩ | ⟨e4, e2⟩ <;> rcases bitN_cases 4 t with ⟨_, e3⟩ | ⟨_, e3⟩ <;> rw [e1, e2, e3, e4] <;> simp <;> omega
  have et : decide ((16 * f + 256 * k + bitN 1 b + bitN 2 u + bitN 4 t) / 4 % 2 ≠ 0) = t := by
    rcases bitN_cases 1 b with ⟨e0, e1⟩ | ⟨e0, e1⟩ <;> rcases bitN_cases 2 u with ⟨e4, e2⟩ | ⟨e4, e2⟩ <;> rcases bitN_cases 4 t with ⟨e5, e3⟩ | ⟨e5, e3⟩ <;> rw [e1, e2, e3, e5] <;> simp <;> omega
  rw [ef, ek, eb, eu, et, colF_id f h0 h1, colF_id k h2 h3]

theorem makeF_lo (l : L) : 0 ≤ makeF l := by
  have h1 := colF_lo l.f
  have h2 := colF_lo l.k
  unfold makeF
  rcases bitN_cases 1 l.b with ⟨_, e1⟩ | ⟨_, e1⟩ <;> rcases bitN_cases 2 l.u with ⟨_, e2⟩ | ⟨_, e2⟩ <;> rcases bitN_cases 4 l.t with ⟨_, e3⟩ | ⟨_, e3⟩ <;> rw [e1, e2, e3] <;> omega
theorem makeF_hi (l : L) : makeF l < 4096 := by
  have h1 := colF_hi l.f
  have h2 := colF_hi l.k
  unfold makeF
  rcases bitN_cases 1 l.b with ⟨_, e1⟩ | ⟨_, e1⟩ <;> rcases bitN_cases 2 l.u with ⟨_, e2⟩ | ⟨_, e2⟩ <;> rcases bitN_cases 4 l.t with ⟨_, e3⟩ | ⟨_, e3⟩ <;> rw [e1, e2, e3] <;> omega

/-! ### masks -/
theorem and_low (n : Int) (m : Nat) (i : Nat) (hm : (BitVec.ofInt 64 (m : Int)).toNat = 2 ^ i - 1) (hi : i ≤ 20) : bits .and .i64 n m = n % ((2 ^ i : Nat) : Int) := by
  have key : (BitVec.ofInt 64 n &&& BitVec.ofInt 64 (m : Int)).toNat = (n % ((2 ^ 64 : Nat) : Int)).toNat % 2 ^ i := by
    rw [BitVec.toNat_and, BitVec.toNat_ofInt, hm, Nat.and_two_pow_sub_one_eq_mod]
  show IntKind.i64.wrap ((BitVec.ofInt 64 n &&& BitVec.ofInt 64 (m : Int)).toNat : Nat) = _
  rw [key, IntKind.wrap_i64]
  have h : i = 0 ∨ i = 1 ∨ i = 2 ∨ i = 3 ∨ i = 4 ∨ i = 5 ∨ i = 6 ∨ i = 7 ∨ i = 8 ∨ i = 9 ∨ i = 10 ∨ i = 11 ∨ i = 12 ∨ i = 13 ∨ i = 14 ∨ i = 15 ∨ i = 16 ∨ i = 17 ∨ i = 18 ∨ i = 19 ∨ i = 20 := by omega
  rcases h with rfl | rfl | rfl | rfl | rfl | rfl | rfl | rfl | rfl | rfl | rfl | rfl | rfl | rfl | rfl | rfl | rfl | rfl | rfl | rfl | rfl <;> simp only [Nat.reducePow] <;> omega
/-- A mask of s bits, i places up. -/
theorem and_mid (x i s : Nat) : x &&& ((2 ^ s - 1) * 2 ^ i) = (x / 2 ^ i % 2 ^ s) * 2 ^ i := by
  apply Nat.eq_of_testBit_eq
  intro j
  rw [Nat.testBit_and, Nat.testBit_mul_two_pow, Nat.testBit_mul_two_pow, Nat.testBit_two_pow_sub_one, Nat.testBit_mod_two_pow, Nat.testBit_div_two_pow]
  by_cases h : i ≤ j
  · by_cases h2 : j - i < s
    · simp [h, h2, Nat.sub_add_cancel h]
    · simp [h, h2]
  · simp [h]
theorem i64_mid (n : Int) (m i s : Nat) (hm : (BitVec.ofInt 64 (m : Int)).toNat = (2 ^ s - 1) * 2 ^ i) : bits .and .i64 n m = IntKind.i64.wrap (((n % ((2 ^ 64 : Nat) : Int)).toNat / 2 ^ i % 2 ^ s * 2 ^ i : Nat) : Int) := by
  have key : (BitVec.ofInt 64 n &&& BitVec.ofInt 64 (m : Int)).toNat = (n % ((2 ^ 64 : Nat) : Int)).toNat / 2 ^ i % 2 ^ s * 2 ^ i := by
    rw [BitVec.toNat_and, BitVec.toNat_ofInt, hm, and_mid]
  show IntKind.i64.wrap ((BitVec.ofInt 64 n &&& BitVec.ofInt 64 (m : Int)).toNat : Nat) = _
  rw [key]

theorem i64_and1 (n : Int) : bits .and .i64 n 1 = n % 2 := and_low n 1 1 (by decide) (by decide)
theorem i64_and7 (n : Int) : bits .and .i64 n 7 = n % 8 := and_low n 7 3 (by decide) (by decide)
theorem i64_and255 (n : Int) : bits .and .i64 n 255 = n % 256 := and_low n 255 8 (by decide) (by decide)
theorem i64_and2 (n : Int) : bits .and .i64 n 2 = n / 2 % 2 * 2 := by
  refine (i64_mid n 2 1 1 (by decide)).trans ?_
  rw [IntKind.wrap_i64]; omega
theorem i64_and4 (n : Int) : bits .and .i64 n 4 = n / 4 % 2 * 4 := by
  refine (i64_mid n 4 2 1 (by decide)).trans ?_
  rw [IntKind.wrap_i64]; omega
theorem i64_and240 (n : Int) : bits .and .i64 n 240 = n / 16 % 16 * 16 := by
  refine (i64_mid n 240 4 4 (by decide)).trans ?_
  rw [IntKind.wrap_i64]; omega
theorem i64_and3840 (n : Int) : bits .and .i64 n 3840 = n / 256 % 16 * 256 := by
  refine (i64_mid n 3840 8 4 (by decide)).trans ?_
  rw [IntKind.wrap_i64]; omega


theorem ret_i {a b : Int} (h : a = b) : Ending.returned (.int .i64 a) = .returned (.int .i64 b) := by rw [h]

set_option maxHeartbeats 400000 in
theorem colour_any (c : Int) (w : World) : Calls Try.prog 137 #[.int .i64 c] w fun e w' => e = .returned (.int .i64 (colF c)) ∧ w = w' := by
  by_cases h0 : c < 0
  · rw [show colF c = 0 by unfold colF; rw [if_pos h0]]
    have h1 : ¬ 8 < c := by omega
    go_enter Try.func137, Try.ntmps137
    go_wp2
    go_ret
    exact ⟨rfl, rfl⟩
  · by_cases h1 : 8 < c
    · rw [show colF c = 8 by unfold colF; rw [if_neg h0, if_pos h1]]
      go_enter Try.func137, Try.ntmps137
      go_wp2
      go_ret
      exact ⟨rfl, rfl⟩
    · rw [show colF c = c by unfold colF; rw [if_neg h0, if_neg h1]]
      go_enter Try.func137, Try.ntmps137
      go_wp2
      · go_ret
        exact ⟨rfl, rfl⟩
      · go_ret
        exact ⟨ret_i (by omega), rfl⟩

set_option maxHeartbeats 400000 in
theorem at16 (a : Int) (w : World) : Calls Try.prog 153 #[.int .i64 a, .int .i64 16] w fun e w' => e = .returned (.int .i64 (colF (a / 16 % 16))) ∧ w = w' := by
  have hm := i64_and240 a
  obtain ⟨q, hq, q0, q1⟩ : ∃ q : Int, q = a / 16 % 16 ∧ 0 ≤ q ∧ q ≤ 15 := ⟨_, rfl, by omega, by omega⟩
  rw [← hq] at hm ⊢
  clear hq
  go_enter Try.func153, Try.ntmps153
  go_wp2_with (go_at_call 137; refine (colour_any _ _).mono ?_; rintro e w' ⟨rfl, rfl⟩)
  go_ret
  exact ⟨rfl, rfl⟩
set_option maxHeartbeats 400000 in
theorem at256 (a : Int) (w : World) : Calls Try.prog 153 #[.int .i64 a, .int .i64 256] w fun e w' => e = .returned (.int .i64 (colF (a / 256 % 16))) ∧ w = w' := by
  have hm := i64_and3840 a
  obtain ⟨q, hq, q0, q1⟩ : ∃ q : Int, q = a / 256 % 16 ∧ 0 ≤ q ∧ q ≤ 15 := ⟨_, rfl, by omega, by omega⟩
  rw [← hq] at hm ⊢
  clear hq
  go_enter Try.func153, Try.ntmps153
  go_wp2_with (go_at_call 137; refine (colour_any _ _).mono ?_; rintro e w' ⟨rfl, rfl⟩)
  go_ret
  exact ⟨rfl, rfl⟩

set_option maxHeartbeats 400000 in
theorem make_any (b u t : Bool) (f k : Int) (w : World) : Calls Try.prog 103 #[.bool b, .bool u, .bool t, .int .i64 f, .int .i64 k] w fun e w' => e = .returned (.int .i64 (makeF ⟨b, u, t, f, k⟩)) ∧ w = w' := by
  have f0 := colF_lo f
  have f1 := colF_hi f
  have k0 := colF_lo k
  have k1 := colF_hi k
  unfold makeF
  dsimp only
  cases b <;> cases u <;> cases t
  all_goals
    go_enter Try.func103, Try.ntmps103
    go_wp2_with (go_at_call 137; refine (colour_any _ _).mono ?_; rintro e w' ⟨rfl, rfl⟩)
    go_ret
    exact ⟨ret_i (by simp only [bitN] <;> omega), rfl⟩

def partsV (l : L) : Value := .tuple #[.bool l.b, .bool l.u, .bool l.t, .int .i64 l.f, .int .i64 l.k]
def lookV (l : L) : Value := .agg #[.bool l.b, .bool l.u, .bool l.t, .int .i64 l.f, .int .i64 l.k]
def lookC (l : L) : Array Value := #[.bool l.b, .bool l.u, .bool l.t, .int .i64 l.f, .int .i64 l.k]

set_option maxHeartbeats 400000 in
theorem parts_any (a : Int) (w : World) : Calls Try.prog 136 #[.int .i64 a] w fun e w' => e = .returned (partsV (partsF a)) ∧ w = w' := by
  have h1 := i64_and1 a
  have h2 := i64_and2 a
  have h4 := i64_and4 a
  unfold partsF partsV
  dsimp only
  obtain ⟨q1, e1, q10, q11⟩ : ∃ q : Int, q = a % 2 ∧ 0 ≤ q ∧ q ≤ 1 := ⟨_, rfl, by omega, by omega⟩
  obtain ⟨q2, e2, q20, q21⟩ : ∃ q : Int, q = a / 2 % 2 ∧ 0 ≤ q ∧ q ≤ 1 := ⟨_, rfl, by omega, by omega⟩
  obtain ⟨q4, e4, q40, q41⟩ : ∃ q : Int, q = a / 4 % 2 ∧ 0 ≤ q ∧ q ≤ 1 := ⟨_, rfl, by omega, by omega⟩
  rw [← e1] at h1 ⊢
  rw [← e2] at h2 ⊢
  rw [← e4] at h4 ⊢
  clear e1 e2 e4
  go_enter Try.func136, Try.ntmps136
  go_wp2_with fail
  refine (at16 _ _).mono ?_
  rintro e w' ⟨rfl, rfl⟩
  go_wp2_with fail
  refine (at256 _ _).mono ?_
  rintro e w' ⟨rfl, rfl⟩
  go_wp2_with fail
  refine bodyPost_ret (v := .tuple #[.bool (q1 != 0), .bool (q2 * 2 != 0), .bool (q4 * 4 != 0), .int .i64 (colF (a / 16 % 16)), .int .i64 (colF (a / 256 % 16))]) (by simp [results, Try.results136, go_sem]) rfl ⟨?_, rfl⟩
  rw [show (q1 != 0) = decide (q1 ≠ 0) by rw [Bool.eq_iff_iff]; simp, show (q2 * 2 != 0) = decide (q2 ≠ 0) by rw [Bool.eq_iff_iff]; simp, show (q4 * 4 != 0) = decide (q4 ≠ 0) by rw [Bool.eq_iff_iff]; simp]


def LookPost (w : World) (l : L) (e : Ending) (w' : World) : Prop := e = .returned (lookV l) ∧ Below w.heap.size w w'
theorem below_alloc2 (w : World) (a b : Obj) : Below w.heap.size w ((w.alloc a).alloc b) := ((Below.refl _ _).alloc (Nat.le_refl _) _).alloc (by simp) _

set_option maxHeartbeats 400000 in
theorem lookOf_any (a : Int) (w : World) : Calls Try.prog 101 #[.int .i64 a] w (LookPost w (partsF a)) := by
  have H : ∀ w, Calls Try.prog 136 #[.int .i64 a] w fun e w' => e = .returned (partsV (partsF a)) ∧ w = w' := fun w => parts_any a w
  obtain ⟨l, hl⟩ : ∃ l, l = partsF a := ⟨_, rfl⟩
  rw [← hl] at H ⊢
  clear hl
  obtain ⟨b, u, t, f, k⟩ := l
  have HH := Lib.hid H
  clear H
  go_enter Try.func101, Try.ntmps101
  go_wp2_with fail
  refine (HH.out _).mono ?_
  rintro e w' ⟨rfl, rfl⟩
  unfold partsV
  dsimp only
  go_wp2_with fail
  exact bodyPost_ret (v := .agg #[.bool b, .bool u, .bool t, .int .i64 f, .int .i64 k]) (by simp [results, Try.results101, go_sem]) rfl ⟨rfl, below_alloc2 w _ _⟩

set_option maxHeartbeats 400000 in
theorem behind_m1 (l : L) (w : World) : Calls Try.prog 102 #[lookV l, .int .i64 (-1)] w (LookPost w ⟨false, false, false, 0, 0⟩) := by
  obtain ⟨b, u, t, f, k⟩ := l
  unfold lookV
  dsimp only
  go_enter Try.func102, Try.ntmps102
  go_wp2_with fail
  exact bodyPost_ret (v := .agg #[.bool false, .bool false, .bool false, .int .i64 0, .int .i64 0]) (by simp [results, Try.results102, go_sem]) rfl ⟨rfl, below_alloc2 w _ _⟩
set_option maxHeartbeats 400000 in
theorem behind_0 (l : L) (w : World) : Calls Try.prog 102 #[lookV l, .int .i64 0] w (LookPost w ⟨false, false, false, 0, 0⟩) := by
  obtain ⟨b, u, t, f, k⟩ := l
  unfold lookV
  dsimp only
  go_enter Try.func102, Try.ntmps102
  go_wp2_with fail
  exact bodyPost_ret (v := .agg #[.bool false, .bool false, .bool false, .int .i64 0, .int .i64 0]) (by simp [results, Try.results102, go_sem]) rfl ⟨rfl, below_alloc2 w _ _⟩
set_option maxHeartbeats 400000 in
theorem behind_1 (l : L) (w : World) : Calls Try.prog 102 #[lookV l, .int .i64 1] w (LookPost w ⟨true, l.u, l.t, l.f, l.k⟩) := by
  obtain ⟨b, u, t, f, k⟩ := l
  unfold lookV
  dsimp only
  go_enter Try.func102, Try.ntmps102
  go_wp2_with fail
  exact bodyPost_ret (v := .agg #[.bool true, .bool u, .bool t, .int .i64 f, .int .i64 k]) (by simp [results, Try.results102, go_sem]) rfl ⟨rfl, below_alloc2 w _ _⟩
set_option maxHeartbeats 400000 in
theorem behind_22 (l : L) (w : World) : Calls Try.prog 102 #[lookV l, .int .i64 22] w (LookPost w ⟨false, l.u, l.t, l.f, l.k⟩) := by
  obtain ⟨b, u, t, f, k⟩ := l
  unfold lookV
  dsimp only
  go_enter Try.func102, Try.ntmps102
  go_wp2_with fail
  exact bodyPost_ret (v := .agg #[.bool false, .bool u, .bool t, .int .i64 f, .int .i64 k]) (by simp [results, Try.results102, go_sem]) rfl ⟨rfl, below_alloc2 w _ _⟩
set_option maxHeartbeats 400000 in
theorem behind_4 (l : L) (w : World) : Calls Try.prog 102 #[lookV l, .int .i64 4] w (LookPost w ⟨l.b, true, l.t, l.f, l.k⟩) := by
  obtain ⟨b, u, t, f, k⟩ := l
  unfold lookV
  dsimp only
  go_enter Try.func102, Try.ntmps102
  go_wp2_with fail
  exact bodyPost_ret (v := .agg #[.bool b, .bool true, .bool t, .int .i64 f, .int .i64 k]) (by simp [results, Try.results102, go_sem]) rfl ⟨rfl, below_alloc2 w _ _⟩
set_option maxHeartbeats 400000 in
theorem behind_24 (l : L) (w : World) : Calls Try.prog 102 #[lookV l, .int .i64 24] w (LookPost w ⟨l.b, false, l.t, l.f, l.k⟩) := by
  obtain ⟨b, u, t, f, k⟩ := l
  unfold lookV
  dsimp only
  go_enter Try.func102, Try.ntmps102
  go_wp2_with fail
  exact bodyPost_ret (v := .agg #[.bool b, .bool false, .bool t, .int .i64 f, .int .i64 k]) (by simp [results, Try.results102, go_sem]) rfl ⟨rfl, below_alloc2 w _ _⟩
set_option maxHeartbeats 400000 in
theorem behind_7 (l : L) (w : World) : Calls Try.prog 102 #[lookV l, .int .i64 7] w (LookPost w ⟨l.b, l.u, true, l.f, l.k⟩) := by
  obtain ⟨b, u, t, f, k⟩ := l
  unfold lookV
  dsimp only
  go_enter Try.func102, Try.ntmps102
  go_wp2_with fail
  exact bodyPost_ret (v := .agg #[.bool b, .bool u, .bool true, .int .i64 f, .int .i64 k]) (by simp [results, Try.results102, go_sem]) rfl ⟨rfl, below_alloc2 w _ _⟩
set_option maxHeartbeats 400000 in
theorem behind_27 (l : L) (w : World) : Calls Try.prog 102 #[lookV l, .int .i64 27] w (LookPost w ⟨l.b, l.u, false, l.f, l.k⟩) := by
  obtain ⟨b, u, t, f, k⟩ := l
  unfold lookV
  dsimp only
  go_enter Try.func102, Try.ntmps102
  go_wp2_with fail
  exact bodyPost_ret (v := .agg #[.bool b, .bool u, .bool false, .int .i64 f, .int .i64 k]) (by simp [results, Try.results102, go_sem]) rfl ⟨rfl, below_alloc2 w _ _⟩
set_option maxHeartbeats 400000 in
theorem behind_39 (l : L) (w : World) : Calls Try.prog 102 #[lookV l, .int .i64 39] w (LookPost w ⟨l.b, l.u, l.t, 0, l.k⟩) := by
  obtain ⟨b, u, t, f, k⟩ := l
  unfold lookV
  dsimp only
  go_enter Try.func102, Try.ntmps102
  go_wp2_with fail
  exact bodyPost_ret (v := .agg #[.bool b, .bool u, .bool t, .int .i64 0, .int .i64 k]) (by simp [results, Try.results102, go_sem]) rfl ⟨rfl, below_alloc2 w _ _⟩
set_option maxHeartbeats 400000 in
theorem behind_49 (l : L) (w : World) : Calls Try.prog 102 #[lookV l, .int .i64 49] w (LookPost w ⟨l.b, l.u, l.t, l.f, 0⟩) := by
  obtain ⟨b, u, t, f, k⟩ := l
  unfold lookV
  dsimp only
  go_enter Try.func102, Try.ntmps102
  go_wp2_with fail
  exact bodyPost_ret (v := .agg #[.bool b, .bool u, .bool t, .int .i64 f, .int .i64 0]) (by simp [results, Try.results102, go_sem]) rfl ⟨rfl, below_alloc2 w _ _⟩
set_option maxHeartbeats 400000 in
theorem behind_fore (l : L) (p : Int) (h0 : 30 ≤ p) (h1 : p ≤ 37) (w : World) : Calls Try.prog 102 #[lookV l, .int .i64 p] w (LookPost w ⟨l.b, l.u, l.t, p - 29, l.k⟩) := by
  obtain ⟨b, u, t, f, k⟩ := l
  unfold lookV
  dsimp only
  have nm1 : (p == -1) = false := by simp; omega
  have n0 : (p == 0) = false := by simp; omega
  have n1 : (p == 1) = false := by simp; omega
  have n22 : (p == 22) = false := by simp; omega
  have n4 : (p == 4) = false := by simp; omega
  have n24 : (p == 24) = false := by simp; omega
  have n7 : (p == 7) = false := by simp; omega
  have n27 : (p == 27) = false := by simp; omega
  go_enter Try.func102, Try.ntmps102
  go_wp2_with fail
  exact bodyPost_ret (v := .agg #[.bool b, .bool u, .bool t, .int .i64 (p - 29), .int .i64 k]) (by simp [results, Try.results102, go_sem]) rfl ⟨rfl, below_alloc2 w _ _⟩
set_option maxHeartbeats 400000 in
theorem behind_back (l : L) (p : Int) (h0 : 40 ≤ p) (h1 : p ≤ 47) (w : World) : Calls Try.prog 102 #[lookV l, .int .i64 p] w (LookPost w ⟨l.b, l.u, l.t, l.f, p - 39⟩) := by
  obtain ⟨b, u, t, f, k⟩ := l
  unfold lookV
  dsimp only
  have nm1 : (p == -1) = false := by simp; omega
  have n0 : (p == 0) = false := by simp; omega
  have n1 : (p == 1) = false := by simp; omega
  have n22 : (p == 22) = false := by simp; omega
  have n4 : (p == 4) = false := by simp; omega
  have n24 : (p == 24) = false := by simp; omega
  have n7 : (p == 7) = false := by simp; omega
  have n27 : (p == 27) = false := by simp; omega
  have n39 : (p == 39) = false := by simp; omega
  have h2 : ¬ p ≤ 37 := by omega
  have h3 : 30 ≤ p := by omega
  go_enter Try.func102, Try.ntmps102
  go_wp2_with fail
  exact bodyPost_ret (v := .agg #[.bool b, .bool u, .bool t, .int .i64 f, .int .i64 (p - 39)]) (by simp [results, Try.results102, go_sem]) rfl ⟨rfl, below_alloc2 w _ _⟩
set_option maxHeartbeats 400000 in
theorem behind_o1 (l : L) (p : Int) (hp : p ≠ -1 ∧ p ≠ 0 ∧ p ≠ 1 ∧ p ≠ 22 ∧ p ≠ 4 ∧ p ≠ 24 ∧ p ≠ 7 ∧ p ≠ 27 ∧ p ≠ 39 ∧ p ≠ 49) (h : p < 30) (w : World) : Calls Try.prog 102 #[lookV l, .int .i64 p] w (LookPost w ⟨l.b, l.u, l.t, l.f, l.k⟩) := by
  obtain ⟨b, u, t, f, k⟩ := l
  unfold lookV
  dsimp only
  have nm1 : (p == -1) = false := by simp; omega
  have n0 : (p == 0) = false := by simp; omega
  have n1 : (p == 1) = false := by simp; omega
  have n22 : (p == 22) = false := by simp; omega
  have n4 : (p == 4) = false := by simp; omega
  have n24 : (p == 24) = false := by simp; omega
  have n7 : (p == 7) = false := by simp; omega
  have n27 : (p == 27) = false := by simp; omega
  have n39 : (p == 39) = false := by simp; omega
  have n49 : (p == 49) = false := by simp; omega
  clear hp
  have c1 : decide (30 ≤ p) = false := by simp; omega
  have c2 : decide (40 ≤ p) = false := by simp; omega
  go_enter Try.func102, Try.ntmps102
  go_wp2_with fail
  exact bodyPost_ret (v := .agg #[.bool b, .bool u, .bool t, .int .i64 f, .int .i64 k]) (by simp [results, Try.results102, go_sem]) rfl ⟨rfl, below_alloc2 w _ _⟩
set_option maxHeartbeats 400000 in
theorem behind_o2 (l : L) (p : Int) (hp : p ≠ -1 ∧ p ≠ 0 ∧ p ≠ 1 ∧ p ≠ 22 ∧ p ≠ 4 ∧ p ≠ 24 ∧ p ≠ 7 ∧ p ≠ 27 ∧ p ≠ 39 ∧ p ≠ 49) (h : 37 < p) (h' : p < 40) (w : World) : Calls Try.prog 102 #[lookV l, .int .i64 p] w (LookPost w ⟨l.b, l.u, l.t, l.f, l.k⟩) := by
  obtain ⟨b, u, t, f, k⟩ := l
  unfold lookV
  dsimp only
  have nm1 : (p == -1) = false := by simp; omega
  have n0 : (p == 0) = false := by simp; omega
  have n1 : (p == 1) = false := by simp; omega
  have n22 : (p == 22) = false := by simp; omega
  have n4 : (p == 4) = false := by simp; omega
  have n24 : (p == 24) = false := by simp; omega
  have n7 : (p == 7) = false := by simp; omega
  have n27 : (p == 27) = false := by simp; omega
  have n39 : (p == 39) = false := by simp; omega
  have n49 : (p == 49) = false := by simp; omega
  clear hp
  have c1 : decide (30 ≤ p) = true := by simp; omega
  have c2 : decide (p ≤ 37) = false := by simp; omega
  have c3 : decide (40 ≤ p) = false := by simp; omega
  go_enter Try.func102, Try.ntmps102
  go_wp2_with fail
  exact bodyPost_ret (v := .agg #[.bool b, .bool u, .bool t, .int .i64 f, .int .i64 k]) (by simp [results, Try.results102, go_sem]) rfl ⟨rfl, below_alloc2 w _ _⟩
set_option maxHeartbeats 400000 in
theorem behind_o3 (l : L) (p : Int) (hp : p ≠ -1 ∧ p ≠ 0 ∧ p ≠ 1 ∧ p ≠ 22 ∧ p ≠ 4 ∧ p ≠ 24 ∧ p ≠ 7 ∧ p ≠ 27 ∧ p ≠ 39 ∧ p ≠ 49) (h : 47 < p) (w : World) : Calls Try.prog 102 #[lookV l, .int .i64 p] w (LookPost w ⟨l.b, l.u, l.t, l.f, l.k⟩) := by
  obtain ⟨b, u, t, f, k⟩ := l
  unfold lookV
  dsimp only
  have nm1 : (p == -1) = false := by simp; omega
  have n0 : (p == 0) = false := by simp; omega
  have n1 : (p == 1) = false := by simp; omega
  have n22 : (p == 22) = false := by simp; omega
  have n4 : (p == 4) = false := by simp; omega
  have n24 : (p == 24) = false := by simp; omega
  have n7 : (p == 7) = false := by simp; omega
  have n27 : (p == 27) = false := by simp; omega
  have n39 : (p == 39) = false := by simp; omega
  have n49 : (p == 49) = false := by simp; omega
  clear hp
  have c1 : decide (30 ≤ p) = true := by simp; omega
  have c2 : decide (p ≤ 37) = false := by simp; omega
  have c3 : decide (40 ≤ p) = true := by simp; omega
  have c4 : decide (p ≤ 47) = false := by simp; omega
  go_enter Try.func102, Try.ntmps102
  go_wp2_with fail
  exact bodyPost_ret (v := .agg #[.bool b, .bool u, .bool t, .int .i64 f, .int .i64 k]) (by simp [results, Try.results102, go_sem]) rfl ⟨rfl, below_alloc2 w _ _⟩

theorem behind_any (l : L) (p : Int) (w : World) : Calls Try.prog 102 #[lookV l, .int .i64 p] w (LookPost w (behindF l p)) := by
  by_cases c : p = -1
  · subst c; exact behind_m1 l w
  by_cases c0 : p = 0
  · subst c0; exact behind_0 l w
  by_cases c1 : p = 1
  · subst c1; exact behind_1 l w
  by_cases c22 : p = 22
  · subst c22; exact behind_22 l w
  by_cases c4 : p = 4
  · subst c4; exact behind_4 l w
  by_cases c24 : p = 24
  · subst c24; exact behind_24 l w
  by_cases c7 : p = 7
  · subst c7; exact behind_7 l w
  by_cases c27 : p = 27
  · subst c27; exact behind_27 l w
  by_cases c39 : p = 39
  · subst c39; exact behind_39 l w
  by_cases c49 : p = 49
  · subst c49; exact behind_49 l w
  have hp : p ≠ -1 ∧ p ≠ 0 ∧ p ≠ 1 ∧ p ≠ 22 ∧ p ≠ 4 ∧ p ≠ 24 ∧ p ≠ 7 ∧ p ≠ 27 ∧ p ≠ 39 ∧ p ≠ 49 := ⟨c, c0, c1, c22, c4, c24, c7, c27, c39, c49⟩
  unfold behindF
  rw [if_neg (by omega), if_neg c1, if_neg c22, if_neg c4, if_neg c24, if_neg c7, if_neg c27]
  by_cases d : 30 ≤ p ∧ p ≤ 37
  · rw [if_pos d]; exact behind_fore l p d.1 d.2 w
  rw [if_neg d, if_neg c39]
  by_cases d2 : 40 ≤ p ∧ p ≤ 47
  · rw [if_pos d2]; exact behind_back l p d2.1 d2.2 w
  rw [if_neg d2, if_neg c49]
  by_cases q : p < 30
  · exact behind_o1 l p hp q w
  by_cases q2 : p < 40
  · exact behind_o2 l p hp (by omega) q2 w
  exact behind_o3 l p hp (by omega) w


/-! ### blocks that are known whole; rows that are read -/
/-- Block g of world w is the cells cs. -/
def Held (w : World) (g : Nat) (t : TypeId) (cs : Array Value) : Prop := w.heap[g]? = some (.cells cs t (0, 0))
theorem Held.new (w : World) (t : TypeId) (cs : Array Value) : Held (w.alloc (.cells cs t)) w.heap.size t cs := heap_alloc_new w _
theorem Held.lt {w : World} {g : Nat} {t : TypeId} {cs : Array Value} (h : Held w g t cs) : g < w.heap.size := (Array.getElem?_eq_some_iff.1 h).1
theorem Held.below {w w' : World} {g B : Nat} {t : TypeId} {cs : Array Value} (h : Held w g t cs) (hb : Below B w w') (hg : g < B) : Held w' g t cs := (hb.block g hg).trans h
theorem Held.alloc {w : World} {g : Nat} {t : TypeId} {cs : Array Value} (h : Held w g t cs) (o : Obj) : Held (w.alloc o) g t cs := (Below.heap_alloc w o g h.lt).trans h
theorem Held.cell {w : World} {g : Nat} {t : TypeId} {cs : Array Value} (h : Held w g t cs) (o : Nat) : w.cell? ⟨g, o, none⟩ = cs[o]? := cell_of_row w g o cs t (0, 0) h
theorem Held.frozen {w : World} {g : Nat} {t : TypeId} {cs : Array Value} (h : Held w g t cs) (o : Nat) : w.frozen? ⟨g, o, none⟩ = false := frozen_of_row w g o cs t h
theorem Held.set1 {w : World} {g : Nat} {t : TypeId} {cs : Array Value} (h : Held w g t cs) (i : Nat) (x : Value) : Held (w.setCell ⟨g, i, none⟩ x) g t (cs.setIfInBounds i x) := heap_setCell_same w g i cs t x h
theorem Held.set5 {w : World} {g : Nat} {t : TypeId} {a b c d e : Value} (h : Held w g t #[a, b, c, d, e]) (x y z u v : Value) :
    Held (((((w.setCell ⟨g, 0, none⟩ x).setCell ⟨g, 1, none⟩ y).setCell ⟨g, 2, none⟩ z).setCell ⟨g, 3, none⟩ u).setCell ⟨g, 4, none⟩ v) g t #[x, y, z, u, v] := ((((h.set1 0 x).set1 1 y).set1 2 z).set1 3 u).set1 4 v
theorem below_set5 {a w : World} {B k : Nat} (h : Below B a w) (hk : B ≤ k) (x y z u v : Value) : Below B a (((((w.setCell ⟨k, 0, none⟩ x).setCell ⟨k, 1, none⟩ y).setCell ⟨k, 2, none⟩ z).setCell ⟨k, 3, none⟩ u).setCell ⟨k, 4, none⟩ v) :=
  ((((h.setCell (p := ⟨k, 0, none⟩) hk x).setCell (p := ⟨k, 1, none⟩) hk y).setCell (p := ⟨k, 2, none⟩) hk z).setCell (p := ⟨k, 3, none⟩) hk u).setCell (p := ⟨k, 4, none⟩) hk v
theorem look_cells {w : World} {g : Nat} {a b c d e : Value} (h : Held w g 104 #[a, b, c, d, e]) : w.cell? ⟨g, 0, none⟩ = some a ∧ w.cell? ⟨g, 1, none⟩ = some b ∧ w.cell? ⟨g, 2, none⟩ = some c ∧ w.cell? ⟨g, 3, none⟩ = some d ∧ w.cell? ⟨g, 4, none⟩ = some e ∧ ∀ o, w.frozen? ⟨g, o, none⟩ = false :=
  ⟨h.cell 0, h.cell 1, h.cell 2, h.cell 3, h.cell 4, h.frozen⟩

/-- A slice value v that reads as the numbers xs. -/
def ReadI (w : World) (v : Value) (xs : List Int) : Prop := ∃ D c, v = .slice D xs.length c ∧ ∀ k : Nat, k < xs.length → ∃ (b off : Nat) (z : Int), D = some ⟨b, off, none⟩ ∧ b < w.heap.size ∧ xs[k]? = some z ∧ w.cell? ⟨b, off + k, none⟩ = some (.int .i64 z)
theorem ReadI.below {w w' : World} {B : Nat} {v : Value} {xs : List Int} (h : ReadI w v xs) (hb : Below B w w') (hB : w.heap.size ≤ B) : ReadI w' v xs := by
  obtain ⟨D, c, rfl, h⟩ := h
  refine ⟨D, c, rfl, fun k hk => ?_⟩
  obtain ⟨b, off, z, e1, e2, e3, e4⟩ := h k hk
  exact ⟨b, off, z, e1, Nat.lt_of_lt_of_le e2 hb.size, e3, (hb.cell (p := ⟨b, off + k, none⟩) (Nat.lt_of_lt_of_le e2 hB)).trans e4⟩
theorem readI_nil (w : World) : ReadI w (.slice none 0 0) [] := ⟨none, 0, rfl, fun k hk => by simp at hk⟩

def ApplyPost (w : World) (r : Int) (e : Ending) (w' : World) : Prop := e = .returned (.int .i64 r) ∧ Below w.heap.size w w'
/-- Behind k numbers: the look lies in block B. -/
def ApplyRel (w : World) (B : Nat) (l : L) (xs : List Int) (i : Value) (wr : World) : Prop :=
  ∃ k : Nat, i = .int .i64 k ∧ k ≤ xs.length ∧ Held wr B 104 (lookC (lookF l (xs.take k))) ∧ Below w.heap.size w wr

theorem applyF_ne (a : Int) (xs : List Int) (h : xs ≠ []) : applyF a xs = makeF (lookF (partsF a) xs) := by
  cases xs with
  | nil => exact absurd rfl h
  | cons x xs => rfl

set_option maxHeartbeats 1000000 in
theorem apply_any (a : Int) (xs : List Int) (v : Value) (w : World) (hv : ReadI w v xs) (hn : xs.length ≤ 1000000) :
    Calls Try.prog 58 #[.int .i64 a, v] w (ApplyPost w (applyF a xs)) := by
  obtain ⟨V, cv, rfl, hv⟩ := hv
  by_cases h0 : xs = []
  · subst h0
    show Calls Try.prog 58 #[.int .i64 a, .slice V 0 cv] w (ApplyPost w 0)
    go_enter Try.func58, Try.ntmps58
    go_wp2_with fail
    go_ret
    exact ⟨rfl, Below.refl _ _⟩
  · rw [applyF_ne a xs h0]
    have hpos : 0 < xs.length := List.length_pos_iff.2 h0
    clear h0
    have HV := Lib.hid hv
    clear hv
    have HL : ∀ w, Calls Try.prog 101 #[.int .i64 a] w (LookPost w (partsF a)) := fun w => lookOf_any a w
    obtain ⟨l, hl⟩ : ∃ l, l = partsF a := ⟨_, rfl⟩
    rw [← hl] at HL ⊢
    clear hl
    have H1 := Lib.hid HL
    clear HL
    have hne : ((xs.length : Int) == 0) = false := beq_eq_false_iff_ne.2 (by omega)
    go_enter Try.func58, Try.ntmps58
    go_wp2_with (
      go_at_call 101
      refine (H1.out _).mono ?_
      rintro e w1 ⟨rfl, hb1⟩
      unfold lookV)
    go_loopw [15] (ApplyRel w w1.heap.size l xs) (fun i _ => xs.length - (intOf i).toNat)
    case atStart => exact ⟨0, rfl, Nat.zero_le _, Held.new _ _ _, hb1.alloc hb1.size _⟩
    case round =>
      obtain ⟨k, rfl, hle, hQ, hbr⟩ := hrel
      have hz := hbr.size
      have hz1 := hQ.lt
      have hz2 := hb1.size
      by_cases hlt : k < xs.length
      · have hki : (k : Int) < (xs.length : Int) := by omega
        obtain ⟨vb, vo, z, rfl, hvb, hzk, hcell⟩ := HV.out k hlt
        have hcell' : wr.cell? ⟨vb, vo + k, none⟩ = some (.int .i64 z) := (hbr.cell (p := ⟨vb, vo + k, none⟩) hvb).trans hcell
        clear hcell
        have hsn : Hid (lookF l (xs.take (k + 1)) = behindF (lookF l (xs.take k)) z) := by
          show lookF l (xs.take (k + 1)) = _
          rw [List.take_add_one, hzk, lookF_app]
          rfl
        obtain ⟨s, hs⟩ : ∃ s, s = lookF l (xs.take k) := ⟨_, rfl⟩
        rw [← hs] at hQ hsn
        clear hs
        have HS : Hid (∀ w, Calls Try.prog 102 #[lookV s, .int .i64 z] w (LookPost w (behindF s z))) := fun w => behind_any s z w
        obtain ⟨s', hs'⟩ : ∃ s', s' = behindF s z := ⟨_, rfl⟩
        rw [← hs'] at hsn HS
        clear hs' hzk
        unfold lookC at hQ
        obtain ⟨x0, x1, x2, x3, x4, xf⟩ := look_cells hQ
        go_wp2_with (
          go_at_call 102
          refine (HS.out _).mono ?_
          rintro e w3 ⟨rfl, hb3⟩
          unfold lookV
          have hQ3 := hQ.below hb3 hz1
          obtain ⟨y0, y1, y2, y3, y4, yf⟩ := look_cells hQ3)
        go_roundw
        case rel =>
          refine ⟨k + 1, by go_num, by omega, ?_, ?_⟩
          · rw [hsn.out]
            exact Held.set5 hQ3 _ _ _ _ _
          · exact below_set5 (hbr.trans (hb3.mono hz)) hz2 _ _ _ _ _
        case measure => simp [intOf]; omega
      · have ek : k = xs.length := by omega
        subst ek
        rw [List.take_length] at hQ
        obtain ⟨s, hs⟩ : ∃ s, s = lookF l xs := ⟨_, rfl⟩
        have HS := Lib.hid hs
        rw [← hs] at hQ
        clear hs
        unfold lookC at hQ
        obtain ⟨x0, x1, x2, x3, x4, xf⟩ := look_cells hQ
        go_wp2_with (
          go_at_call 103
          refine (make_any _ _ _ _ _ _).mono ?_
          rintro e w3 ⟨rfl, rfl⟩)
        go_ret
        refine ⟨?_, hbr⟩
        rw [← HS.out]
        rfl

end Go.Proofs.Ytpcpmeihebgncaa.Attr

/-
  What escaped of package acts answers for c, sequenced for m and for r where fewer than two rows would scroll, switched, and Apply for what is no kind. Conditions: the screen's sides lie between 1 and 1,000, the cursor is on it; at most a million parameters.
-/
namespace Go.Proofs.Ytpcpmeihebgncaa
open Go.RowKit
set_option maxRecDepth 100000

set_option maxHeartbeats 400000 in
theorem fittedO_any (D : Option Addr) (c : Nat) (L : List (List C)) (x : Int) (h : Nat) (w : World) (hr : Lines 0 w D L) (hn : h ≤ 1050) : Calls Try.prog 90 #[.slice D L.length c, .int .i64 x, .int .i64 h] w (OLPost w (fittedF L x h)) := by
  have hm := run_makeL w h (by omega)
  have hS := FillSt.start w (fittedF L x h)
  have HF := Lib.hid (fittedF_in L x h)
  have HO := Lib.hid (fittedF_out L x h)
  have hlen := fittedF_len L x h
  obtain ⟨M, hM⟩ : ∃ M, M = fittedF L x h := ⟨_, rfl⟩
  rw [← hM] at hS HF HO hlen ⊢
  clear hM
  subst hlen
  have HS := Lib.hid hS
  have HR := Lib.hid hr
  clear hr hS
  go_enter Try.func90, Try.ntmps90
  go_wp2_with fail
  go_loopw [13] (FillRel w w.heap.size M) (fun i _ => M.length - (intOf i).toNat)
  case atStart => exact ⟨[], rfl, HS.out⟩
  case round =>
    obtain ⟨vs, rfl, hst⟩ := hrel
    by_cases hlt : vs.length < M.length
    · have hki : (vs.length : Int) < (M.length : Int) := by omega
      have HST := Lib.hid hst
      have hgl := hst.table.lt
      have hfl := fillV_cell hst.table hlt
      have hfz := hst.table.frozen
      by_cases hL : vs.length < L.length
      · have hLi : (vs.length : Int) < (L.length : Int) := by omega
        obtain ⟨b, off, E, ce, rfl, _, hbl, _, hcell, hce, hrow⟩ := (HR.out.below hst.below (Nat.le_refl _)).at vs.length hL
        have HROW := Lib.hid hrow.read
        have HCL := Lib.hid (fit_any E ce L[vs.length] x wr HROW.out)
        have HQ := Lib.hid (HF.out vs.length hlt hL)
        clear hst hrow HROW
        generalize L[vs.length] = q at *
        generalize fitF q x = r at *
        go_wp2_with (
          go_at_call 127
          refine HCL.out.mono ?_
          rintro e w1 hp1
          obtain ⟨D1, c1, rfl, hc1, hr1, hb1⟩ := hp1.v
          have hfl1 := (fillV_cell (HST.out.table.below hb1 hgl) hlt)
          have hfz1 := (HST.out.table.below hb1 hgl).frozen)
        go_roundw
        case rel =>
          refine ⟨vs ++ [.slice D1 r.length c1], by simp, HST.out.next (Nat.le_refl _) hb1 hlt ⟨D1, c1, ?_, ?_, ?_⟩⟩
          · rw [HQ.out]
          · rw [HQ.out]; exact hc1
          · rw [HQ.out]; exact hr1
        case measure => simp [intOf]; omega
      · have hLi : ¬ (vs.length : Int) < (L.length : Int) := by omega
        have HCL := Lib.hid (blankR_any x wr)
        have HQ := Lib.hid (HO.out vs.length hlt hL)
        clear hst
        generalize blankF x = r at *
        go_wp2_with (
          go_at_call 128
          refine HCL.out.mono ?_
          rintro e w1 hp1
          obtain ⟨D1, c1, rfl, hc1, hr1, hb1⟩ := hp1.v
          have hfl1 := (fillV_cell (HST.out.table.below hb1 hgl) hlt)
          have hfz1 := (HST.out.table.below hb1 hgl).frozen)
        go_roundw
        case rel =>
          refine ⟨vs ++ [.slice D1 r.length c1], by simp, HST.out.next (Nat.le_refl _) hb1 hlt ⟨D1, c1, ?_, ?_, ?_⟩⟩
          · rw [HQ.out]
          · rw [HQ.out]; exact hc1
          · rw [HQ.out]; exact hr1
        case measure => simp [intOf]; omega
    · have ek : vs.length = M.length := by have := hst.le; omega
      have hki : ¬ (vs.length : Int) < (M.length : Int) := by omega
      have HP := Lib.hid (hst.opost (Nat.le_refl _) ek)
      clear hst ek
      go_wp2_with fail
      go_ret
      exact HP.out
set_option maxHeartbeats 400000 in
theorem gblanksO_any (x : Int) (h : Nat) (w : World) (hn : h ≤ 1050) : Calls Try.prog 88 #[.int .i64 x, .int .i64 h] w (OLPost w (blankL x h)) := by
  have HF := Lib.hid (fittedO_any none 0 [] x h w (Lines.nil _ _ _) hn)
  rw [fitted_nil] at HF
  generalize blankL x h = q at *
  go_enter Try.func88, Try.ntmps88
  go_wp2_with (go_at_call 90; refine HF.out.mono ?_; rintro e w1 ⟨g, rfl, h1, h2⟩)
  go_ret
  exact ⟨g, rfl, h1, h2⟩

theorem side_nat (y : Int) : ∃ h : Nat, sideF y = h ∧ 1 ≤ h ∧ h ≤ 1000 := ⟨(sideF y).toNat, by unfold sideF; omega, by unfold sideF; omega, by unfold sideF; omega⟩
def GNewPost (w : World) (p : Nm) (L : List (List C)) (e : Ending) (w' : World) : Prop := ∃ g, e = .returned (gv p (.slice (some ⟨g, 0, none⟩) L.length L.length) nilV) ∧ OTab w.heap.size w' g L ∧ Below w.heap.size w w'
set_option maxRecDepth 100000 in
set_option maxHeartbeats 2000000 in
theorem gnewO_any (x0 y0 : Int) (w : World) : Calls Try.prog 42 #[.int .i64 x0, .int .i64 y0] w (GNewPost w (newNm (sideF x0) (sideF y0)) (blankL (sideF x0) (sideF y0).toNat)) := by
  have HX := Lib.hid (fun w => side_any x0 w)
  obtain ⟨h, hh, hh0, hh1⟩ := side_nat y0
  have HY : Hid (∀ w, Calls Try.prog 87 #[.int .i64 y0] w fun e w' => e = .returned (.int .i64 h) ∧ w = w') := fun w => by rw [← hh]; exact side_any y0 w
  rw [hh, Int.toNat_natCast]
  generalize sideF x0 = x at *
  clear hh
  have HB := Lib.hid (fun w => gblanksO_any x h w (by omega))
  go_enter Try.func42, Try.ntmps42
  go_wp2_with fail
  refine (HX.out _).mono ?_
  rintro e w' ⟨rfl, rfl⟩
  go_wp2_with (go_at_call 87; refine (HY.out _).mono ?_; rintro e w' ⟨rfl, rfl⟩)
  refine (HB.out _).mono ?_
  rintro e w1 ⟨g, rfl, hl, hb⟩
  have hx : Box w1 w.heap.size zeroNm nilV nilV := (Box.new w zeroNm nilV nilV).below hb (by simp)
  have hzz := hx.lt
  have hbw : Below w.heap.size w w1 := ((Below.refl _ _).alloc (Nat.le_refl _) _).trans (hb.mono (by simp))
  have HL := Lib.hid (hl.put15 (g := w.heap.size) (by simp) (newNm x h) (.slice (some ⟨g, 0, none⟩) (blankL x h).length (blankL x h).length) nilV)
  have HZ := Lib.hid (put15_box hx (p := newNm x h) (.slice (some ⟨g, 0, none⟩) (blankL x h).length (blankL x h).length) nilV).cells
  have HBA := Lib.hid (put15_below hbw (Nat.le_refl _) (newNm x h) (.slice (some ⟨g, 0, none⟩) (blankL x h).length (blankL x h).length) nilV)
  have hc2 := hx.cells
  simp only [zeroNm, nilV] at hc2
  obtain ⟨a0, a1, a2, a3, a4, a5, a6, a7, a8, a9, a10, a11, a12, a13, a14, af⟩ := hc2
  clear hl hb hx hbw
  go_wp2_with fail
  change bodyPost _ _ _ _ _ (put15 w1 w.heap.size (newNm x h) (.slice (some ⟨g, 0, none⟩) (blankL x h).length (blankL x h).length) nilV)
  clear a0 a1 a2 a3 a4 a5 a6 a7 a8 a9 a10 a11 a12 a13 a14 af
  generalize (put15 w1 w.heap.size (newNm x h) (.slice (some ⟨g, 0, none⟩) (blankL x h).length (blankL x h).length) nilV) = wz at *
  obtain ⟨y0, y1, y2, y3, y4, y5, y6, y7, y8, y9, y10, y11, y12, y13, y14, yf⟩ := HZ.out
  refine bodyPost_ret (v := gv (newNm x h) (.slice (some ⟨g, 0, none⟩) (blankL x h).length (blankL x h).length) nilV) (by simp [results, Try.results42, go_sem, gv, gcs, y0, y1, y2, y3, y4, y5, y6, y7, y8, y9, y10, y11, y12, y13, y14]) rfl ?_
  exact ⟨g, rfl, HL.out.weak (by simp), HBA.out⟩


set_option maxHeartbeats 4000000 in
theorem esc_c (B : Nat) (p : Nm) (g h : Nat) (L Bk : List (List C)) (w : World) (hs : OScr B w g h L Bk) (hp : On p) :
    Calls Try.prog 29 #[ov p g h L Bk, .int .i32 99] w (InPost B g w (newNm p.w p.h) (blankL p.w p.h.toNat) Bk) := by
  have HS := Lib.hid (MS.start w p (.slice (some ⟨g, 0, none⟩) L.length L.length) (.slice (some ⟨h, 0, none⟩) Bk.length Bk.length))
  have e1 : sideF p.w = p.w := by have := hp.w0; have := hp.w1; unfold sideF; omega
  have e2 : sideF p.h = p.h := by have := hp.h0; have := hp.h1; unfold sideF; omega
  have HN : Hid (∀ w, Calls Try.prog 42 #[.int .i64 p.w, .int .i64 p.h] w (GNewPost w (newNm p.w p.h) (blankL p.w p.h.toNat))) := fun w => by
    have := gnewO_any p.w p.h w
    rwa [e1, e2] at this
  have hgl := hs.rows.lt
  have hhl := hs.back.lt
  have hB : B ≤ w.heap.size := by have := hs.rows.low; omega
  have HH := Lib.hid hs
  clear hs hp e1 e2
  obtain ⟨q, hq⟩ : ∃ q, q = newNm p.w p.h := ⟨_, rfl⟩
  obtain ⟨L2, hL2⟩ : ∃ L2, L2 = blankL p.w p.h.toNat := ⟨_, rfl⟩
  rw [← hq, ← hL2] at HN ⊢
  clear hq hL2
  unfold ov gv gcs
  go_enter Try.func29, Try.ntmps29
  go_upto_region 1 with fail
  refine wp_world (fun wq => MS w p (.slice (some ⟨g, 0, none⟩) L.length L.length) (.slice (some ⟨h, 0, none⟩) Bk.length Bk.length) wq) HS.out ?_
  clear HS
  intro w2 ms
  have u0 := ms.box.cells.c0
  have u1 := ms.box.cells.c1
  go_upto_region 17 with (first
    | (go_at_call 42
       refine (HN.out w2).mono ?_
       clear HN
       rintro e w3 ⟨g3, rfl, t3, b3⟩)
    | (with_reducible refine wpList_storeB (x := .tmp 5) (y := .tmp 57) (p := q) (D := some ⟨g3, 0, none⟩) (E := none) (n := L2.length) (c := L2.length) (m := 0) (d := 0) ?_ ?_ ?_ ?_ ?_ ?_
       · with_reducible rfl
       · rfl
       · rfl
       · rfl
       · rfl))
  have hz := ms.below.size
  have hlow := t3.low
  have hz3 := b3.size
  refine wp_world (fun wq => Box wq w.heap.size p (.slice (some ⟨g, 0, none⟩) L.length L.length) (.slice (some ⟨h, 0, none⟩) Bk.length Bk.length) ∧ Box wq (w.heap.size + 1) zeroNm nilV nilV ∧ Box wq w3.heap.size q (.slice (some ⟨g3, 0, none⟩) L2.length L2.length) (.slice none 0 0) ∧ OTab w2.heap.size wq g3 L2 ∧ OTab B wq h Bk ∧ Below w.heap.size w wq)
    ⟨(ms.box.below b3 ms.box.lt).alloc _, (ms.ans.below b3 ms.ans.lt).alloc _, Box.new _ _ _ _, t3.below ((Below.refl _ _).alloc (Nat.le_refl _) _) (Nat.le_refl _), (HH.out.back.below ms.below (Nat.le_refl _)).below (b3.alloc b3.size _) (Nat.le_refl _), (ms.below.trans (b3.mono ms.below.size)).alloc (by omega) _⟩ ?_
  clear u0 u1 t3
  rintro w4 ⟨x4, a4, o4, t4, k4, b4⟩
  have v14 := x4.cells.c14
  have o14 := o4.cells.c14
  have of := o4.cells.free
  have hz4 := o4.lt
  have hms := ms.ans.lt
  go_upto_region 18 with fail
  have o5 := o4.set_back (.slice (some ⟨h, 0, none⟩) Bk.length Bk.length)
  have a5 := a4.far (q := ⟨w3.heap.size, 14, none⟩) (by exact (by omega : w.heap.size + 1 ≠ w3.heap.size)) (.slice (some ⟨h, 0, none⟩) Bk.length Bk.length)
  have t5 := t4.box o4 (w' := w4.setCell ⟨w3.heap.size, 14, none⟩ (.slice (some ⟨h, 0, none⟩) Bk.length Bk.length)) (by simp) fun b _ hn => Below.heap_setCell w4 ⟨w3.heap.size, 14, none⟩ _ b hn
  have k5 := k4.box o4 (w' := w4.setCell ⟨w3.heap.size, 14, none⟩ (.slice (some ⟨h, 0, none⟩) Bk.length Bk.length)) (by simp) fun b _ hn => Below.heap_setCell w4 ⟨w3.heap.size, 14, none⟩ _ b hn
  have b5 := b4.setCell (p := ⟨w3.heap.size, 14, none⟩) (by exact (by omega : w.heap.size ≤ w3.heap.size)) (.slice (some ⟨h, 0, none⟩) Bk.length Bk.length)
  clear v14 o14 of x4 a4 o4 t4 k4 b4
  generalize (w4.setCell ⟨w3.heap.size, 14, none⟩ (.slice (some ⟨h, 0, none⟩) Bk.length Bk.length)) = w5 at *
  go_wp2_with (first
    | (with_reducible refine wpList_loadB o5 (x := .tmp 5) ?_ ?_ ?_ ?_
       · with_reducible rfl
       · rfl
       · rfl)
    | (with_reducible refine wpList_storeA a5 (x := .tmp 4) (y := .tmp 61) (p := q) (D := some ⟨g3, 0, none⟩) (E := some ⟨h, 0, none⟩) (n := L2.length) (c := L2.length) (m := Bk.length) (d := Bk.length) ?_ ?_ ?_ ?_ ?_
       · with_reducible rfl
       · rfl
       · rfl
       · rfl))
  refine bodyPost_ret (v := gv q (.slice (some ⟨g3, 0, none⟩) L2.length L2.length) (.slice (some ⟨h, 0, none⟩) Bk.length Bk.length)) (results_cell_row (P := Try.prog) Try.results29 _ _ (w.heap.size + 1) 35 _ (0, 0) _ rfl (a5.setRow _ _ _) Try.underlying35 rfl box_size) rfl ?_
  have s6 : OScr B w5 g3 h L2 Bk := ⟨t5.weak (by omega), k5, by omega⟩
  exact ⟨g3, h, rfl, s6.bput a5 _, Chg.of (below_setRow b5 (Nat.le_succ _) _) hgl⟩

set_option maxHeartbeats 4000000 in
theorem seq_m (p : Nm) (D E PD : Option Addr) (n c m d pc : Nat) (xs : List Int) (w : World) (hr : ReadI w (.slice PD xs.length pc) xs) (hx : xs.length ≤ 1000000) :
    Calls Try.prog 30 #[gv p (.slice D n c) (.slice E m d), .int .i32 109, .slice PD xs.length pc] w (ValPost (gv { p with a := Attr.applyF p.a xs } (.slice D n c) (.slice E m d)) w) := by
  have HS := Lib.hid (MS.start w p (.slice D n c) (.slice E m d))
  have HT : Hid (∀ wx, Below w.heap.size w wx → Calls Try.prog 56 #[.slice PD xs.length pc, .int .i64 0, .int .i64 1] wx fun e w' => e = .returned (.int .i64 (toldF xs 0 1)) ∧ wx = w') := fun wx hb => told_any PD pc xs 0 1 wx (hr.below hb (Nat.le_refl _))
  have HA : Hid (∀ wx, Below w.heap.size w wx → Calls Try.prog 58 #[.int .i64 p.a, .slice PD xs.length pc] wx (Attr.ApplyPost wx (Attr.applyF p.a xs))) := fun wx hb => Attr.apply_any p.a xs _ wx (hr.below hb (Nat.le_refl _)) hx
  generalize toldF xs 0 1 = k at *
  obtain ⟨av, hav⟩ : ∃ av, av = Attr.applyF p.a xs := ⟨_, rfl⟩
  rw [← hav] at HA ⊢
  obtain ⟨q, hq0⟩ : ∃ q : Nm, { p with a := av } = q := ⟨_, rfl⟩
  rw [hq0]
  have HQ0 := Lib.hid hq0
  clear hr hq0 hav
  unfold gv gcs
  go_enter Try.func30, Try.ntmps30
  go_upto_region 1 with fail
  refine wp_world (fun wq => MS w p (.slice D n c) (.slice E m d) wq) HS.out ?_
  clear HS
  intro w2 ms
  have HR := Lib.hid ms
  have v5 := ms.box.cells.c5
  have vf := ms.box.cells.free
  clear ms
  go_upto_region 22 with (first
    | (go_at_call 56
       refine (HT.out _ HR.out.below).mono ?_
       rintro e w' ⟨rfl, rfl⟩)
    | (go_at_call 58
       refine (HA.out _ HR.out.below).mono ?_
       rintro e w3 ⟨rfl, b3⟩
       have x3 := HR.out.box.below b3 HR.out.box.lt
       have y5 := x3.cells.c5
       have yf := x3.cells.free
       have hz3 := x3.lt))
  have m3 : MS w p (.slice D n c) (.slice E m d) w3 := ⟨x3, HR.out.ans.below b3 HR.out.ans.lt, HR.out.below.trans (b3.mono HR.out.below.size)⟩
  have m4 : MS w q (.slice D n c) (.slice E m d) (w3.setCell ⟨w.heap.size, 5, none⟩ (.int .i64 av)) := by rw [← HQ0.out]; exact m3.far (m3.box.set_a av)
  clear v5 vf y5 yf hz3 m3 x3 b3
  generalize (w3.setCell ⟨w.heap.size, 5, none⟩ (.int .i64 av)) = w4 at *
  have xg := m4.box
  have xa := m4.ans
  go_wp2_with (first
    | (with_reducible refine wpList_loadB xg (x := .tmp 3) ?_ ?_ ?_ ?_
       · with_reducible rfl
       · rfl
       · rfl)
    | (with_reducible refine wpList_storeA xa (x := .tmp 6) (y := .tmp 95) (p := q) (D := D) (E := E) (n := n) (c := c) (m := m) (d := d) ?_ ?_ ?_ ?_ ?_
       · with_reducible rfl
       · rfl
       · rfl
       · rfl))
  refine bodyPost_ret (v := gv q (.slice D n c) (.slice E m d)) (results_cell_row (P := Try.prog) Try.results30 _ _ (w.heap.size + 1) 35 _ (0, 0) _ rfl (xa.setRow q _ _) Try.underlying35 rfl box_size) rfl ?_
  exact ⟨rfl, below_setRow m4.below (Nat.le_succ _) _⟩

set_option maxHeartbeats 4000000 in
theorem bounded_no (p : Nm) (D E : Option Addr) (n c m d : Nat) (a b t u : Int) (w : World) (hq : On p) (ht : withinF a (p.h - 1) = t) (hu : withinF b (p.h - 1) = u) (htu : ¬ t < u) :
    Calls Try.prog 57 #[gv p (.slice D n c) (.slice E m d), .int .i64 a, .int .i64 b] w (ValPost (gv p (.slice D n c) (.slice E m d)) w) := by
  have HS := Lib.hid (MS.start w p (.slice D n c) (.slice E m d))
  have HA : Hid (∀ w, Calls Try.prog 99 #[.int .i64 a, .int .i64 (p.h - 1)] w fun e w' => e = .returned (.int .i64 t) ∧ w = w') := fun w => by rw [← ht]; exact awithin_any a _ w
  have HB : Hid (∀ w, Calls Try.prog 99 #[.int .i64 b, .int .i64 (p.h - 1)] w fun e w' => e = .returned (.int .i64 u) ∧ w = w') := fun w => by rw [← hu]; exact awithin_any b _ w
  have s1 : IntKind.i64.wrap (p.h - 1) = p.h - 1 := IntWalk.i64_in _ (by have := hq.h0; have := hq.h1; omega)
  clear hq ht hu
  unfold gv gcs
  go_enter Try.func57, Try.ntmps57
  go_upto_region 1 with fail
  refine wp_world (fun wq => MS w p (.slice D n c) (.slice E m d) wq) HS.out ?_
  clear HS
  intro w2 ms
  have msd := ms.drew
  have u1 := msd.box.cells.c1
  go_cut [1, 2] (fun x y wx => x = .int .i64 t ∧ y = .int .i64 u ∧ wx = w2.drew)
  case first =>
    go_region_held3 (fun w' => w'.cell? ⟨w.heap.size, 1, none⟩ = some (.int .i64 p.h))
      (first | with_reducible exact u1 | fail)
      (first
        | (go_at_call 99
           (with_reducible refine (HA.out _).mono ?_)
           rintro e w' ⟨rfl, rfl⟩)
        | (go_at_call 99
           (with_reducible refine (HB.out _).mono ?_)
           rintro e w' ⟨rfl, rfl⟩))
    all_goals go_wp2_with fail
    all_goals go_meet
    all_goals exact ⟨rfl, rfl, rfl⟩
  case rest =>
    obtain ⟨rfl, rfl, rfl⟩ := hcut
    clear ms u1 HA HB s1
    have htu' : t ≥ u := by omega
    have xg := msd.box
    have xa := msd.ans
    have mb := msd.below
    clear msd
    generalize w2.drew = wd at *
    go_wp2_with (first
    | (with_reducible refine wpList_loadB xg (x := .tmp 3) ?_ ?_ ?_ ?_
       · with_reducible rfl
       · rfl
       · rfl)
    | (with_reducible refine wpList_storeA xa (x := .tmp 6) (y := .tmp 20) (p := p) (D := D) (E := E) (n := n) (c := c) (m := m) (d := d) ?_ ?_ ?_ ?_ ?_
       · with_reducible rfl
       · rfl
       · rfl
       · rfl))
    refine bodyPost_ret (v := gv p (.slice D n c) (.slice E m d)) (results_cell_row (P := Try.prog) Try.results57 _ _ (w.heap.size + 1) 35 _ (0, 0) _ rfl (xa.setRow _ _ _) Try.underlying35 rfl box_size) rfl ?_
    exact ⟨rfl, below_setRow mb (Nat.le_succ _) _⟩

set_option maxHeartbeats 4000000 in
theorem seq_r0 (p : Nm) (D E PD : Option Addr) (n c m d pc : Nat) (xs : List Int) (t u : Int) (w : World) (hr : ReadI w (.slice PD xs.length pc) xs) (hp : On p) (ht : withinF (toldF xs 0 1 - 1) (p.h - 1) = t) (hu : withinF (toldF xs 1 p.h - 1) (p.h - 1) = u) (htu : ¬ t < u) :
    Calls Try.prog 30 #[gv p (.slice D n c) (.slice E m d), .int .i32 114, .slice PD xs.length pc] w (ValPost (gv p (.slice D n c) (.slice E m d)) w) := by
  have HS := Lib.hid (MS.start w p (.slice D n c) (.slice E m d))
  have HT : Hid (∀ wx, Below w.heap.size w wx → Calls Try.prog 56 #[.slice PD xs.length pc, .int .i64 0, .int .i64 1] wx fun e w' => e = .returned (.int .i64 (toldF xs 0 1)) ∧ wx = w') := fun wx hb => told_any PD pc xs 0 1 wx (hr.below hb (Nat.le_refl _))
  have HT1 : Hid (∀ wx, Below w.heap.size w wx → Calls Try.prog 56 #[.slice PD xs.length pc, .int .i64 1, .int .i64 p.h] wx fun e w' => e = .returned (.int .i64 (toldF xs 1 p.h)) ∧ wx = w') := fun wx hb => told_any PD pc xs 1 p.h wx (hr.below hb (Nat.le_refl _))
  obtain ⟨k0, k1⟩ := told_le (xs := xs) (i := 0) (o := 1) (by omega) (by omega)
  obtain ⟨j0, j1⟩ := told_le (xs := xs) (i := 1) (o := p.h) hp.h0 (by have := hp.h1; omega)
  generalize toldF xs 0 1 = k at *
  generalize toldF xs 1 p.h = j at *
  have HBD := Lib.hid (fun w => bounded_no p D E n c m d (k - 1) (j - 1) t u w hp ht hu htu)
  have s1 : IntKind.i64.wrap (k - 1) = k - 1 := IntWalk.i64_in _ (by omega)
  have s2 : IntKind.i64.wrap (j - 1) = j - 1 := IntWalk.i64_in _ (by omega)
  clear hr hp ht hu htu
  unfold gv gcs
  go_enter Try.func30, Try.ntmps30
  go_upto_region 1 with fail
  refine wp_world (fun wq => MS w p (.slice D n c) (.slice E m d) wq) HS.out ?_
  clear HS
  intro w2 rs
  have HR0 := Lib.hid rs
  clear rs
  go_upto_region 19 with (
    go_at_call 56
    refine (HT.out _ HR0.out.below).mono ?_
    rintro e w' ⟨rfl, rfl⟩)
  have HR := Lib.hid HR0.out.drew
  clear HR0 HT
  refine wp_region_held_drew (S := fun w' => Box w' w.heap.size p (.slice D n c) (.slice E m d) ∧ w'.cell? ⟨w.heap.size, 1, none⟩ = some (.int .i64 p.h)) (by kernel_rfl) (by exact ⟨HR.out.box, HR.out.box.cells.c1⟩) (fun hH0 => ?_)
  refine wpAnyH_take (i := 0) (oi := _) (v := gv p (.slice D n c) (.slice E m d)) rfl (by kernel_rfl) (by kernel_rfl) (by kernel_rfl) (fun _ _ _ h => h) (yields_loadB (by rfl) rfl (by rfl) (fun _ h => h.1)) hH0 ?_
  change wpAnyH _ _ _ _ _ _ _ (Act.put _ (some 79) (gv p (.slice D n c) (.slice E m d))) _
  simp only [Act.put, List.setIfInBounds_toArray, List.set_cons_zero, List.set_cons_succ]
  refine wpAnyH_take (i := 1) (oi := _) (v := .int .i64 k) rfl (by kernel_rfl) (by kernel_rfl) (by kernel_rfl) (fun _ _ _ h => h) (Or.inl ⟨by rfl, ?_⟩) hH0 ?_
  · intro wv hSw
    try dsimp only at hSw
    go_simp
  change wpAnyH _ _ _ _ _ _ _ (Act.put _ (some 80) (.int .i64 k)) _
  simp only [Act.put, List.setIfInBounds_toArray, List.set_cons_zero, List.set_cons_succ]
  refine wpAnyH_take (i := 2) (oi := _) (v := .int .i64 (k - 1)) rfl (by kernel_rfl) (by kernel_rfl) (by kernel_rfl) (fun _ _ _ h => h) (Or.inl ⟨by rfl, ?_⟩) hH0 ?_
  · intro wv hSw
    try dsimp only at hSw
    go_simp
  change wpAnyH _ _ _ _ _ _ _ (Act.put _ (some 81) (.int .i64 (k - 1))) _
  simp only [Act.put, List.setIfInBounds_toArray, List.set_cons_zero, List.set_cons_succ]
  refine wpAnyH_take (i := 3) (oi := _) (v := .slice PD xs.length pc) rfl (by kernel_rfl) (by kernel_rfl) (by kernel_rfl) (fun _ _ _ h => h) (Or.inl ⟨by rfl, ?_⟩) hH0 ?_
  · intro wv hSw
    try dsimp only at hSw
    go_simp
  change wpAnyH _ _ _ _ _ _ _ (Act.put _ (some 82) (.slice PD xs.length pc)) _
  simp only [Act.put, List.setIfInBounds_toArray, List.set_cons_zero, List.set_cons_succ]
  refine wpAnyH_take (i := 4) (oi := _) (v := .pointer (some ⟨w.heap.size, 1, none⟩)) rfl (by kernel_rfl) (by kernel_rfl) (by kernel_rfl) (fun _ _ _ h => h) (Or.inl ⟨by rfl, ?_⟩) hH0 ?_
  · intro wv hSw
    try dsimp only at hSw
    go_simp
  change wpAnyH _ _ _ _ _ _ _ (Act.put _ (some 83) (.pointer (some ⟨w.heap.size, 1, none⟩))) _
  simp only [Act.put, List.setIfInBounds_toArray, List.set_cons_zero, List.set_cons_succ]
  refine wpAnyH_take (i := 5) (oi := _) (v := .int .i64 p.h) rfl (by kernel_rfl) (by kernel_rfl) (by kernel_rfl) (fun _ _ _ h => h) (Or.inl ⟨by rfl, ?_⟩) hH0 ?_
  · intro wv hSw
    try dsimp only at hSw
    go_simp
  change wpAnyH _ _ _ _ _ _ _ (Act.put _ (some 84) (.int .i64 p.h)) _
  simp only [Act.put, List.setIfInBounds_toArray, List.set_cons_zero, List.set_cons_succ]
  refine wpAnyH_ready (rs := [6]) (by kernel_rfl) (by simp) ?_
  refine AllReadyH.cons (o := _) rfl (fun K hK => ?_) AllReadyH.nil
  go_simp
  refine (HT1.out _ HR.out.below).mono ?_
  rintro e w' ⟨rfl, rfl⟩
  go_wp2_with fail
  refine hK.out _ _ (by exact ⟨HR.out.box, HR.out.box.cells.c1⟩) (fun hH1 => ?_)
  clear hK K
  try simp only [Act.put, List.setIfInBounds_toArray, List.set_cons_zero, List.set_cons_succ]
  refine wpAnyH_take (i := 7) (oi := _) (v := .int .i64 (j - 1)) rfl (by kernel_rfl) (by kernel_rfl) (by kernel_rfl) (fun _ _ _ h => h) (Or.inl ⟨by rfl, ?_⟩) hH1 ?_
  · intro wv hSw
    try dsimp only at hSw
    go_simp
  change wpAnyH _ _ _ _ _ _ _ (Act.put _ (some 86) (.int .i64 (j - 1))) _
  simp only [Act.put, List.setIfInBounds_toArray, List.set_cons_zero, List.set_cons_succ]
  refine wpAnyH_ready (rs := [8]) (by kernel_rfl) (by simp) ?_
  refine AllReadyH.cons (o := _) rfl (fun K hK => ?_) AllReadyH.nil
  go_simp
  refine (HBD.out w2.drew).mono ?_
  rintro e w5 ⟨rfl, b5⟩
  have x5 := HR.out.box.below b5 HR.out.box.lt
  have a5 := HR.out.ans.below b5 HR.out.ans.lt
  go_wp2_with fail
  refine hK.out _ _ (by exact ⟨x5, x5.cells.c1⟩) (fun hH2 => ?_)
  clear hK K
  try simp only [Act.put, List.setIfInBounds_toArray, List.set_cons_zero, List.set_cons_succ]
  refine wpAnyH_ready (rs := [9]) (by kernel_rfl) (by simp) ?_
  refine AllReadyH.cons (o := _) rfl (fun K hK => ?_) AllReadyH.nil
  rw [if_pos (by rfl)]
  refine wp_storeA a5 (x := .tmp 6) (y := .tmp 87) (p := p) (D := D) (E := E) (n := n) (c := c) (m := m) (d := d) rfl rfl rfl ?_
  have x6 : Box (w5.setRow (w.heap.size + 1) (gcs p (.slice D n c) (.slice E m d))) w.heap.size p (.slice D n c) (.slice E m d) := (setRow_other _ _ _ _ (by omega)).trans x5
  refine hK.out _ _ (by exact ⟨x6, x6.cells.c1⟩) (fun hH3 => ?_)
  clear hK K
  dsimp only [Act.put]
  refine wpAnyH_done (by kernel_rfl) ?_ _
  clear hH0 hH1 hH2 hH3
  go_wp2_with fail
  refine bodyPost_ret (v := gv p (.slice D n c) (.slice E m d)) (results_cell_row (P := Try.prog) Try.results30 _ _ (w.heap.size + 1) 35 _ (0, 0) _ rfl (a5.setRow _ _ _) Try.underlying35 rfl box_size) rfl ?_
  exact ⟨rfl, below_setRow (HR.out.below.trans (b5.mono HR.out.below.size)) (Nat.le_succ _) _⟩

/-- What one number switches. -/
def swF (r : Int) (p : Nm) (x : Int) : Nm := if x = 25 then { p with hidden := decide (r = 108) } else if x = 7 then { p with noWrap := decide (r = 108) } else p
def swNm (r : Int) (p : Nm) (xs : List Int) : Nm := if r = 104 ∨ r = 108 then xs.foldl (swF r) p else p
def SwRel (w : World) (r : Int) (p : Nm) (rv bv : Value) (xs : List Int) (i : Value) (wr : World) : Prop := ∃ k : Nat, i = .int .i64 (k : Int) ∧ k ≤ xs.length ∧ MS w ((xs.take k).foldl (swF r) p) rv bv wr
theorem sw_next (r : Int) (p : Nm) (xs : List Int) (k : Nat) (z : Int) (hz : xs[k]? = some z) : (xs.take (k + 1)).foldl (swF r) p = swF r ((xs.take k).foldl (swF r) p) z := by
  obtain ⟨hk, e⟩ := List.getElem?_eq_some_iff.1 hz
  rw [List.take_succ_eq_append_getElem hk, List.foldl_append, e]
  rfl

set_option maxHeartbeats 4000000 in
theorem switched_any (p : Nm) (D E PD : Option Addr) (n c m d pc : Nat) (xs : List Int) (r : Int) (w : World) (hr : ReadI w (.slice PD xs.length pc) xs) (hlx : xs.length ≤ 1000000) :
    Calls Try.prog 31 #[gv p (.slice D n c) (.slice E m d), .int .i32 r, .slice PD xs.length pc] w (ValPost (gv (swNm r p xs) (.slice D n c) (.slice E m d)) w) := by
  have HS := Lib.hid (MS.start w p (.slice D n c) (.slice E m d))
  by_cases h1 : r = 104 ∨ r = 108
  · have e : swNm r p xs = xs.foldl (swF r) p := by unfold swNm; rw [if_pos h1]
    obtain ⟨q, hq⟩ : ∃ q, q = swNm r p xs := ⟨_, rfl⟩
    rw [← hq]
    have HQ := Lib.hid (hq.trans e)
    have HX := Lib.hid hr
    clear e hq hr
    unfold gv gcs
    go_enter Try.func31, Try.ntmps31
    go_upto_region 1 with fail
    refine wp_world (fun wq => MS w p (.slice D n c) (.slice E m d) wq) HS.out ?_
    clear HS
    intro w2 ms
    go_cut [14] (fun v wx => v = .bool false ∧ w2 = wx)
    case first =>
      rcases h1 with rfl | rfl
      all_goals
        go_wp2_with fail
        go_meet
        exact ⟨rfl, rfl⟩
    case rest =>
    obtain ⟨rfl, rfl⟩ := hcut
    go_wp2_with fail
    go_loopw [18] (SwRel w r p (.slice D n c) (.slice E m d) xs) (fun i _ => xs.length - (intOf i).toNat)
    case atStart => exact ⟨0, rfl, Nat.zero_le _, ms⟩
    case round =>
      clear ms
      obtain ⟨k, rfl, hk, ms⟩ := hrel
      by_cases hlt : k < xs.length
      · have hki : (k : Int) < (xs.length : Int) := by omega
        obtain ⟨PD', pc', ee, hx⟩ := HX.out.below ms.below (Nat.le_refl _)
        cases ee
        obtain ⟨xb, xo, z, rfl, hxb, hz, hxc⟩ := hx k hlt
        have HN := Lib.hid (sw_next r p xs k z hz)
        clear hz hx
        have v11 := ms.box.cells.c11
        have v12 := ms.box.cells.c12
        have vf := ms.box.cells.free
        have hz1 := ms.box.lt
        by_cases h25 : z = 25
        · subst h25
          have m2 := ms.far (ms.box.set_hidden (decide (r = 108)))
          have e2 : swF r ((xs.take k).foldl (swF r) p) 25 = { (xs.take k).foldl (swF r) p with hidden := decide (r = 108) } := rfl
          rw [← e2, ← HN.out] at m2
          have HM2 := Lib.hid m2
          clear m2 e2 ms HN
          generalize (xs.take k).foldl (swF r) p = p1 at *
          generalize hd : decide (r = 108) = dd at *
          have hd2 : (r == 108) = dd := by rw [← hd]; rfl
          clear hd
          go_wp2_with fail
          go_roundw
          case rel => exact ⟨k + 1, by go_num, by omega, HM2.out⟩
          case measure => simp [intOf]; omega
        · by_cases h7 : z = 7
          · subst h7
            have m2 := ms.far (ms.box.set_noWrap (decide (r = 108)))
            have e2 : swF r ((xs.take k).foldl (swF r) p) 7 = { (xs.take k).foldl (swF r) p with noWrap := decide (r = 108) } := rfl
            rw [← e2, ← HN.out] at m2
            have HM2 := Lib.hid m2
            clear m2 e2 ms HN h25
            generalize (xs.take k).foldl (swF r) p = p1 at *
            generalize hd : decide (r = 108) = dd at *
            have hd2 : (r == 108) = dd := by rw [← hd]; rfl
            clear hd
            go_wp2_with fail
            go_roundw
            case rel => exact ⟨k + 1, by go_num, by omega, HM2.out⟩
            case measure => simp [intOf]; omega
          · have e2 : swF r ((xs.take k).foldl (swF r) p) z = (xs.take k).foldl (swF r) p := by unfold swF; rw [if_neg h25, if_neg h7]
            have m2 := ms
            rw [← e2, ← HN.out] at m2
            have HM2 := Lib.hid m2
            clear m2 e2 ms HN
            generalize (xs.take k).foldl (swF r) p = p1 at *
            go_wp2_with fail
            go_roundw
            case rel => exact ⟨k + 1, by go_num, by omega, HM2.out⟩
            case measure => simp [intOf]; omega
      · have hki : ¬ (k : Int) < (xs.length : Int) := by omega
        obtain rfl : k = xs.length := by omega
        rw [List.take_length, ← HQ.out] at ms
        have xg := ms.box
        have xa := ms.ans
        go_wp2_with (first
    | (with_reducible refine wpList_loadB xg (x := .tmp 3) ?_ ?_ ?_ ?_
       · with_reducible rfl
       · rfl
       · rfl)
    | (with_reducible refine wpList_storeA xa (x := .tmp 6) (y := .tmp 34) (p := q) (D := D) (E := E) (n := n) (c := c) (m := m) (d := d) ?_ ?_ ?_ ?_ ?_
       · with_reducible rfl
       · rfl
       · rfl
       · rfl))
        refine bodyPost_ret (v := gv q (.slice D n c) (.slice E m d)) (results_cell_row (P := Try.prog) Try.results31 _ _ (w.heap.size + 1) 35 _ (0, 0) _ rfl (xa.setRow q _ _) Try.underlying35 rfl box_size) rfl ?_
        exact ⟨rfl, below_setRow ms.below (Nat.le_succ _) _⟩
  · have e : swNm r p xs = p := by unfold swNm; rw [if_neg h1]
    rw [e]
    have n1 : (r != 104) = true := bne_iff_ne.2 fun h => h1 (.inl h)
    have n2 : (r != 108) = true := bne_iff_ne.2 fun h => h1 (.inr h)
    clear e h1 hr
    unfold gv gcs
    go_enter Try.func31, Try.ntmps31
    go_upto_region 1 with fail
    refine wp_world (fun wq => MS w p (.slice D n c) (.slice E m d) wq) HS.out ?_
    clear HS
    intro w2 ms
    have xg := ms.box
    have xa := ms.ans
    go_wp2_with (first
    | (with_reducible refine wpList_loadB xg (x := .tmp 3) ?_ ?_ ?_ ?_
       · with_reducible rfl
       · rfl
       · rfl)
    | (with_reducible refine wpList_storeA xa (x := .tmp 6) (y := .tmp 15) (p := p) (D := D) (E := E) (n := n) (c := c) (m := m) (d := d) ?_ ?_ ?_ ?_ ?_
       · with_reducible rfl
       · rfl
       · rfl
       · rfl))
    refine bodyPost_ret (v := gv p (.slice D n c) (.slice E m d)) (results_cell_row (P := Try.prog) Try.results31 _ _ (w.heap.size + 1) 35 _ (0, 0) _ rfl (xa.setRow p _ _) Try.underlying35 rfl box_size) rfl ?_
    exact ⟨rfl, below_setRow ms.below (Nat.le_succ _) _⟩
end Go.Proofs.Ytpcpmeihebgncaa

/-
  What signs one behind the other make of a blank screen, as plain lists, for every size and number that ActsWrap asks: reckoned. Nothing of the program is walked here. No condition.
-/
namespace Go.Proofs.Ytpcpmeihebgncaa
open Go.RowKit

/-- A screen: its numbers, its rows, the lines that went. -/
structure WS where
  p : Nm
  L : List (List C)
  B : List (List C)
def rowAt (L : List (List C)) (y : Nat) : List C := L.getD y []
def wline (s : WS) : WS := if s.p.wrap then (if s.p.y = s.p.bottom then ⟨{ s.p with x := 0 }, upG { s.p with x := 0 } s.L, upGB { s.p with x := 0 } s.L s.B⟩ else ⟨lineNm { s.p with x := 0 }, s.L, s.B⟩) else s
def wput (s : WS) (r : Int) : WS := ⟨printNm s.p, s.L.set s.p.y.toNat (putF (rowAt s.L s.p.y.toNat) s.p.x ⟨r, s.p.a⟩), s.B⟩
def wfirst (W H : Nat) (nw : Bool) : WS := ⟨{ newNm W H with noWrap := nw }, blankL W H, []⟩
def wst (W H : Nat) (nw : Bool) : Nat → WS
  | 0 => wfirst W H nw
  | i + 1 => wput (wline (wst W H nw i)) (65 + i)
/-- The screen is whole. -/
def okB (W H : Nat) (s : WS) : Bool := decide (s.p.w = W) && decide (s.p.h = H) && decide (0 ≤ s.p.x) && decide (s.p.x < W) && decide (0 ≤ s.p.y) && decide (s.p.y < H) && decide (s.L.length = H) && s.L.all (fun l => decide (l.length = W)) && decide (s.B.length ≤ 50) && s.B.all (fun l => decide (l.length ≤ 1000))
def runeAt (L : List (List C)) (y x : Nat) : Int := ((rowAt L y).getD x ⟨0, 0⟩).r
def linesN (W n : Nat) : Nat := max ((n + W - 1) / W) 1
/-- What the statement asks behind n signs. -/
def finB (W H : Nat) (nw : Bool) (n : Nat) (s : WS) : Bool :=
  if nw then decide (s.p.y = 0) && decide (s.p.x = min (n : Int) (W - 1)) && !s.p.wrap && decide (s.B.length = 0) && (decide (n < W) || decide (runeAt s.L 0 (W - 1) = 65 + n - 1))
  else decide (s.p.y = min (linesN W n : Int) H - 1) && decide (s.B.length = min (linesN W n - H) 50) && (s.p.wrap == (decide (0 < n) && decide (n % W = 0))) &&
    (List.range H).all fun y => (List.range W).all fun x => decide (runeAt s.L y x = if (linesN W n - H + y) * W + x < n then 65 + (((linesN W n - H + y) * W + x : Nat) : Int) else 32)
def chkB (W H : Nat) (nw : Bool) (n : Nat) (s : WS) : Bool := okB W H s && okB W H (wline s) && finB W H nw n s
def runB (W H : Nat) (nw : Bool) : Nat → Nat → WS → Bool
  | 0, i, s => chkB W H nw i s
  | f + 1, i, s => chkB W H nw i s && runB W H nw f (i + 1) (wput (wline s) (65 + i))
set_option maxRecDepth 100000 in
theorem run_all : ((List.range 8).all fun w => (List.range 4).all fun h => runB (w + 1) (h + 1) false 63 0 (wfirst (w + 1) (h + 1) false) && runB (w + 1) (h + 1) true 63 0 (wfirst (w + 1) (h + 1) true)) = true := by decide +kernel
theorem run_at {W H : Nat} {nw : Bool} : ∀ (f i : Nat), runB W H nw f i (wst W H nw i) = true → ∀ j, j ≤ f → chkB W H nw (i + j) (wst W H nw (i + j)) = true
  | 0, i, h, j, hj => by
    obtain rfl : j = 0 := by omega
    exact h
  | f + 1, i, h, j, hj => by
    simp only [runB, Bool.and_eq_true] at h
    cases j with
    | zero => exact h.1
    | succ j =>
      have := run_at f (i + 1) (by simpa [wst] using h.2) j (by omega)
      rw [show i + (j + 1) = i + 1 + j by omega]
      exact this
theorem chk_all (W H : Nat) (nw : Bool) (n : Nat) (hW : W < 8) (hH : H < 4) (hn : n ≤ 63) : chkB (W + 1) (H + 1) nw n (wst (W + 1) (H + 1) nw n) = true := by
  have h := run_all
  rw [List.all_eq_true] at h
  have h1 := h W (List.mem_range.2 hW)
  rw [List.all_eq_true] at h1
  have h2 := h1 H (List.mem_range.2 hH)
  rw [Bool.and_eq_true] at h2
  cases nw with
  | false => simpa using run_at 63 0 h2.1 n hn
  | true => simpa using run_at 63 0 h2.2 n hn

/-- The screen is whole. -/
structure OkS (W H : Nat) (s : WS) : Prop where
  pw : s.p.w = W
  ph : s.p.h = H
  x0 : 0 ≤ s.p.x
  x1 : s.p.x < W
  y0 : 0 ≤ s.p.y
  y1 : s.p.y < H
  ln : s.L.length = H
  rows : ∀ l ∈ s.L, l.length = W
  bn : s.B.length ≤ 50
  back : ∀ l ∈ s.B, l.length ≤ 1000
theorem okS {W H : Nat} {s : WS} (h : okB W H s = true) : OkS W H s := by
  simp only [okB, Bool.and_eq_true, decide_eq_true_eq, List.all_eq_true] at h
  obtain ⟨⟨⟨⟨⟨⟨⟨⟨⟨h0, h1⟩, h2⟩, h3⟩, h4⟩, h5⟩, h6⟩, h7⟩, h8⟩, h9⟩ := h
  exact ⟨h0, h1, h2, h3, h4, h5, h6, h7, h8, h9⟩
theorem OkS.on {W H : Nat} {s : WS} (h : OkS W H s) (hW : W ≤ 1000) (hH : H ≤ 1000) : On s.p := by
  have a := h.pw; have b := h.ph; have c := h.x0; have d := h.x1; have e := h.y0; have f := h.y1
  exact ⟨by omega, by omega, by omega, by omega, by omega, by omega, by omega, by omega⟩
theorem chk_ok {W H : Nat} {nw : Bool} {n : Nat} {s : WS} (h : chkB W H nw n s = true) : OkS W H s ∧ OkS W H (wline s) ∧ finB W H nw n s = true := by
  simp only [chkB, Bool.and_eq_true] at h
  exact ⟨okS h.1.1, okS h.1.2, h.2⟩

/-- A sign is printed. -/
theorem wprint_any (B : Nat) (s : WS) (W H : Nat) (g h : Nat) (r : Int) (w : World) (hs : OScr B w g h s.L s.B) (hW : W ≤ 1000) (hH : H ≤ 1000) (h1 : OkS W H s) (h2 : OkS W H (wline s)) :
    Calls Try.prog 27 #[ov s.p g h s.L s.B, .int .i32 r] w (InPost B g w (wput (wline s) r).p (wput (wline s) r).L (wput (wline s) r).B) := by
  obtain ⟨y, hy⟩ : ∃ y : Nat, (wline s).p.y = y := ⟨(wline s).p.y.toNat, by have := h2.y0; omega⟩
  have hyl : y < (wline s).L.length := by have := h2.y1; have := h2.ln; omega
  have e : (wline s).p.y.toNat = y := by omega
  have hr : rowAt (wline s).L y = (wline s).L[y] := by simp [rowAt, hyl]
  have hn : (wline s).L[y].length ≤ 1000 := by have := h2.rows _ (List.getElem_mem hyl); omega
  have := printed_any B s.p (wline s).p g h s.L s.B (wline s).L (wline s).B r y w hs ?_ (h2.on hW hH) hy hyl hn
  · simp only [wput, e, hr]
    exact this
  · by_cases hw : s.p.wrap = true
    · refine .inr ⟨hw, fun wx hb => ?_⟩
      have hx := hs.below hb (Nat.le_refl _)
      by_cases hb' : s.p.y = s.p.bottom
      · have e1 : wline s = ⟨{ s.p with x := 0 }, upG { s.p with x := 0 } s.L, upGB { s.p with x := 0 } s.L s.B⟩ := by simp [wline, hw, hb']
        rw [e1]
        exact lineUp_any B { s.p with x := 0 } g h s.L s.B wx hx hb' (by have := h1.ln; have := h1.y0; have := h1.y1; omega) (by have := h1.ln; omega) h1.bn (fun l hl => by have := h1.rows l hl; omega) h1.back
      · have e1 : wline s = ⟨lineNm { s.p with x := 0 }, s.L, s.B⟩ := by simp [wline, hw, hb']
        rw [e1]
        refine (line_any { s.p with x := 0 } _ _ _ _ _ _ wx (by have := h1.ph; have := h1.y0; have := h1.y1; show 1 ≤ s.p.h; omega) (by have := h1.ph; show s.p.h ≤ 1000; omega) h1.y0 hb').mono ?_
        rintro e w' ⟨rfl, hb2⟩
        exact ⟨g, h, rfl, hx.below hb2 (Nat.le_refl _), .inl rfl, hb2⟩
    · have hw' : s.p.wrap = false := by simpa using hw
      have e1 : wline s = s := by simp [wline, hw']
      rw [e1]
      exact .inl ⟨hw', rfl, rfl, rfl⟩
/-- A sign is printed, by Apply. -/
theorem wapply_any (s : WS) (W H : Nat) (D E : Option Addr) (n c m d : Nat) (r : Int) (w : World) (hs : Scr 0 w D E n c m d s.L s.B) (hW : W ≤ 1000) (hH : H ≤ 1000) (h1 : OkS W H s) (h2 : OkS W H (wline s)) :
    Calls Try.prog 14 #[gv s.p (.slice D n c) (.slice E m d), .agg #[.int .i64 1, .int .i32 r, .slice none 0 0]] w (GridPost w (wput (wline s) r).p (wput (wline s) r).L (wput (wline s) r).B) := by
  refine app_print s.p _ D E none n c m d 0 0 s.L s.B _ _ r w hs (by have := hs.nr; have := h1.ln; omega) (by have := hs.nb; have := h1.bn; omega) (fun l hl => by have := h1.rows l hl; omega) h1.back fun B wx g h hb ho => ?_
  exact wprint_any B s W H g h r wx ho hW hH h1 h2
end Go.Proofs.Ytpcpmeihebgncaa

/-
  What sequenced of package acts answers for H and f: the cursor goes to the row and the column that are told. Conditions: the screen's sides lie between 1 and 1,000, the cursor is on it.
-/
namespace Go.Proofs.Ytpcpmeihebgncaa
open Go.RowKit
set_option maxRecDepth 100000

set_option maxHeartbeats 4000000 in
theorem seq_H (p : Nm) (D E PD : Option Addr) (n c m d pc : Nat) (xs : List Int) (w : World) (hr : ReadI w (.slice PD xs.length pc) xs) (hp : On p) :
    Calls Try.prog 30 #[gv p (.slice D n c) (.slice E m d), .int .i32 72, .slice PD xs.length pc] w (ValPost (gv (movedNm p (toldF xs 1 1 - 1) (toldF xs 0 1 - 1)) (.slice D n c) (.slice E m d)) w) := by
  have HS := Lib.hid (MS.start w p (.slice D n c) (.slice E m d))
  have HT : Hid (∀ wx, Below w.heap.size w wx → Calls Try.prog 56 #[.slice PD xs.length pc, .int .i64 0, .int .i64 1] wx fun e w' => e = .returned (.int .i64 (toldF xs 0 1)) ∧ wx = w') := fun wx hb => told_any PD pc xs 0 1 wx (hr.below hb (Nat.le_refl _))
  have HT1 : Hid (∀ wx, Below w.heap.size w wx → Calls Try.prog 56 #[.slice PD xs.length pc, .int .i64 1, .int .i64 1] wx fun e w' => e = .returned (.int .i64 (toldF xs 1 1)) ∧ wx = w') := fun wx hb => told_any PD pc xs 1 1 wx (hr.below hb (Nat.le_refl _))
  obtain ⟨k0, k1⟩ := told_le (xs := xs) (i := 0) (o := 1) (by omega) (by omega)
  obtain ⟨j0, j1⟩ := told_le (xs := xs) (i := 1) (o := 1) (by omega) (by omega)
  generalize toldF xs 0 1 = k at *
  generalize toldF xs 1 1 = j at *
  obtain ⟨w0, w1, h0, h1, x0, x1, y0, y1⟩ := hp
  have s1 : IntKind.i64.wrap (k - 1) = k - 1 := IntWalk.i64_in _ (by omega)
  have s2 : IntKind.i64.wrap (j - 1) = j - 1 := IntWalk.i64_in _ (by omega)
  clear hr
  unfold gv gcs
  go_enter Try.func30, Try.ntmps30
  go_upto_region 1 with fail
  refine wp_world (fun wq => MS w p (.slice D n c) (.slice E m d) wq) HS.out ?_
  clear HS
  intro w2 rs
  have xg := rs.box
  have HR := Lib.hid rs
  clear rs
  go_upto_region 17 with (
    go_at_call 56
    refine (HT.out _ HR.out.below).mono ?_
    rintro e w' ⟨rfl, rfl⟩)
  have rsd := HR.out.drew
  have HM := Lib.hid (moved_any p D E n c m d (j - 1) (k - 1) w2.drew w0 w1 h0 h1)
  clear w0 w1 h0 h1
  have xd := rsd.box
  obtain ⟨y0, y1, y2, y3, y4, y5, y6, y7, y8, y9, y10, y11, y12, y13, y14, yf⟩ := xd.cells
  go_region_with (first
    | (go_at_call 56
       with_reducible refine (HT1.out _ rsd.below).mono ?_
       rintro e w' ⟨rfl, rfl⟩)
    | (go_at_call 54
       refine HM.out.mono ?_
       rintro e w5 ⟨rfl, hb5⟩
       have xa := rsd.ans.below hb5 rsd.ans.lt
       have hc := xa.cells
       simp only [zeroNm, nilV] at hc
       obtain ⟨a0, a1, a2, a3, a4, a5, a6, a7, a8, a9, a10, a11, a12, a13, a14, af⟩ := hc
       generalize hq : movedNm p (j - 1) (k - 1) = q at *
       unfold gv gcs))
  all_goals
    clear y0 y1 y2 y3 y4 y5 y6 y7 y8 y9 y10 y11 y12 y13 y14 yf
    clear a0 a1 a2 a3 a4 a5 a6 a7 a8 a9 a10 a11 a12 a13 a14 af
    go_wp2_with fail
    change bodyPost _ _ _ _ _ (put15 w5 (w.heap.size + 1) q (.slice D n c) (.slice E m d))
    have HZ := Lib.hid (put15_box xa (p := q) (.slice D n c) (.slice E m d)).cells
    have HB := Lib.hid (put15_below (rsd.below.trans (hb5.mono rsd.below.size)) (Nat.le_succ _) q (.slice D n c) (.slice E m d))
    generalize put15 w5 (w.heap.size + 1) q (.slice D n c) (.slice E m d) = wz at *
    obtain ⟨y0, y1, y2, y3, y4, y5, y6, y7, y8, y9, y10, y11, y12, y13, y14, yf⟩ := HZ.out
    refine bodyPost_ret (v := gv q (.slice D n c) (.slice E m d)) (by simp [results, Try.results30, go_sem, gv, gcs, y0, y1, y2, y3, y4, y5, y6, y7, y8, y9, y10, y11, y12, y13, y14]) rfl ?_
    exact ⟨rfl, HB.out⟩

set_option maxHeartbeats 4000000 in
theorem seq_f (p : Nm) (D E PD : Option Addr) (n c m d pc : Nat) (xs : List Int) (w : World) (hr : ReadI w (.slice PD xs.length pc) xs) (hp : On p) :
    Calls Try.prog 30 #[gv p (.slice D n c) (.slice E m d), .int .i32 102, .slice PD xs.length pc] w (ValPost (gv (movedNm p (toldF xs 1 1 - 1) (toldF xs 0 1 - 1)) (.slice D n c) (.slice E m d)) w) := by
  have HS := Lib.hid (MS.start w p (.slice D n c) (.slice E m d))
  have HT : Hid (∀ wx, Below w.heap.size w wx → Calls Try.prog 56 #[.slice PD xs.length pc, .int .i64 0, .int .i64 1] wx fun e w' => e = .returned (.int .i64 (toldF xs 0 1)) ∧ wx = w') := fun wx hb => told_any PD pc xs 0 1 wx (hr.below hb (Nat.le_refl _))
  have HT1 : Hid (∀ wx, Below w.heap.size w wx → Calls Try.prog 56 #[.slice PD xs.length pc, .int .i64 1, .int .i64 1] wx fun e w' => e = .returned (.int .i64 (toldF xs 1 1)) ∧ wx = w') := fun wx hb => told_any PD pc xs 1 1 wx (hr.below hb (Nat.le_refl _))
  obtain ⟨k0, k1⟩ := told_le (xs := xs) (i := 0) (o := 1) (by omega) (by omega)
  obtain ⟨j0, j1⟩ := told_le (xs := xs) (i := 1) (o := 1) (by omega) (by omega)
  generalize toldF xs 0 1 = k at *
  generalize toldF xs 1 1 = j at *
  obtain ⟨w0, w1, h0, h1, x0, x1, y0, y1⟩ := hp
  have s1 : IntKind.i64.wrap (k - 1) = k - 1 := IntWalk.i64_in _ (by omega)
  have s2 : IntKind.i64.wrap (j - 1) = j - 1 := IntWalk.i64_in _ (by omega)
  clear hr
  unfold gv gcs
  go_enter Try.func30, Try.ntmps30
  go_upto_region 1 with fail
  refine wp_world (fun wq => MS w p (.slice D n c) (.slice E m d) wq) HS.out ?_
  clear HS
  intro w2 rs
  have xg := rs.box
  have HR := Lib.hid rs
  clear rs
  go_upto_region 17 with (
    go_at_call 56
    refine (HT.out _ HR.out.below).mono ?_
    rintro e w' ⟨rfl, rfl⟩)
  have rsd := HR.out.drew
  have HM := Lib.hid (moved_any p D E n c m d (j - 1) (k - 1) w2.drew w0 w1 h0 h1)
  clear w0 w1 h0 h1
  have xd := rsd.box
  obtain ⟨y0, y1, y2, y3, y4, y5, y6, y7, y8, y9, y10, y11, y12, y13, y14, yf⟩ := xd.cells
  go_region_with (first
    | (go_at_call 56
       with_reducible refine (HT1.out _ rsd.below).mono ?_
       rintro e w' ⟨rfl, rfl⟩)
    | (go_at_call 54
       refine HM.out.mono ?_
       rintro e w5 ⟨rfl, hb5⟩
       have xa := rsd.ans.below hb5 rsd.ans.lt
       have hc := xa.cells
       simp only [zeroNm, nilV] at hc
       obtain ⟨a0, a1, a2, a3, a4, a5, a6, a7, a8, a9, a10, a11, a12, a13, a14, af⟩ := hc
       generalize hq : movedNm p (j - 1) (k - 1) = q at *
       unfold gv gcs))
  all_goals
    clear y0 y1 y2 y3 y4 y5 y6 y7 y8 y9 y10 y11 y12 y13 y14 yf
    clear a0 a1 a2 a3 a4 a5 a6 a7 a8 a9 a10 a11 a12 a13 a14 af
    go_wp2_with fail
    change bodyPost _ _ _ _ _ (put15 w5 (w.heap.size + 1) q (.slice D n c) (.slice E m d))
    have HZ := Lib.hid (put15_box xa (p := q) (.slice D n c) (.slice E m d)).cells
    have HB := Lib.hid (put15_below (rsd.below.trans (hb5.mono rsd.below.size)) (Nat.le_succ _) q (.slice D n c) (.slice E m d))
    generalize put15 w5 (w.heap.size + 1) q (.slice D n c) (.slice E m d) = wz at *
    obtain ⟨y0, y1, y2, y3, y4, y5, y6, y7, y8, y9, y10, y11, y12, y13, y14, yf⟩ := HZ.out
    refine bodyPost_ret (v := gv q (.slice D n c) (.slice E m d)) (by simp [results, Try.results30, go_sem, gv, gcs, y0, y1, y2, y3, y4, y5, y6, y7, y8, y9, y10, y11, y12, y13, y14]) rfl ?_
    exact ⟨rfl, HB.out⟩
end Go.Proofs.Ytpcpmeihebgncaa

/-
  What an action makes of a screen, as one plain function; what controlled, escaped, rewritten, sequenced, switched and Apply of package acts answer, told by it. Conditions: the screen is whole (its sides between 1 and 1,000, its rows as wide as it, at most fifty lines that went), at most a million parameters.
-/
namespace Go.Proofs.Ytpcpmeihebgncaa
open Go.RowKit
set_option maxRecDepth 100000

def mvS (s : WS) (X Y : Int) : WS := ⟨movedNm s.p X Y, s.L, s.B⟩
def lineS (s : WS) : WS := if s.p.y = s.p.bottom then ⟨s.p, upG s.p s.L, upGB s.p s.L s.B⟩ else ⟨lineNm s.p, s.L, s.B⟩
def backS (s : WS) : WS := if s.p.y = s.p.top then ⟨movedNm s.p s.p.x s.p.y, downG s.p s.L, s.B⟩ else mvS s s.p.x (s.p.y - 1)
def ctlF (s : WS) (r : Int) : WS :=
  if r = 8 then mvS s (s.p.x - 1) s.p.y
  else if r = 9 then mvS s ((s.p.x / 8 + 1) * 8) s.p.y
  else if r = 10 ∨ r = 11 ∨ r = 12 then mvS (lineS s) (lineS s).p.x (lineS s).p.y
  else if r = 13 then mvS s 0 s.p.y
  else s
def escF (s : WS) (r : Int) : WS :=
  if r = 68 then mvS (lineS s) (lineS s).p.x (lineS s).p.y
  else if r = 77 then backS s
  else if r = 69 then mvS (lineS s) 0 (lineS s).p.y
  else if r = 55 then ⟨{ s.p with sx := s.p.x, sy := s.p.y, sa := s.p.a }, s.L, s.B⟩
  else if r = 56 then ⟨movedNm { s.p with a := s.p.sa } s.p.sx s.p.sy, s.L, s.B⟩
  else if r = 99 then ⟨newNm s.p.w s.p.h, blankL s.p.w s.p.h.toNat, s.B⟩
  else s
/-- The cursor's row is another one. -/
def rowS (s : WS) (f : List C → List C) : WS := ⟨s.p, s.L.set s.p.y.toNat (f (rowAt s.L s.p.y.toNat)), s.B⟩
def rewF (s : WS) (r n part : Int) : WS :=
  if r = 74 then (if part = 0 ∨ part = 1 ∨ part = 2 then ⟨s.p, scrF (rowS s fun l => rclearF l part s.p.x).L part s.p.y.toNat s.L.length, s.B⟩ else s)
  else if r = 75 then (if part = 0 ∨ part = 1 ∨ part = 2 then rowS s fun l => rclearF l part s.p.x else s)
  else if r = 76 then (if s.p.y < s.p.top ∨ s.p.bottom < s.p.y then s else ⟨movedNm s.p 0 s.p.y, downT s.L s.p.w s.p.y s.p.bottom n, s.B⟩)
  else if r = 77 then (if s.p.y < s.p.top ∨ s.p.bottom < s.p.y then s else ⟨movedNm s.p 0 s.p.y, upT s.L s.p.w s.p.y s.p.bottom n, s.B⟩)
  else if r = 64 then rowS s fun l => insertF l s.p.x n
  else if r = 80 then rowS s fun l => deleteF l s.p.x n
  else if r = 88 then rowS s fun l => clearF l s.p.x (s.p.x + n)
  else if r = 83 then ⟨s.p, upT s.L s.p.w s.p.top s.p.bottom n, upTB s.L s.B s.p.top s.p.bottom n⟩
  else if r = 84 then ⟨s.p, downT s.L s.p.w s.p.top s.p.bottom n, s.B⟩
  else s
def csiF (s : WS) (r : Int) (xs : List Int) : WS :=
  if r = 65 then mvS s s.p.x (s.p.y - toldF xs 0 1)
  else if r = 66 then mvS s s.p.x (s.p.y + toldF xs 0 1)
  else if r = 67 then mvS s (s.p.x + toldF xs 0 1) s.p.y
  else if r = 68 then mvS s (s.p.x - toldF xs 0 1) s.p.y
  else if r = 71 then mvS s (toldF xs 0 1 - 1) s.p.y
  else if r = 100 then mvS s s.p.x (toldF xs 0 1 - 1)
  else if r = 72 ∨ r = 102 then mvS s (toldF xs 1 1 - 1) (toldF xs 0 1 - 1)
  else if r = 114 then (if withinF (toldF xs 0 1 - 1) (s.p.h - 1) < withinF (toldF xs 1 s.p.h - 1) (s.p.h - 1) then ⟨movedNm { s.p with top := withinF (toldF xs 0 1 - 1) (s.p.h - 1), bottom := withinF (toldF xs 1 s.p.h - 1) (s.p.h - 1) } 0 0, s.L, s.B⟩ else s)
  else if r = 109 then ⟨{ s.p with a := Attr.applyF s.p.a xs }, s.L, s.B⟩
  else rewF s r (toldF xs 0 1) (toldF xs 0 0)
/-- What an action makes of a screen. -/
def actF (s : WS) (kind r : Int) (xs : List Int) : WS :=
  if kind = 1 then wput (wline s) r
  else if kind = 2 then ctlF s r
  else if kind = 3 then escF s r
  else if kind = 4 then csiF s r xs
  else if kind = 5 then ⟨swNm r s.p xs, s.L, s.B⟩
  else s

/-! ### a whole screen stays whole -/
/-- The screen is whole: its sides, its rows, its cursor, its region, its lines that went. -/
structure Wk (W H : Nat) (s : WS) : Prop where
  ok : OkS W H s
  W1 : 1 ≤ W
  W2 : W ≤ 1000
  H1 : 1 ≤ H
  H2 : H ≤ 1000
  t0 : 0 ≤ s.p.top
  tb : s.p.top ≤ s.p.bottom
  b1 : s.p.bottom < H
theorem Wk.on {W H : Nat} {s : WS} (h : Wk W H s) : On s.p := h.ok.on h.W2 h.H2
theorem Wk.rows {W H : Nat} {s : WS} (h : Wk W H s) : ∀ r ∈ s.L, r.length ≤ 1000 := fun l hl => by have := h.ok.rows l hl; have := h.W2; omega
theorem within_lt (a : Int) (n : Nat) (hn : 1 ≤ n) : 0 ≤ withinF a ((n : Int) - 1) ∧ withinF a ((n : Int) - 1) < n := by unfold withinF; omega
theorem Wk.mv {W H : Nat} {s : WS} (h : Wk W H s) (X Y : Int) : Wk W H (mvS s X Y) := by
  have hx := within_lt X W h.W1
  have hy := within_lt Y H h.H1
  have ew := h.ok.pw
  have eh := h.ok.ph
  exact ⟨⟨ew, eh, by show 0 ≤ withinF X (s.p.w - 1); rw [ew]; exact hx.1, by show withinF X (s.p.w - 1) < W; rw [ew]; exact hx.2, by show 0 ≤ withinF Y (s.p.h - 1); rw [eh]; exact hy.1, by show withinF Y (s.p.h - 1) < H; rw [eh]; exact hy.2, h.ok.ln, h.ok.rows, h.ok.bn, h.ok.back⟩, h.W1, h.W2, h.H1, h.H2, h.t0, h.tb, h.b1⟩
theorem blankF_w (W : Nat) (h : W ≤ 1000) : (blankF (W : Int)).length = W := by rw [blankF_len]; unfold withinF; omega
theorem upL_w {L : List (List C)} {f t k : Nat} {W : Nat} (hW : W ≤ 1000) (hl : ∀ r ∈ L, r.length = W) : ∀ r ∈ upL L f t k (W : Int), r.length = W := by
  intro r hr
  simp only [upL, List.flatten_cons, List.flatten_nil, List.mem_append, List.append_nil] at hr
  rcases hr with h | h | h | h
  · exact hl r (List.mem_of_mem_take h)
  · exact hl r (List.mem_of_mem_take (List.mem_of_mem_drop h))
  · rw [(List.mem_replicate.1 h).2]; exact blankF_w W hW
  · exact hl r (List.mem_of_mem_drop h)
theorem downL_w {L : List (List C)} {f t k : Nat} {W : Nat} (hW : W ≤ 1000) (hl : ∀ r ∈ L, r.length = W) : ∀ r ∈ downL L f t k (W : Int), r.length = W := by
  intro r hr
  simp only [downL, List.flatten_cons, List.flatten_nil, List.mem_append, List.append_nil] at hr
  rcases hr with h | h | h | h
  · exact hl r (List.mem_of_mem_take h)
  · rw [(List.mem_replicate.1 h).2]; exact blankF_w W hW
  · exact hl r (List.mem_of_mem_take (List.mem_of_mem_drop h))
  · exact hl r (List.mem_of_mem_drop h)
theorem part_in (n : Nat) (h : 1 ≤ n) (top bottom z : Int) : fromF n top + (withinF z (toF n top bottom - fromF n top)).toNat ≤ toF n top bottom ∧ toF n top bottom ≤ n := by
  unfold toF fromF withinF
  omega
theorem upBack_ge {L Bk : List (List C)} {f k : Nat} (hb : Bk.length ≤ 50) : Bk.length ≤ (upBack L Bk f k).length := by
  unfold upBack
  split
  · rw [List.length_drop]
    simp only [List.flatten_cons, List.flatten_nil, List.length_append, List.append_nil]
    omega
  · exact Nat.le_refl _
theorem Wk.up {W H : Nat} {s : WS} (h : Wk W H s) (q : Nm) (top bottom n : Int) (B2 : List (List C)) (hq : Wk W H ⟨q, s.L, s.B⟩) (hb : B2.length ≤ 50) (hbr : ∀ l ∈ B2, l.length ≤ 1000) : Wk W H ⟨q, upT s.L s.p.w top bottom n, B2⟩ := by
  have ew := h.ok.pw
  have hp := part_in s.L.length (by rw [h.ok.ln]; exact h.H1) top bottom n
  refine ⟨⟨hq.ok.pw, hq.ok.ph, hq.ok.x0, hq.ok.x1, hq.ok.y0, hq.ok.y1, ?_, ?_, hb, hbr⟩, h.W1, h.W2, h.H1, h.H2, hq.t0, hq.tb, hq.b1⟩
  · show (upT s.L s.p.w top bottom n).length = H
    unfold upT
    rw [upL_len s.p.w rfl hp.1 hp.2, h.ok.ln]
  · show ∀ l ∈ upT s.L s.p.w top bottom n, l.length = W
    unfold upT
    rw [ew]
    exact upL_w h.W2 h.ok.rows
theorem Wk.down {W H : Nat} {s : WS} (h : Wk W H s) (q : Nm) (top bottom n : Int) (hq : Wk W H ⟨q, s.L, s.B⟩) : Wk W H ⟨q, downT s.L s.p.w top bottom n, s.B⟩ := by
  have ew := h.ok.pw
  have hp := part_in s.L.length (by rw [h.ok.ln]; exact h.H1) top bottom n
  refine ⟨⟨hq.ok.pw, hq.ok.ph, hq.ok.x0, hq.ok.x1, hq.ok.y0, hq.ok.y1, ?_, ?_, h.ok.bn, h.ok.back⟩, h.W1, h.W2, h.H1, h.H2, hq.t0, hq.tb, hq.b1⟩
  · show (downT s.L s.p.w top bottom n).length = H
    unfold downT
    rw [downL_len s.p.w rfl hp.1 hp.2, h.ok.ln]
  · show ∀ l ∈ downT s.L s.p.w top bottom n, l.length = W
    unfold downT
    rw [ew]
    exact downL_w h.W2 h.ok.rows
theorem Wk.line {W H : Nat} {s : WS} (h : Wk W H s) : Wk W H (lineS s) := by
  unfold lineS
  split
  · exact h.up s.p s.p.top s.p.bottom 1 (upGB s.p s.L s.B) h (upBack_len h.ok.bn) (upBack_rows h.rows h.ok.back)
  · have eh := h.ok.ph
    have y0 := h.ok.y0
    have y1 := h.ok.y1
    refine ⟨⟨h.ok.pw, h.ok.ph, h.ok.x0, h.ok.x1, ?_, ?_, h.ok.ln, h.ok.rows, h.ok.bn, h.ok.back⟩, h.W1, h.W2, h.H1, h.H2, h.t0, h.tb, h.b1⟩
    · show 0 ≤ (lineNm s.p).y
      simp only [lineNm]
      split <;> omega
    · show (lineNm s.p).y < H
      simp only [lineNm]
      split <;> omega
theorem Wk.x {W H : Nat} {s : WS} (h : Wk W H s) : Wk W H ⟨{ s.p with x := 0 }, s.L, s.B⟩ := ⟨⟨h.ok.pw, h.ok.ph, Int.le_refl _, by have := h.W1; show (0 : Int) < W; omega, h.ok.y0, h.ok.y1, h.ok.ln, h.ok.rows, h.ok.bn, h.ok.back⟩, h.W1, h.W2, h.H1, h.H2, h.t0, h.tb, h.b1⟩
theorem Wk.wline {W H : Nat} {s : WS} (h : Wk W H s) : Wk W H (Ytpcpmeihebgncaa.wline s) := by
  unfold Ytpcpmeihebgncaa.wline
  split
  · exact h.x.line
  · exact h
/-- The cursor's row is there. -/
theorem Wk.at {W H : Nat} {s : WS} (h : Wk W H s) : ∃ (y : Nat) (hy : y < s.L.length), s.p.y = y ∧ s.p.y.toNat = y ∧ rowAt s.L y = s.L[y] ∧ s.L[y].length = W ∧ s.L[y].length ≤ 1000 := by
  have y0 := h.ok.y0
  have y1 := h.ok.y1
  have hl : s.p.y.toNat < s.L.length := by rw [h.ok.ln]; omega
  have hw := h.ok.rows _ (List.getElem_mem hl)
  exact ⟨s.p.y.toNat, hl, by omega, rfl, by simp [rowAt, hl], hw, by have := h.W2; omega⟩
theorem Wk.set {W H : Nat} {s : WS} (h : Wk W H s) (q : Nm) (y : Nat) (l : List C) (hl : l.length = W) (hq : Wk W H ⟨q, s.L, s.B⟩) : Wk W H ⟨q, s.L.set y l, s.B⟩ := by
  refine ⟨⟨hq.ok.pw, hq.ok.ph, hq.ok.x0, hq.ok.x1, hq.ok.y0, hq.ok.y1, ?_, ?_, h.ok.bn, h.ok.back⟩, h.W1, h.W2, h.H1, h.H2, hq.t0, hq.tb, hq.b1⟩
  · show (s.L.set y l).length = H
    rw [List.length_set, h.ok.ln]
  · intro r hr
    rcases List.mem_or_eq_of_mem_set hr with hr | rfl
    · exact h.ok.rows r hr
    · exact hl
theorem Wk.put {W H : Nat} {s : WS} (h : Wk W H s) (r : Int) : Wk W H (wput s r) := by
  obtain ⟨y, hy, e1, e2, e3, e4, _⟩ := h.at
  have ew := h.ok.pw
  have x0 := h.ok.x0
  have x1 := h.ok.x1
  unfold wput
  rw [e2, e3]
  refine h.set _ y _ (by rw [putF_len]; exact e4) ?_
  unfold printNm
  split
  · exact ⟨⟨h.ok.pw, h.ok.ph, h.ok.x0, h.ok.x1, h.ok.y0, h.ok.y1, h.ok.ln, h.ok.rows, h.ok.bn, h.ok.back⟩, h.W1, h.W2, h.H1, h.H2, h.t0, h.tb, h.b1⟩
  · exact ⟨⟨h.ok.pw, h.ok.ph, by show 0 ≤ s.p.x + 1; omega, by show s.p.x + 1 < W; omega, h.ok.y0, h.ok.y1, h.ok.ln, h.ok.rows, h.ok.bn, h.ok.back⟩, h.W1, h.W2, h.H1, h.H2, h.t0, h.tb, h.b1⟩

/-! ### the contracts, told by the plain functions -/
theorem lineS_any {W H B : Nat} {s : WS} {g h : Nat} (w : World) (hs : OScr B w g h s.L s.B) (k : Wk W H s) : Calls Try.prog 50 #[ov s.p g h s.L s.B] w (LinePost B g w (lineS s).p (lineS s).L (lineS s).B) := by
  by_cases e : s.p.y = s.p.bottom
  · have e1 : lineS s = ⟨s.p, upG s.p s.L, upGB s.p s.L s.B⟩ := by unfold lineS; rw [if_pos e]
    rw [e1]
    exact lineUp_any B s.p g h s.L s.B w hs e (by rw [k.ok.ln]; exact k.H1) (by rw [k.ok.ln]; exact k.H2) k.ok.bn k.rows k.ok.back
  · have e1 : lineS s = ⟨lineNm s.p, s.L, s.B⟩ := by unfold lineS; rw [if_neg e]
    rw [e1]
    refine (line_any s.p _ _ _ _ _ _ w k.on.h0 k.on.h1 k.ok.y0 e).mono ?_
    rintro e w' ⟨rfl, hb⟩
    exact ⟨g, h, rfl, hs.below hb (Nat.le_refl _), .inl rfl, hb⟩
theorem into {B g h : Nat} {w : World} {F : Nat} {args : Array Value} {p : Nm} {L Bk : List (List C)} (hs : OScr B w g h L Bk) (c : Calls Try.prog F args w (ValPost (ov p g h L Bk) w)) : Calls Try.prog F args w (InPost B g w p L Bk) := c.mono fun _ _ t => ValPost.into hs t
theorem ctl_all {W H B : Nat} {s : WS} {g h : Nat} (r : Int) (w : World) (hs : OScr B w g h s.L s.B) (k : Wk W H s) : Calls Try.prog 28 #[ov s.p g h s.L s.B, .int .i32 r] w (InPost B g w (ctlF s r).p (ctlF s r).L (ctlF s r).B) := by
  unfold ctlF
  by_cases h1 : r = 8
  · subst h1
    exact into hs (ctl_8 s.p _ _ _ _ _ _ w k.on)
  rw [if_neg h1]
  by_cases h2 : r = 9
  · subst h2
    exact into hs (ctl_9 s.p _ _ _ _ _ _ w k.on)
  rw [if_neg h2]
  by_cases h3 : r = 10 ∨ r = 11 ∨ r = 12
  · rw [if_pos h3]
    have hT : ∀ wx, Below w.heap.size w wx → Calls Try.prog 50 #[ov s.p g h s.L s.B] wx (LinePost B g wx (lineS s).p (lineS s).L (lineS s).B) := fun wx hb => lineS_any wx (hs.below hb (Nat.le_refl _)) k
    rcases h3 with rfl | rfl | rfl
    · exact ctl_10 B s.p (lineS s).p g h s.L s.B _ _ w hs k.line.on hT
    · exact ctl_11 B s.p (lineS s).p g h s.L s.B _ _ w hs k.line.on hT
    · exact ctl_12 B s.p (lineS s).p g h s.L s.B _ _ w hs k.line.on hT
  rw [if_neg h3]
  by_cases h4 : r = 13
  · subst h4
    exact into hs (ctl_13 s.p _ _ _ _ _ _ w k.on)
  rw [if_neg h4]
  exact into hs (ctl_no s.p _ _ _ _ _ _ r w ⟨h1, h2, fun e => h3 (.inl e), fun e => h3 (.inr (.inl e)), fun e => h3 (.inr (.inr e)), h4⟩)
end Go.Proofs.Ytpcpmeihebgncaa

/-
  What escaped, rewritten, sequenced and Apply of package acts answer, told by the plain functions of an action. Conditions: the screen is whole, at most a million parameters.
-/
namespace Go.Proofs.Ytpcpmeihebgncaa
open Go.RowKit
set_option maxRecDepth 100000

set_option maxHeartbeats 4000000 in
theorem lineBack_else (p : Nm) (D E : Option Addr) (n c m d : Nat) (w : World) (hp : On p) (hy : ¬ p.y = p.top) :
    Calls Try.prog 55 #[gv p (.slice D n c) (.slice E m d)] w (ValPost (gv (movedNm p p.x (p.y - 1)) (.slice D n c) (.slice E m d)) w) := by
  have HS := Lib.hid (MS.start w p (.slice D n c) (.slice E m d))
  obtain ⟨w0, w1, h0, h1, x0, x1, y0, y1⟩ := hp
  have s1 : IntKind.i64.wrap (p.y - 1) = p.y - 1 := IntWalk.i64_in _ (by omega)
  unfold gv gcs
  go_enter Try.func55, Try.ntmps55
  go_upto_region 1 with fail
  refine wp_world (fun wq => MS w p (.slice D n c) (.slice E m d) wq) HS.out ?_
  clear HS
  intro w2 rs
  have xg := rs.box
  have u2 := xg.cells.c2
  have u3 := xg.cells.c3
  have u6 := xg.cells.c6
  have HM := Lib.hid (moved_any p D E n c m d p.x (p.y - 1) w2 w0 w1 h0 h1)
  have HR := Lib.hid rs
  clear rs w0 w1 h0 h1 x0 x1 y0 y1
  go_wp2_with (first
    | (with_reducible refine wpList_loadB xg (x := .tmp 1) ?_ ?_ ?_ ?_
       · with_reducible rfl
       · rfl
       · rfl)
    | (go_at_call 54
       refine HM.out.mono ?_
       clear HM
       rintro e w5 ⟨rfl, hb5⟩
       have xa := HR.out.ans.below hb5 HR.out.ans.lt
       generalize hq : movedNm p p.x (p.y - 1) = q at *)
    | (with_reducible refine wpList_storeA xa (x := .tmp 2) (y := .tmp 26) (p := q) (D := D) (E := E) (n := n) (c := c) (m := m) (d := d) ?_ ?_ ?_ ?_ ?_
       · with_reducible rfl
       · rfl
       · rfl
       · rfl))
  refine bodyPost_ret (v := gv q (.slice D n c) (.slice E m d)) (results_cell_row (P := Try.prog) Try.results55 _ _ (w.heap.size + 1) 35 _ (0, 0) _ rfl (xa.setRow q _ _) Try.underlying35 rfl box_size) rfl ?_
  exact ⟨rfl, below_setRow (HR.out.below.trans (hb5.mono HR.out.below.size)) (Nat.le_succ _) _⟩

set_option maxHeartbeats 4000000 in
theorem backS_any {W H B : Nat} {s : WS} {g h : Nat} (w : World) (hs : OScr B w g h s.L s.B) (k : Wk W H s) : Calls Try.prog 55 #[ov s.p g h s.L s.B] w (LinePost B g w (backS s).p (backS s).L (backS s).B) := by
  by_cases e : s.p.y = s.p.top
  · have e1 : backS s = ⟨movedNm s.p s.p.x s.p.y, downG s.p s.L, s.B⟩ := by unfold backS; rw [if_pos e]
    rw [e1]
    exact lineBack_any B s.p g h s.L s.B w hs k.on e (by rw [k.ok.ln]; exact k.H1) (by rw [k.ok.ln]; exact k.H2) k.ok.bn k.rows k.ok.back
  · have e1 : backS s = mvS s s.p.x (s.p.y - 1) := by unfold backS; rw [if_neg e]
    rw [e1]
    refine (lineBack_else s.p _ _ _ _ _ _ w k.on e).mono ?_
    rintro e w' ⟨rfl, hb⟩
    exact ⟨g, h, rfl, hs.below hb (Nat.le_refl _), .inl rfl, hb⟩
set_option maxHeartbeats 4000000 in
theorem esc_all {W H B : Nat} {s : WS} {g h : Nat} (r : Int) (w : World) (hs : OScr B w g h s.L s.B) (k : Wk W H s) : Calls Try.prog 29 #[ov s.p g h s.L s.B, .int .i32 r] w (InPost B g w (escF s r).p (escF s r).L (escF s r).B) := by
  have hT : ∀ wx, Below w.heap.size w wx → Calls Try.prog 50 #[ov s.p g h s.L s.B] wx (LinePost B g wx (lineS s).p (lineS s).L (lineS s).B) := fun wx hb => lineS_any wx (hs.below hb (Nat.le_refl _)) k
  unfold escF
  by_cases h1 : r = 68
  · subst h1
    exact escD_any B s.p (lineS s).p g h s.L s.B _ _ w hs k.line.on hT
  rw [if_neg h1]
  by_cases h2 : r = 77
  · subst h2
    exact escM_any B s.p (backS s).p g h s.L s.B _ _ w hs fun wx hb => backS_any wx (hs.below hb (Nat.le_refl _)) k
  rw [if_neg h2]
  by_cases h3 : r = 69
  · subst h3
    exact esc_E B s.p (lineS s).p g h s.L s.B _ _ w hs k.line.on hT
  rw [if_neg h3]
  by_cases h4 : r = 55
  · subst h4
    exact into hs (esc_7 s.p _ _ _ _ _ _ w)
  rw [if_neg h4]
  by_cases h5 : r = 56
  · subst h5
    exact into hs (esc_8 s.p _ _ _ _ _ _ w k.on)
  rw [if_neg h5]
  by_cases h6 : r = 99
  · subst h6
    exact esc_c B s.p g h s.L s.B w hs k.on
  rw [if_neg h6]
  exact into hs (esc_no s.p _ _ _ _ _ _ r w ⟨h1, h2, h3, h4, h5, h6⟩)
set_option maxHeartbeats 4000000 in
theorem rew_all {W H B : Nat} {s : WS} {g h : Nat} (r n part : Int) (w : World) (hs : OScr B w g h s.L s.B) (k : Wk W H s) (n0 : 0 ≤ n) (n1 : n ≤ 1048576) : Calls Try.prog 59 #[ov s.p g h s.L s.B, .int .i32 r, .int .i64 n, .int .i64 part] w (InPost B g w (rewF s r n part).p (rewF s r n part).L (rewF s r n part).B) := by
  obtain ⟨y, hy, e1, e2, e3, e4, e5⟩ := k.at
  have x0 := k.ok.x0
  have x1 : s.p.x ≤ 1000 := by have := k.ok.x1; have := k.W2; omega
  have l0 : 1 ≤ s.L.length := by rw [k.ok.ln]; exact k.H1
  have l1 : s.L.length ≤ 1000 := by rw [k.ok.ln]; exact k.H2
  unfold rewF
  by_cases h1 : r = 74
  · subst h1
    rw [if_pos rfl]
    by_cases hp : part = 0 ∨ part = 1 ∨ part = 2
    · rw [if_pos hp]
      refine rew_J B s.p g h s.L s.B _ n part w hs fun wx hx => ?_
      have := screenCleared_any B s.p g h s.L s.B part y wx hx x0 x1 e1 hy k.rows l1 hp
      simp only [rowS, e2, e3]
      exact this
    · rw [if_neg hp]
      exact rew_J B s.p g h s.L s.B _ n part w hs fun wx hx => screenCleared_no B s.p g h s.L s.B part y wx hx e1 hy l1 (fun e => hp (.inl e)) (fun e => hp (.inr (.inl e))) (fun e => hp (.inr (.inr e)))
  rw [if_neg h1]
  by_cases h2 : r = 75
  · subst h2
    rw [if_pos rfl]
    by_cases hp : part = 0 ∨ part = 1 ∨ part = 2
    · rw [if_pos hp]
      refine rew_K B s.p g h s.L s.B _ n part w hs fun wx hx => ?_
      have := rowCleared_any B s.p g h s.L s.B part y wx hx x0 x1 e1 hy e5 hp
      simp only [rowS, e2, e3]
      exact this
    · rw [if_neg hp]
      exact rew_K B s.p g h s.L s.B _ n part w hs fun wx hx => rowCleared_no B s.p g h s.L s.B part y wx hx e1 hy (fun e => hp (.inl e)) (fun e => hp (.inr (.inl e))) (fun e => hp (.inr (.inr e)))
  rw [if_neg h2]
  by_cases h3 : r = 76
  · subst h3
    rw [if_pos rfl]
    by_cases hq : s.p.y < s.p.top ∨ s.p.bottom < s.p.y
    · rw [if_pos hq]
      exact rew_L B s.p s.p g h s.L s.B _ _ n part w hs fun wx hx _ => into hx (here_no s.p _ _ _ _ _ _ n 100 wx hq)
    · rw [if_neg hq]
      refine rew_L B s.p _ g h s.L s.B _ _ n part w hs fun wx hx _ => ?_
      exact here_yes B s.p g h s.L s.B (downT s.L s.p.w s.p.y s.p.bottom n) s.B n 100 wx hx k.on (fun e => hq (.inl e)) (fun e => hq (.inr e)) enter76 fun wy hb => downO_any s.p _ _ _ _ _ _ s.L s.B s.p.y s.p.bottom n wy ((hx.below hb (Nat.le_refl _)).weak (Nat.zero_le _)).scr l0 l1 k.ok.bn k.rows k.ok.back
  rw [if_neg h3]
  by_cases h4 : r = 77
  · subst h4
    rw [if_pos rfl]
    by_cases hq : s.p.y < s.p.top ∨ s.p.bottom < s.p.y
    · rw [if_pos hq]
      exact rew_M B s.p s.p g h s.L s.B _ _ n part w hs fun wx hx _ => into hx (here_no s.p _ _ _ _ _ _ n 96 wx hq)
    · rw [if_neg hq]
      refine rew_M B s.p _ g h s.L s.B _ _ n part w hs fun wx hx _ => ?_
      exact here_yes B s.p g h s.L s.B (upT s.L s.p.w s.p.y s.p.bottom n) (upTB s.L s.B s.p.y s.p.bottom n) n 96 wx hx k.on (fun e => hq (.inl e)) (fun e => hq (.inr e)) enter72 fun wy hb => upO_any s.p _ _ _ _ _ _ s.L s.B s.p.y s.p.bottom n wy ((hx.below hb (Nat.le_refl _)).weak (Nat.zero_le _)).scr l0 l1 k.ok.bn k.rows k.ok.back
  rw [if_neg h4]
  by_cases h5 : r = 64
  · subst h5
    have := rew_at B s.p g h s.L s.B n part y w hs x0 x1 e1 hy e5 n0 n1
    simp only [if_true, rowS, e2, e3]
    exact this
  rw [if_neg h5]
  by_cases h6 : r = 80
  · subst h6
    have := rew_P B s.p g h s.L s.B n part y w hs x0 x1 e1 hy e5 n0 n1
    simp only [if_true, rowS, e2, e3]
    exact this
  rw [if_neg h6]
  by_cases h7 : r = 88
  · subst h7
    have := rew_X B s.p g h s.L s.B n part y w hs x0 x1 e1 hy e5 n0 n1
    simp only [if_true, rowS, e2, e3]
    exact this
  rw [if_neg h7]
  by_cases h8 : r = 83
  · subst h8
    exact rew_S B s.p g h s.L s.B n part w hs l0 l1 k.ok.bn k.rows k.ok.back
  rw [if_neg h8]
  by_cases h9 : r = 84
  · subst h9
    exact rew_T B s.p g h s.L s.B n part w hs l0 l1 k.ok.bn k.rows k.ok.back
  rw [if_neg h9]
  exact into hs (rew_no s.p _ _ _ _ _ _ r n part w ⟨h1, h2, h3, h4, h5, h6, h7, h8, h9⟩)
set_option maxHeartbeats 4000000 in
theorem csi_all {W H B : Nat} {s : WS} {g h : Nat} (r : Int) (PD : Option Addr) (pc : Nat) (xs : List Int) (w : World) (hs : OScr B w g h s.L s.B) (k : Wk W H s) (hr : ReadI w (.slice PD xs.length pc) xs) (hx : xs.length ≤ 1000000) :
    Calls Try.prog 30 #[ov s.p g h s.L s.B, .int .i32 r, .slice PD xs.length pc] w (InPost B g w (csiF s r xs).p (csiF s r xs).L (csiF s r xs).B) := by
  unfold csiF
  by_cases h65 : r = 65
  · subst h65
    exact into hs (seq_A s.p _ _ PD _ _ _ _ pc xs w hr k.on)
  rw [if_neg h65]
  by_cases h66 : r = 66
  · subst h66
    exact into hs (seq_B s.p _ _ PD _ _ _ _ pc xs w hr k.on)
  rw [if_neg h66]
  by_cases h67 : r = 67
  · subst h67
    exact into hs (seq_C s.p _ _ PD _ _ _ _ pc xs w hr k.on)
  rw [if_neg h67]
  by_cases h68 : r = 68
  · subst h68
    exact into hs (seq_D s.p _ _ PD _ _ _ _ pc xs w hr k.on)
  rw [if_neg h68]
  by_cases h71 : r = 71
  · subst h71
    exact into hs (seq_G s.p _ _ PD _ _ _ _ pc xs w hr k.on)
  rw [if_neg h71]
  by_cases h100 : r = 100
  · subst h100
    exact into hs (seq_d s.p _ _ PD _ _ _ _ pc xs w hr k.on)
  rw [if_neg h100]
  by_cases h72 : r = 72 ∨ r = 102
  · rw [if_pos h72]
    rcases h72 with rfl | rfl
    · exact into hs (seq_H s.p _ _ PD _ _ _ _ pc xs w hr k.on)
    · exact into hs (seq_f s.p _ _ PD _ _ _ _ pc xs w hr k.on)
  rw [if_neg h72]
  by_cases h114 : r = 114
  · subst h114
    rw [if_pos rfl]
    by_cases htu : withinF (toldF xs 0 1 - 1) (s.p.h - 1) < withinF (toldF xs 1 s.p.h - 1) (s.p.h - 1)
    · rw [if_pos htu]
      exact into hs (seq_r s.p _ _ PD _ _ _ _ pc xs _ _ w hr k.on rfl rfl htu)
    · rw [if_neg htu]
      exact into hs (seq_r0 s.p _ _ PD _ _ _ _ pc xs _ _ w hr k.on rfl rfl htu)
  rw [if_neg h114]
  by_cases h109 : r = 109
  · subst h109
    exact into hs (seq_m s.p _ _ PD _ _ _ _ pc xs w hr hx)
  rw [if_neg h109]
  have tl := told_le (xs := xs) (i := 0) (o := 1) (by omega) (by omega)
  exact seq_rw B s.p _ g h s.L s.B _ _ r PD pc xs w hs hr ⟨h65, h66, h67, h68, h71, h100, fun e => h72 (.inl e), fun e => h72 (.inr e), h114, h109⟩ fun wx ho => rew_all r _ _ wx ho k (by omega) tl.2

set_option maxHeartbeats 4000000 in
theorem app_none (p : Nm) (D E PD : Option Addr) (n c m d pn pc : Nat) (L Bk : List (List C)) (kind r : Int) (w : World) (hs : Scr 0 w D E n c m d L Bk) (hn : n ≤ 1000) (hm : m ≤ 50) (hl : ∀ r ∈ L, r.length ≤ 1000) (hlb : ∀ r ∈ Bk, r.length ≤ 1000)
    (k1 : kind ≠ 1) (k2 : kind ≠ 2) (k3 : kind ≠ 3) (k4 : kind ≠ 4) (k5 : kind ≠ 5) :
    Calls Try.prog 14 #[gv p (.slice D n c) (.slice E m d), .agg #[.int .i64 kind, .int .i32 r, .slice PD pn pc]] w (GridPost w p L Bk) := by
  have HS := Lib.hid (AS.start w #[.int .i64 kind, .int .i32 r, .slice PD pn pc] p (.slice D n c) (.slice E m d))
  have HB := Lib.hid (start_below w (.cells (gcs p (.slice D n c) (.slice E m d)) 35) (.cells #[.int .i64 kind, .int .i32 r, .slice PD pn pc] 44) (.cells (gcs zeroNm nilV nilV) 35))
  have HO : Hid (∀ wx, Below w.heap.size w wx → Calls Try.prog 26 #[gv p (.slice D n c) (.slice E m d)] wx (OwnPost wx p L Bk)) := fun wx hb => aownS_any p D E n c m d L Bk wx (hs.below hb (Nat.le_refl _)) hn hm hl hlb
  clear hs hn hm hl hlb
  unfold gv gcs
  go_enter Try.func14, Try.ntmps14
  go_upto_region 1 with fail
  refine wp_world (fun wq => AS w #[.int .i64 kind, .int .i32 r, .slice PD pn pc] p (.slice D n c) (.slice E m d) wq ∧ Below w.heap.size w wq) ⟨HS.out, HB.out⟩ ?_
  clear HS HB
  rintro w2 ⟨ps, b2⟩
  have xg := ps.box
  have hz2 := ps.ans.lt
  go_upto_region 2 with (first
    | (with_reducible refine wpList_loadB xg (x := .tmp 2) ?_ ?_ ?_ ?_
       · with_reducible rfl
       · rfl
       · rfl)
    | (go_at_call 26
       refine (HO.out w2 b2).mono ?_
       rintro e w3 ⟨g, h, rfl, s3, b3⟩
       have p3 := ps.below b3
       have x3 := p3.box)
    | (with_reducible refine wpList_storeA x3 (x := .tmp 2) (y := .tmp 6) (p := p) (D := some ⟨g, 0, none⟩) (E := some ⟨h, 0, none⟩) (n := L.length) (c := L.length) (m := Bk.length) (d := Bk.length) ?_ ?_ ?_ ?_ ?_
       · with_reducible rfl
       · rfl
       · rfl
       · rfl))
  have hgl := s3.rows.low
  refine wp_world (fun wq => AS w #[.int .i64 kind, .int .i32 r, .slice PD pn pc] p (.slice (some ⟨g, 0, none⟩) L.length L.length) (.slice (some ⟨h, 0, none⟩) Bk.length Bk.length) wq ∧ OScr w2.heap.size wq g h L Bk ∧ Below w.heap.size w wq) ⟨p3.put p _ _, s3.bput x3 _, below_setRow (b2.trans (b3.mono b2.size)) (Nat.le_refl _) _⟩ ?_
  clear ps xg p3 s3 x3 b3 HO b2
  rintro w4 ⟨p4, s4, b4⟩
  have u0 := p4.act.cell 0
  have x4 := p4.box
  have a5 := p4.ans
  simp only [List.getElem?_toArray, List.getElem?_cons_zero] at u0
  go_wp2_with (first
    | (with_reducible refine wpList_loadB x4 (x := .tmp 2) ?_ ?_ ?_ ?_
       · with_reducible rfl
       · rfl
       · rfl)
    | (with_reducible refine wpList_storeA a5 (x := .tmp 4) (y := .tmp 43) (p := p) (D := some ⟨g, 0, none⟩) (E := some ⟨h, 0, none⟩) (n := L.length) (c := L.length) (m := Bk.length) (d := Bk.length) ?_ ?_ ?_ ?_ ?_
       · with_reducible rfl
       · rfl
       · rfl
       · rfl))
  refine bodyPost_ret (v := gv p (.slice (some ⟨g, 0, none⟩) L.length L.length) (.slice (some ⟨h, 0, none⟩) Bk.length Bk.length)) (results_cell_row (P := Try.prog) Try.results14 _ _ (w.heap.size + 2) 35 _ (0, 0) _ rfl (a5.setRow _ _ _) Try.underlying35 rfl box_size) rfl ?_
  exact ⟨_, _, _, _, _, _, rfl, ((s4.bput a5 _).weak (by omega)).scr, below_setRow b4 (by omega) _⟩

set_option maxHeartbeats 4000000 in
/-- Apply. -/
theorem act_all {W H : Nat} {s : WS} (kind r : Int) (PD D E : Option Addr) (pc n c m d : Nat) (xs : List Int) (w : World) (hs : Scr 0 w D E n c m d s.L s.B) (k : Wk W H s) (hr : ReadI w (.slice PD xs.length pc) xs) (hx : xs.length ≤ 1000000) :
    Calls Try.prog 14 #[gv s.p (.slice D n c) (.slice E m d), .agg #[.int .i64 kind, .int .i32 r, .slice PD xs.length pc]] w (GridPost w (actF s kind r xs).p (actF s kind r xs).L (actF s kind r xs).B) := by
  have hn : n ≤ 1000 := by have := hs.nr; have := k.ok.ln; have := k.H2; omega
  have hm : m ≤ 50 := by have := hs.nb; have := k.ok.bn; omega
  unfold actF
  by_cases h1 : kind = 1
  · subst h1
    exact app_print s.p _ D E PD n c m d _ pc s.L s.B _ _ r w hs hn hm k.rows k.ok.back fun B wx g h hb ho => wprint_any B s W H g h r wx ho k.W2 k.H2 k.ok k.wline.ok
  rw [if_neg h1]
  by_cases h2 : kind = 2
  · subst h2
    exact app_ctl s.p _ D E PD n c m d _ pc s.L s.B _ _ r w hs hn hm k.rows k.ok.back fun B wx g h hb ho => ctl_all r wx ho k
  rw [if_neg h2]
  by_cases h3 : kind = 3
  · subst h3
    exact app_esc s.p _ D E PD n c m d _ pc s.L s.B _ _ r w hs hn hm k.rows k.ok.back fun B wx g h hb ho => esc_all r wx ho k
  rw [if_neg h3]
  by_cases h4 : kind = 4
  · subst h4
    exact app_csi s.p _ D E PD n c m d _ pc s.L s.B _ _ r w hs hn hm k.rows k.ok.back fun B wx g h hb ho => csi_all r PD pc xs wx ho k (hr.below hb (Nat.le_refl _)) hx
  rw [if_neg h4]
  by_cases h5 : kind = 5
  · subst h5
    exact app_priv s.p _ D E PD n c m d _ pc s.L s.B _ _ r w hs hn hm k.rows k.ok.back fun B wx g h hb ho => into ho (switched_any s.p _ _ PD _ _ _ _ pc xs r wx (hr.below hb (Nat.le_refl _)) hx)
  rw [if_neg h5]
  exact app_none s.p D E PD n c m d _ pc s.L s.B kind r w hs hn hm k.rows k.ok.back h1 h2 h3 h4 h5
end Go.Proofs.Ytpcpmeihebgncaa

/-
  That an action leaves a whole screen whole: its size, its rows, its cursor, its region; a wrap waits at the last column alone; no line that went is lost while there are fewer than fifty. Nothing of the program is walked here. No condition but the screen's wholeness.
-/
namespace Go.Proofs.Ytpcpmeihebgncaa
open Go.RowKit
set_option maxRecDepth 100000

/-- A wrap waits at the last column alone. -/
def WrOk (W : Nat) (s : WS) : Prop := s.p.wrap = true → s.p.x = (W : Int) - 1
/-- Whole, its wrap in its place, and with as many lines that went, at least. -/
structure Goes (W H : Nat) (s t : WS) : Prop where
  k : Wk W H t
  wr : WrOk W t
  back : s.B.length ≤ t.B.length
theorem Goes.refl {W H : Nat} {s : WS} (h : Wk W H s) (hw : WrOk W s) : Goes W H s s := ⟨h, hw, Nat.le_refl _⟩
theorem Goes.mv {W H : Nat} {s : WS} (h : Wk W H s) (X Y : Int) : Goes W H s (mvS s X Y) := ⟨h.mv X Y, fun e => (by cases e), Nat.le_refl _⟩
theorem line_back {W H : Nat} {s : WS} (h : Wk W H s) : s.B.length ≤ (lineS s).B.length := by
  unfold lineS
  split
  · exact upBack_ge h.ok.bn
  · exact Nat.le_refl _
theorem Goes.lmv {W H : Nat} {s : WS} (h : Wk W H s) (X Y : Int) : Goes W H s (mvS (lineS s) X Y) := ⟨h.line.mv X Y, fun e => (by cases e), line_back h⟩
/-- Other numbers on the same rows. -/
theorem Wk.nm {W H : Nat} {s : WS} (h : Wk W H s) (q : Nm) (ew : q.w = s.p.w) (eh : q.h = s.p.h) (ex : q.x = s.p.x) (ey : q.y = s.p.y) (et : q.top = s.p.top) (eb : q.bottom = s.p.bottom) : Wk W H ⟨q, s.L, s.B⟩ :=
  ⟨⟨ew.trans h.ok.pw, eh.trans h.ok.ph, by rw [ex]; exact h.ok.x0, by rw [ex]; exact h.ok.x1, by rw [ey]; exact h.ok.y0, by rw [ey]; exact h.ok.y1, h.ok.ln, h.ok.rows, h.ok.bn, h.ok.back⟩, h.W1, h.W2, h.H1, h.H2, by rw [et]; exact h.t0, by rw [et, eb]; exact h.tb, by rw [eb]; exact h.b1⟩
theorem Goes.nm {W H : Nat} {s : WS} (h : Wk W H s) (hw : WrOk W s) (q : Nm) (ew : q.w = s.p.w) (eh : q.h = s.p.h) (ex : q.x = s.p.x) (ey : q.y = s.p.y) (et : q.top = s.p.top) (eb : q.bottom = s.p.bottom) (er : q.wrap = s.p.wrap) : Goes W H s ⟨q, s.L, s.B⟩ :=
  ⟨h.nm q ew eh ex ey et eb, fun e => by show q.x = _; rw [ex]; exact hw (er ▸ e), Nat.le_refl _⟩
theorem Goes.ctl {W H : Nat} {s : WS} (h : Wk W H s) (hw : WrOk W s) (r : Int) : Goes W H s (ctlF s r) := by
  unfold ctlF
  split
  · exact .mv h _ _
  split
  · exact .mv h _ _
  split
  · exact .lmv h _ _
  split
  · exact .mv h _ _
  exact .refl h hw
theorem Goes.esc {W H : Nat} {s : WS} (h : Wk W H s) (hw : WrOk W s) (r : Int) : Goes W H s (escF s r) := by
  unfold escF
  split
  · exact .lmv h _ _
  split
  · unfold backS
    split
    · exact ⟨h.down (movedNm s.p s.p.x s.p.y) s.p.top s.p.bottom 1 (h.mv _ _), fun e => (by cases e), Nat.le_refl _⟩
    · exact .mv h _ _
  split
  · exact .lmv h _ _
  split
  · exact .nm h hw _ rfl rfl rfl rfl rfl rfl rfl
  split
  · have h2 : Wk W H ⟨{ s.p with a := s.p.sa }, s.L, s.B⟩ := h.nm _ rfl rfl rfl rfl rfl rfl
    exact ⟨h2.mv s.p.sx s.p.sy, fun e => (by cases e), Nat.le_refl _⟩
  split
  · have ew := h.ok.pw
    have eh := h.ok.ph
    have w1 := h.W1
    have h1 := h.H1
    refine ⟨⟨⟨ew, eh, Int.le_refl _, by show (0 : Int) < W; omega, Int.le_refl _, by show (0 : Int) < H; omega, ?_, ?_, h.ok.bn, h.ok.back⟩, h.W1, h.W2, h.H1, h.H2, Int.le_refl _, by show (0 : Int) ≤ s.p.h - 1; omega, by show s.p.h - 1 < (H : Int); omega⟩, fun e => (by cases e), Nat.le_refl _⟩
    · show (blankL s.p.w s.p.h.toNat).length = H
      rw [blankL_len, eh]
      rfl
    · intro l hl
      have hl' : l ∈ blankL s.p.w s.p.h.toNat := hl
      rw [(List.mem_replicate.1 hl').2, ew]
      exact blankF_w W h.W2
  exact .refl h hw
theorem Goes.row {W H : Nat} {s : WS} (h : Wk W H s) (hw : WrOk W s) (f : List C → List C) (hf : ∀ l, (f l).length = l.length) : Goes W H s (rowS s f) := by
  obtain ⟨y, hy, e1, e2, e3, e4, _⟩ := h.at
  unfold rowS
  rw [e2, e3]
  exact ⟨h.set s.p y _ (by rw [hf]; exact e4) h, hw, Nat.le_refl _⟩
theorem Goes.rew {W H : Nat} {s : WS} (h : Wk W H s) (hw : WrOk W s) (r n part : Int) : Goes W H s (rewF s r n part) := by
  unfold rewF
  split
  · split
    · have g := Goes.row h hw (fun l => rclearF l part s.p.x) (fun l => rclearF_len l _ _)
      refine ⟨⟨⟨g.k.ok.pw, g.k.ok.ph, g.k.ok.x0, g.k.ok.x1, g.k.ok.y0, g.k.ok.y1, ?_, ?_, g.k.ok.bn, g.k.ok.back⟩, g.k.W1, g.k.W2, g.k.H1, g.k.H2, g.k.t0, g.k.tb, g.k.b1⟩, hw, Nat.le_refl _⟩
      · show (scrF _ _ _ _).length = H
        rw [scrF_len]
        exact g.k.ok.ln
      · intro l hl
        have hl' : l ∈ scrF (rowS s fun l => rclearF l part s.p.x).L part s.p.y.toNat s.L.length := hl
        simp only [scrF, List.mem_mapIdx] at hl'
        obtain ⟨i, hi, e⟩ := hl'
        have hm := g.k.ok.rows _ (List.getElem_mem hi)
        rw [← e]
        split
        · rw [clearF_len]
          exact hm
        · exact hm
    · exact .refl h hw
  split
  · split
    · exact .row h hw _ (fun l => rclearF_len l _ _)
    · exact .refl h hw
  split
  · split
    · exact .refl h hw
    · exact ⟨h.down (movedNm s.p 0 s.p.y) s.p.y s.p.bottom n (h.mv _ _), fun e => (by cases e), Nat.le_refl _⟩
  split
  · split
    · exact .refl h hw
    · exact ⟨h.up (movedNm s.p 0 s.p.y) s.p.y s.p.bottom n s.B (h.mv _ _) h.ok.bn h.ok.back, fun e => (by cases e), Nat.le_refl _⟩
  split
  · exact .row h hw _ (fun l => insertF_len l _ _)
  split
  · exact .row h hw _ (fun l => deleteF_len l _ _)
  split
  · exact .row h hw _ (fun l => clearF_len l _ _)
  split
  · exact ⟨h.up s.p s.p.top s.p.bottom n (upTB s.L s.B s.p.top s.p.bottom n) h (upBack_len h.ok.bn) (upBack_rows h.rows h.ok.back), hw, upBack_ge h.ok.bn⟩
  split
  · exact ⟨h.down s.p s.p.top s.p.bottom n h, hw, Nat.le_refl _⟩
  exact .refl h hw
theorem Goes.csi {W H : Nat} {s : WS} (h : Wk W H s) (hw : WrOk W s) (r : Int) (xs : List Int) : Goes W H s (csiF s r xs) := by
  unfold csiF
  split
  · exact .mv h _ _
  split
  · exact .mv h _ _
  split
  · exact .mv h _ _
  split
  · exact .mv h _ _
  split
  · exact .mv h _ _
  split
  · exact .mv h _ _
  split
  · exact .mv h _ _
  split
  · split
    · rename_i htu
      have eh := h.ok.ph
      have a0 := within_lt (toldF xs 0 1 - 1) H h.H1
      have b0 := within_lt (toldF xs 1 s.p.h - 1) H h.H1
      rw [eh] at htu b0 ⊢
      have h2 : Wk W H ⟨{ s.p with top := withinF (toldF xs 0 1 - 1) ((H : Int) - 1), bottom := withinF (toldF xs 1 (H : Int) - 1) ((H : Int) - 1) }, s.L, s.B⟩ := ⟨⟨h.ok.pw, h.ok.ph, h.ok.x0, h.ok.x1, h.ok.y0, h.ok.y1, h.ok.ln, h.ok.rows, h.ok.bn, h.ok.back⟩, h.W1, h.W2, h.H1, h.H2, a0.1, Int.le_of_lt htu, b0.2⟩
      exact ⟨h2.mv 0 0, fun e => (by cases e), Nat.le_refl _⟩
    · exact .refl h hw
  split
  · exact .nm h hw _ rfl rfl rfl rfl rfl rfl rfl
  exact .rew h hw r _ _
theorem sw_same (r : Int) (xs : List Int) : ∀ p : Nm, (xs.foldl (swF r) p).w = p.w ∧ (xs.foldl (swF r) p).h = p.h ∧ (xs.foldl (swF r) p).x = p.x ∧ (xs.foldl (swF r) p).y = p.y ∧ (xs.foldl (swF r) p).top = p.top ∧ (xs.foldl (swF r) p).bottom = p.bottom ∧ (xs.foldl (swF r) p).wrap = p.wrap := by
  induction xs with
  | nil => exact fun p => ⟨rfl, rfl, rfl, rfl, rfl, rfl, rfl⟩
  | cons x xs ih =>
    intro p
    have h1 := ih (swF r p x)
    have h2 : (swF r p x).w = p.w ∧ (swF r p x).h = p.h ∧ (swF r p x).x = p.x ∧ (swF r p x).y = p.y ∧ (swF r p x).top = p.top ∧ (swF r p x).bottom = p.bottom ∧ (swF r p x).wrap = p.wrap := by
      unfold swF
      split
      · exact ⟨rfl, rfl, rfl, rfl, rfl, rfl, rfl⟩
      split
      · exact ⟨rfl, rfl, rfl, rfl, rfl, rfl, rfl⟩
      exact ⟨rfl, rfl, rfl, rfl, rfl, rfl, rfl⟩
    simp only [List.foldl_cons]
    exact ⟨h1.1.trans h2.1, h1.2.1.trans h2.2.1, h1.2.2.1.trans h2.2.2.1, h1.2.2.2.1.trans h2.2.2.2.1, h1.2.2.2.2.1.trans h2.2.2.2.2.1, h1.2.2.2.2.2.1.trans h2.2.2.2.2.2.1, h1.2.2.2.2.2.2.trans h2.2.2.2.2.2.2⟩
theorem Goes.put {W H : Nat} {s : WS} (h : Wk W H s) (r : Int) : Goes W H s (wput (wline s) r) := by
  refine ⟨h.wline.put r, ?_, ?_⟩
  · intro e
    have e' : (printNm (wline s).p).wrap = true := e
    show (printNm (wline s).p).x = _
    have ew := h.wline.ok.pw
    have x1 := h.wline.ok.x1
    unfold printNm at e' ⊢
    split at e'
    · rename_i hc
      rw [if_pos hc]
      show (wline s).p.x = _
      omega
    · cases e'
  · show s.B.length ≤ (wline s).B.length
    unfold Ytpcpmeihebgncaa.wline
    split
    · exact line_back h.x
    · exact Nat.le_refl _
/-- An action leaves a whole screen whole. -/
theorem Goes.act {W H : Nat} {s : WS} (h : Wk W H s) (hw : WrOk W s) (kind r : Int) (xs : List Int) : Goes W H s (actF s kind r xs) := by
  unfold actF
  split
  · exact .put h r
  split
  · exact .ctl h hw r
  split
  · exact .esc h hw r
  split
  · exact .csi h hw r xs
  split
  · unfold swNm
    split
    · have hh := sw_same r xs s.p
      exact .nm h hw _ hh.1 hh.2.1 hh.2.2.1 hh.2.2.2.1 hh.2.2.2.2.1 hh.2.2.2.2.2.1 hh.2.2.2.2.2.2
    · exact .refl h hw
  exact .refl h hw
end Go.Proofs.Ytpcpmeihebgncaa
