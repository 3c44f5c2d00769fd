/-
  Package attr: what its calls make as plain functions, and what they answer (taken over from the proofs of layer 3). Conditions: at most a million parameters.
-/
import Derived.Test.YtpcpmeihebgncaaMoved
import Derived.Laws.BitsLemmas
import Derived.Lib.Hide
import Derived.WalkKit
import Derived.WalkLawsBesides
import Derived.WalkSpells
namespace Go.Proofs.Ytpcpmeihebgncaa.Attr
open Go.RowKit
set_option maxRecDepth 100000


/-- An attribute, taken apart. -/
structure L where
  b : Bool
  u : Bool
  t : Bool
  f : Int
  k : Int

def L.zero : L := ⟨false, false, false, 0, 0⟩
def L.Ok (l : L) : Prop := 0 ≤ l.f ∧ l.f ≤ 8 ∧ 0 ≤ l.k ∧ l.k ≤ 8
theorem L.zero_ok : L.zero.Ok := ⟨by decide, by decide, by decide, by decide⟩

def colF (c : Int) : Int := if c < 0 then 0 else if 8 < c then 8 else c
theorem colF_lo (c : Int) : 0 ≤ colF c := by unfold colF; repeat' split
                                             all_goals omega
theorem colF_hi (c : Int) : colF c ≤ 8 := by unfold colF; repeat' split
                                             all_goals omega
theorem colF_id (c : Int) (h0 : 0 ≤ c) (h1 : c ≤ 8) : colF c = c := by unfold colF; rw [if_neg (by omega), if_neg (by omega)]

def bitN (n : Int) (b : Bool) : Int := match b with | true => n | false => 0
def makeF (l : L) : Int := 16 * colF l.f + 256 * colF l.k + bitN 1 l.b + bitN 2 l.u + bitN 4 l.t
def partsF (a : Int) : L := ⟨decide (a % 2 ≠ 0), decide (a / 2 % 2 ≠ 0), decide (a / 4 % 2 ≠ 0), colF (a / 16 % 16), colF (a / 256 % 16)⟩
def behindF (l : L) (p : Int) : L :=
  if p = -1 ∨ p = 0 then L.zero
  else if p = 1 then ⟨true, l.u, l.t, l.f, l.k⟩
  else if p = 22 then ⟨false, l.u, l.t, l.f, l.k⟩
  else if p = 4 then ⟨l.b, true, l.t, l.f, l.k⟩
  else if p = 24 then ⟨l.b, false, l.t, l.f, l.k⟩
  else if p = 7 then ⟨l.b, l.u, true, l.f, l.k⟩
  else if p = 27 then ⟨l.b, l.u, false, l.f, l.k⟩
  else if 30 ≤ p ∧ p ≤ 37 then ⟨l.b, l.u, l.t, p - 29, l.k⟩
  else if p = 39 then ⟨l.b, l.u, l.t, 0, l.k⟩
  else if 40 ≤ p ∧ p ≤ 47 then ⟨l.b, l.u, l.t, l.f, p - 39⟩
  else if p = 49 then ⟨l.b, l.u, l.t, l.f, 0⟩
  else l
def lookF (l : L) (ps : List Int) : L := ps.foldl behindF l
def applyF (a : Int) (ps : List Int) : Int := match ps with | [] => 0 | _ => makeF (lookF (partsF a) ps)

theorem applyF_cons (a p : Int) (ps : List Int) : applyF a (p :: ps) = makeF (lookF (partsF a) (p :: ps)) := rfl
theorem lookF_app (l : L) (xs ys : List Int) : lookF l (xs ++ ys) = lookF (lookF l xs) ys := List.foldl_append
theorem lookF_one (l : L) (x : Int) : lookF l [x] = behindF l x := rfl

theorem partsF_ok (a : Int) : (partsF a).Ok := ⟨colF_lo _, colF_hi _, colF_lo _, colF_hi _⟩
theorem behindF_ok (l : L) (p : Int) (h : l.Ok) : (behindF l p).Ok := by
  obtain ⟨h0, h1, h2, h3⟩ := h
  unfold behindF
  repeat' split
  all_goals first | exact L.zero_ok | exact ⟨h0, h1, h2, h3⟩ | (refine ⟨?_, ?_, ?_, ?_⟩ <;> dsimp only <;> omega)
theorem lookF_ok (l : L) (ps : List Int) (h : l.Ok) : (lookF l ps).Ok := by
  induction ps generalizing l with
  | nil => exact h
  | cons p ps ih => exact ih _ (behindF_ok l p h)

theorem bitN_cases (n : Int) (b : Bool) : (b = true ∧ bitN n b = n) ∨ (b = false ∧ bitN n b = 0) := by cases b <;> simp [bitN]

theorem partsF_makeF (l : L) (h : l.Ok) : partsF (makeF l) = l := by
  obtain ⟨b, u, t, f, k⟩ := l
  obtain ⟨h0, h1, h2, h3⟩ := h
  dsimp only at h0 h1 h2 h3
  unfold partsF makeF
  dsimp only
  rw [colF_id f h0 h1, colF_id k h2 h3]
  have ef : (16 * f + 256 * k + bitN 1 b + bitN 2 u + bitN 4 t) / 16 % 16 = f := by
    rcases bitN_cases 1 b with ⟨_, e1⟩ | ⟨_, e1⟩ <;> rcases bitN_cases 2 u with ⟨_, e2⟩ | ⟨_, e2⟩ <;> rcases bitN_cases 4 t with ⟨_, e3⟩ | ⟨_, e3⟩ <;> rw [e1, e2, e3] <;> omega
  have ek : (16 * f + 256 * k + bitN 1 b + bitN 2 u + bitN 4 t) / 256 % 16 = k := by
    rcases bitN_cases 1 b with ⟨_, e1⟩ | ⟨_, e1⟩ <;> rcases bitN_cases 2 u with ⟨_, e2⟩ | ⟨_, e2⟩ <;> rcases bitN_cases 4 t with ⟨_, e3⟩ | ⟨_, e3⟩ <;> rw [e1, e2, e3] <;> omega
  have eb : decide ((16 * f + 256 * k + bitN 1 b + bitN 2 u + bitN 4 t) % 2 ≠ 0) = b := by
    rcases bitN_cases 1 b with ⟨e0, e1⟩ | ⟨e0, e1⟩ <;> rcases bitN_cases 2 u with ⟨_, e2⟩ | ⟨_, e2⟩ <;> rcases bitN_cases 4 t with ⟨_, e3⟩ | ⟨_, e3⟩ <;> rw [e1, e2, e3, e0] <;> simp <;> omega
  have eu : decide ((16 * f + 256 * k + bitN 1 b + bitN 2 u + bitN 4 t) / 2 % 2 ≠ 0) = u := by
    rcases bitN_cases 1 b with ⟨e0, e1⟩ | ⟨e0, e1⟩ <;> rcases bitN_cases 2 u with ⟨e4, e2⟩ | ⟨e4, e2⟩ <;> rcases bitN_cases 4 t with ⟨_, e3⟩ | ⟨_, e3⟩ <;> rw [e1, e2, e3, e4] <;> simp <;> omega
  have et : decide ((16 * f + 256 * k + bitN 1 b + bitN 2 u + bitN 4 t) / 4 % 2 ≠ 0) = t := by
    rcases bitN_cases 1 b with ⟨e0, e1⟩ | ⟨e0, e1⟩ <;> rcases bitN_cases 2 u with ⟨e4, e2⟩ | ⟨e4, e2⟩ <;> rcases bitN_cases 4 t with ⟨e5, e3⟩ | ⟨e5, e3⟩ <;> rw [e1, e2, e3, e5] <;> simp <;> omega
  rw [ef, ek, eb, eu, et, colF_id f h0 h1, colF_id k h2 h3]

theorem makeF_lo (l : L) : 0 ≤ makeF l := by
  have h1 := colF_lo l.f
  have h2 := colF_lo l.k
  unfold makeF
  rcases bitN_cases 1 l.b with ⟨_, e1⟩ | ⟨_, e1⟩ <;> rcases bitN_cases 2 l.u with ⟨_, e2⟩ | ⟨_, e2⟩ <;> rcases bitN_cases 4 l.t with ⟨_, e3⟩ | ⟨_, e3⟩ <;> rw [e1, e2, e3] <;> omega
theorem makeF_hi (l : L) : makeF l < 4096 := by
  have h1 := colF_hi l.f
  have h2 := colF_hi l.k
  unfold makeF
  rcases bitN_cases 1 l.b with ⟨_, e1⟩ | ⟨_, e1⟩ <;> rcases bitN_cases 2 l.u with ⟨_, e2⟩ | ⟨_, e2⟩ <;> rcases bitN_cases 4 l.t with ⟨_, e3⟩ | ⟨_, e3⟩ <;> rw [e1, e2, e3] <;> omega

/-! ### masks -/
theorem and_low (n : Int) (m : Nat) (i : Nat) (hm : (BitVec.ofInt 64 (m : Int)).toNat = 2 ^ i - 1) (hi : i ≤ 20) : bits .and .i64 n m = n % ((2 ^ i : Nat) : Int) := by
  have key : (BitVec.ofInt 64 n &&& BitVec.ofInt 64 (m : Int)).toNat = (n % ((2 ^ 64 : Nat) : Int)).toNat % 2 ^ i := by
    rw [BitVec.toNat_and, BitVec.toNat_ofInt, hm, Nat.and_two_pow_sub_one_eq_mod]
  show IntKind.i64.wrap ((BitVec.ofInt 64 n &&& BitVec.ofInt 64 (m : Int)).toNat : Nat) = _
  rw [key, IntKind.wrap_i64]
  have h : i = 0 ∨ i = 1 ∨ i = 2 ∨ i = 3 ∨ i = 4 ∨ i = 5 ∨ i = 6 ∨ i = 7 ∨ i = 8 ∨ i = 9 ∨ i = 10 ∨ i = 11 ∨ i = 12 ∨ i = 13 ∨ i = 14 ∨ i = 15 ∨ i = 16 ∨ i = 17 ∨ i = 18 ∨ i = 19 ∨ i = 20 := by omega
  rcases h with rfl | rfl | rfl | rfl | rfl | rfl | rfl | rfl | rfl | rfl | rfl | rfl | rfl | rfl | rfl | rfl | rfl | rfl | rfl | rfl | rfl <;> simp only [Nat.reducePow] <;> omega
/-- A mask of s bits, i places up. -/
theorem and_mid (x i s : Nat) : x &&& ((2 ^ s - 1) * 2 ^ i) = (x / 2 ^ i % 2 ^ s) * 2 ^ i := by
  apply Nat.eq_of_testBit_eq
  intro j
  rw [Nat.testBit_and, Nat.testBit_mul_two_pow, Nat.testBit_mul_two_pow, Nat.testBit_two_pow_sub_one, Nat.testBit_mod_two_pow, Nat.testBit_div_two_pow]
  by_cases h : i ≤ j
  · by_cases h2 : j - i < s
    · simp [h, h2, Nat.sub_add_cancel h]
    · simp [h, h2]
  · simp [h]
theorem i64_mid (n : Int) (m i s : Nat) (hm : (BitVec.ofInt 64 (m : Int)).toNat = (2 ^ s - 1) * 2 ^ i) : bits .and .i64 n m = IntKind.i64.wrap (((n % ((2 ^ 64 : Nat) : Int)).toNat / 2 ^ i % 2 ^ s * 2 ^ i : Nat) : Int) := by
  have key : (BitVec.ofInt 64 n &&& BitVec.ofInt 64 (m : Int)).toNat = (n % ((2 ^ 64 : Nat) : Int)).toNat / 2 ^ i % 2 ^ s * 2 ^ i := by
    rw [BitVec.toNat_and, BitVec.toNat_ofInt, hm, and_mid]
  show IntKind.i64.wrap ((BitVec.ofInt 64 n &&& BitVec.ofInt 64 (m : Int)).toNat : Nat) = _
  rw [key]

theorem i64_and1 (n : Int) : bits .and .i64 n 1 = n % 2 := and_low n 1 1 (by decide) (by decide)
theorem i64_and7 (n : Int) : bits .and .i64 n 7 = n % 8 := and_low n 7 3 (by decide) (by decide)
theorem i64_and255 (n : Int) : bits .and .i64 n 255 = n % 256 := and_low n 255 8 (by decide) (by decide)
theorem i64_and2 (n : Int) : bits .and .i64 n 2 = n / 2 % 2 * 2 := by
  refine (i64_mid n 2 1 1 (by decide)).trans ?_
  rw [IntKind.wrap_i64]; omega
theorem i64_and4 (n : Int) : bits .and .i64 n 4 = n / 4 % 2 * 4 := by
  refine (i64_mid n 4 2 1 (by decide)).trans ?_
  rw [IntKind.wrap_i64]; omega
theorem i64_and240 (n : Int) : bits .and .i64 n 240 = n / 16 % 16 * 16 := by
  refine (i64_mid n 240 4 4 (by decide)).trans ?_
  rw [IntKind.wrap_i64]; omega
theorem i64_and3840 (n : Int) : bits .and .i64 n 3840 = n / 256 % 16 * 256 := by
  refine (i64_mid n 3840 8 4 (by decide)).trans ?_
  rw [IntKind.wrap_i64]; omega


theorem ret_i {a b : Int} (h : a = b) : Ending.returned (.int .i64 a) = .returned (.int .i64 b) := by rw [h]

set_option maxHeartbeats 400000 in
theorem colour_any (c : Int) (w : World) : Calls Try.prog 137 #[.int .i64 c] w fun e w' => e = .returned (.int .i64 (colF c)) ∧ w = w' := by
  by_cases h0 : c < 0
  · rw [show colF c = 0 by unfold colF; rw [if_pos h0]]
    have h1 : ¬ 8 < c := by omega
    go_enter Try.func137, Try.ntmps137
    go_wp2
    go_ret
    exact ⟨rfl, rfl⟩
  · by_cases h1 : 8 < c
    · rw [show colF c = 8 by unfold colF; rw [if_neg h0, if_pos h1]]
      go_enter Try.func137, Try.ntmps137
      go_wp2
      go_ret
      exact ⟨rfl, rfl⟩
    · rw [show colF c = c by unfold colF; rw [if_neg h0, if_neg h1]]
      go_enter Try.func137, Try.ntmps137
      go_wp2
      · go_ret
        exact ⟨rfl, rfl⟩
      · go_ret
        exact ⟨ret_i (by omega), rfl⟩

set_option maxHeartbeats 400000 in
theorem at16 (a : Int) (w : World) : Calls Try.prog 153 #[.int .i64 a, .int .i64 16] w fun e w' => e = .returned (.int .i64 (colF (a / 16 % 16))) ∧ w = w' := by
  have hm := i64_and240 a
  obtain ⟨q, hq, q0, q1⟩ : ∃ q : Int, q = a / 16 % 16 ∧ 0 ≤ q ∧ q ≤ 15 := ⟨_, rfl, by omega, by omega⟩
  rw [← hq] at hm ⊢
  clear hq
  go_enter Try.func153, Try.ntmps153
  go_wp2_with (go_at_call 137; refine (colour_any _ _).mono ?_; rintro e w' ⟨rfl, rfl⟩)
  go_ret
  exact ⟨rfl, rfl⟩
set_option maxHeartbeats 400000 in
theorem at256 (a : Int) (w : World) : Calls Try.prog 153 #[.int .i64 a, .int .i64 256] w fun e w' => e = .returned (.int .i64 (colF (a / 256 % 16))) ∧ w = w' := by
  have hm := i64_and3840 a
  obtain ⟨q, hq, q0, q1⟩ : ∃ q : Int, q = a / 256 % 16 ∧ 0 ≤ q ∧ q ≤ 15 := ⟨_, rfl, by omega, by omega⟩
  rw [← hq] at hm ⊢
  clear hq
  go_enter Try.func153, Try.ntmps153
  go_wp2_with (go_at_call 137; refine (colour_any _ _).mono ?_; rintro e w' ⟨rfl, rfl⟩)
  go_ret
  exact ⟨rfl, rfl⟩

set_option maxHeartbeats 400000 in
theorem make_any (b u t : Bool) (f k : Int) (w : World) : Calls Try.prog 103 #[.bool b, .bool u, .bool t, .int .i64 f, .int .i64 k] w fun e w' => e = .returned (.int .i64 (makeF ⟨b, u, t, f, k⟩)) ∧ w = w' := by
  have f0 := colF_lo f
  have f1 := colF_hi f
  have k0 := colF_lo k
  have k1 := colF_hi k
  unfold makeF
  dsimp only
  cases b <;> cases u <;> cases t
  all_goals
    go_enter Try.func103, Try.ntmps103
    go_wp2_with (go_at_call 137; refine (colour_any _ _).mono ?_; rintro e w' ⟨rfl, rfl⟩)
    go_ret
    exact ⟨ret_i (by simp only [bitN] <;> omega), rfl⟩

def partsV (l : L) : Value := .tuple #[.bool l.b, .bool l.u, .bool l.t, .int .i64 l.f, .int .i64 l.k]
def lookV (l : L) : Value := .agg #[.bool l.b, .bool l.u, .bool l.t, .int .i64 l.f, .int .i64 l.k]
def lookC (l : L) : Array Value := #[.bool l.b, .bool l.u, .bool l.t, .int .i64 l.f, .int .i64 l.k]

set_option maxHeartbeats 400000 in
theorem parts_any (a : Int) (w : World) : Calls Try.prog 136 #[.int .i64 a] w fun e w' => e = .returned (partsV (partsF a)) ∧ w = w' := by
  have h1 := i64_and1 a
  have h2 := i64_and2 a
  have h4 := i64_and4 a
  unfold partsF partsV
  dsimp only
  obtain ⟨q1, e1, q10, q11⟩ : ∃ q : Int, q = a % 2 ∧ 0 ≤ q ∧ q ≤ 1 := ⟨_, rfl, by omega, by omega⟩
  obtain ⟨q2, e2, q20, q21⟩ : ∃ q : Int, q = a / 2 % 2 ∧ 0 ≤ q ∧ q ≤ 1 := ⟨_, rfl, by omega, by omega⟩
  obtain ⟨q4, e4, q40, q41⟩ : ∃ q : Int, q = a / 4 % 2 ∧ 0 ≤ q ∧ q ≤ 1 := ⟨_, rfl, by omega, by omega⟩
  rw [← e1] at h1 ⊢
  rw [← e2] at h2 ⊢
  rw [← e4] at h4 ⊢
  clear e1 e2 e4
  go_enter Try.func136, Try.ntmps136
  go_wp2_with fail
  refine (at16 _ _).mono ?_
  rintro e w' ⟨rfl, rfl⟩
  go_wp2_with fail
  refine (at256 _ _).mono ?_
  rintro e w' ⟨rfl, rfl⟩
  go_wp2_with fail
  refine bodyPost_ret (v := .tuple #[.bool (q1 != 0), .bool (q2 * 2 != 0), .bool (q4 * 4 != 0), .int .i64 (colF (a / 16 % 16)), .int .i64 (colF (a / 256 % 16))]) (by simp [results, Try.results136, go_sem]) rfl ⟨?_, rfl⟩
  rw [show (q1 != 0) = decide (q1 ≠ 0) by rw [Bool.eq_iff_iff]; simp, show (q2 * 2 != 0) = decide (q2 ≠ 0) by rw [Bool.eq_iff_iff]; simp, show (q4 * 4 != 0) = decide (q4 ≠ 0) by rw [Bool.eq_iff_iff]; simp]


def LookPost (w : World) (l : L) (e : Ending) (w' : World) : Prop := e = .returned (lookV l) ∧ Below w.heap.size w w'
theorem below_alloc2 (w : World) (a b : Obj) : Below w.heap.size w ((w.alloc a).alloc b) := ((Below.refl _ _).alloc (Nat.le_refl _) _).alloc (by simp) _

set_option maxHeartbeats 400000 in
theorem lookOf_any (a : Int) (w : World) : Calls Try.prog 101 #[.int .i64 a] w (LookPost w (partsF a)) := by
  have H : ∀ w, Calls Try.prog 136 #[.int .i64 a] w fun e w' => e = .returned (partsV (partsF a)) ∧ w = w' := fun w => parts_any a w
  obtain ⟨l, hl⟩ : ∃ l, l = partsF a := ⟨_, rfl⟩
  rw [← hl] at H ⊢
  clear hl
  obtain ⟨b, u, t, f, k⟩ := l
  have HH := Lib.hid H
  clear H
  go_enter Try.func101, Try.ntmps101
  go_wp2_with fail
  refine (HH.out _).mono ?_
  rintro e w' ⟨rfl, rfl⟩
  unfold partsV
  dsimp only
  go_wp2_with fail
  exact bodyPost_ret (v := .agg #[.bool b, .bool u, .bool t, .int .i64 f, .int .i64 k]) (by simp [results, Try.results101, go_sem]) rfl ⟨rfl, below_alloc2 w _ _⟩

set_option maxHeartbeats 400000 in
theorem behind_m1 (l : L) (w : World) : Calls Try.prog 102 #[lookV l, .int .i64 (-1)] w (LookPost w ⟨false, false, false, 0, 0⟩) := by
  obtain ⟨b, u, t, f, k⟩ := l
  unfold lookV
  dsimp only
  go_enter Try.func102, Try.ntmps102
  go_wp2_with fail
  exact bodyPost_ret (v := .agg #[.bool false, .bool false, .bool false, .int .i64 0, .int .i64 0]) (by simp [results, Try.results102, go_sem]) rfl ⟨rfl, below_alloc2 w _ _⟩
set_option maxHeartbeats 400000 in
theorem behind_0 (l : L) (w : World) : Calls Try.prog 102 #[lookV l, .int .i64 0] w (LookPost w ⟨false, false, false, 0, 0⟩) := by
  obtain ⟨b, u, t, f, k⟩ := l
  unfold lookV
  dsimp only
  go_enter Try.func102, Try.ntmps102
  go_wp2_with fail
  exact bodyPost_ret (v := .agg #[.bool false, .bool false, .bool false, .int .i64 0, .int .i64 0]) (by simp [results, Try.results102, go_sem]) rfl ⟨rfl, below_alloc2 w _ _⟩
set_option maxHeartbeats 400000 in
theorem behind_1 (l : L) (w : World) : Calls Try.prog 102 #[lookV l, .int .i64 1] w (LookPost w ⟨true, l.u, l.t, l.f, l.k⟩) := by
  obtain ⟨b, u, t, f, k⟩ := l
  unfold lookV
  dsimp only
  go_enter Try.func102, Try.ntmps102
  go_wp2_with fail
  exact bodyPost_ret (v := .agg #[.bool true, .bool u, .bool t, .int .i64 f, .int .i64 k]) (by simp [results, Try.results102, go_sem]) rfl ⟨rfl, below_alloc2 w _ _⟩
set_option maxHeartbeats 400000 in
theorem behind_22 (l : L) (w : World) : Calls Try.prog 102 #[lookV l, .int .i64 22] w (LookPost w ⟨false, l.u, l.t, l.f, l.k⟩) := by
  obtain ⟨b, u, t, f, k⟩ := l
  unfold lookV
  dsimp only
  go_enter Try.func102, Try.ntmps102
  go_wp2_with fail
  exact bodyPost_ret (v := .agg #[.bool false, .bool u, .bool t, .int .i64 f, .int .i64 k]) (by simp [results, Try.results102, go_sem]) rfl ⟨rfl, below_alloc2 w _ _⟩
set_option maxHeartbeats 400000 in
theorem behind_4 (l : L) (w : World) : Calls Try.prog 102 #[lookV l, .int .i64 4] w (LookPost w ⟨l.b, true, l.t, l.f, l.k⟩) := by
  obtain ⟨b, u, t, f, k⟩ := l
  unfold lookV
  dsimp only
  go_enter Try.func102, Try.ntmps102
  go_wp2_with fail
  exact bodyPost_ret (v := .agg #[.bool b, .bool true, .bool t, .int .i64 f, .int .i64 k]) (by simp [results, Try.results102, go_sem]) rfl ⟨rfl, below_alloc2 w _ _⟩
set_option maxHeartbeats 400000 in
theorem behind_24 (l : L) (w : World) : Calls Try.prog 102 #[lookV l, .int .i64 24] w (LookPost w ⟨l.b, false, l.t, l.f, l.k⟩) := by
  obtain ⟨b, u, t, f, k⟩ := l
  unfold lookV
  dsimp only
  go_enter Try.func102, Try.ntmps102
  go_wp2_with fail
  exact bodyPost_ret (v := .agg #[.bool b, .bool false, .bool t, .int .i64 f, .int .i64 k]) (by simp [results, Try.results102, go_sem]) rfl ⟨rfl, below_alloc2 w _ _⟩
set_option maxHeartbeats 400000 in
theorem behind_7 (l : L) (w : World) : Calls Try.prog 102 #[lookV l, .int .i64 7] w (LookPost w ⟨l.b, l.u, true, l.f, l.k⟩) := by
  obtain ⟨b, u, t, f, k⟩ := l
  unfold lookV
  dsimp only
  go_enter Try.func102, Try.ntmps102
  go_wp2_with fail
  exact bodyPost_ret (v := .agg #[.bool b, .bool u, .bool true, .int .i64 f, .int .i64 k]) (by simp [results, Try.results102, go_sem]) rfl ⟨rfl, below_alloc2 w _ _⟩
set_option maxHeartbeats 400000 in
theorem behind_27 (l : L) (w : World) : Calls Try.prog 102 #[lookV l, .int .i64 27] w (LookPost w ⟨l.b, l.u, false, l.f, l.k⟩) := by
  obtain ⟨b, u, t, f, k⟩ := l
  unfold lookV
  dsimp only
  go_enter Try.func102, Try.ntmps102
  go_wp2_with fail
  exact bodyPost_ret (v := .agg #[.bool b, .bool u, .bool false, .int .i64 f, .int .i64 k]) (by simp [results, Try.results102, go_sem]) rfl ⟨rfl, below_alloc2 w _ _⟩
set_option maxHeartbeats 400000 in
theorem behind_39 (l : L) (w : World) : Calls Try.prog 102 #[lookV l, .int .i64 39] w (LookPost w ⟨l.b, l.u, l.t, 0, l.k⟩) := by
  obtain ⟨b, u, t, f, k⟩ := l
  unfold lookV
  dsimp only
  go_enter Try.func102, Try.ntmps102
  go_wp2_with fail
  exact bodyPost_ret (v := .agg #[.bool b, .bool u, .bool t, .int .i64 0, .int .i64 k]) (by simp [results, Try.results102, go_sem]) rfl ⟨rfl, below_alloc2 w _ _⟩
set_option maxHeartbeats 400000 in
theorem behind_49 (l : L) (w : World) : Calls Try.prog 102 #[lookV l, .int .i64 49] w (LookPost w ⟨l.b, l.u, l.t, l.f, 0⟩) := by
  obtain ⟨b, u, t, f, k⟩ := l
  unfold lookV
  dsimp only
  go_enter Try.func102, Try.ntmps102
  go_wp2_with fail
  exact bodyPost_ret (v := .agg #[.bool b, .bool u, .bool t, .int .i64 f, .int .i64 0]) (by simp [results, Try.results102, go_sem]) rfl ⟨rfl, below_alloc2 w _ _⟩
set_option maxHeartbeats 400000 in
theorem behind_fore (l : L) (p : Int) (h0 : 30 ≤ p) (h1 : p ≤ 37) (w : World) : Calls Try.prog 102 #[lookV l, .int .i64 p] w (LookPost w ⟨l.b, l.u, l.t, p - 29, l.k⟩) := by
  obtain ⟨b, u, t, f, k⟩ := l
  unfold lookV
  dsimp only
  have nm1 : (p == -1) = false := by simp; omega
  have n0 : (p == 0) = false := by simp; omega
  have n1 : (p == 1) = false := by simp; omega
  have n22 : (p == 22) = false := by simp; omega
  have n4 : (p == 4) = false := by simp; omega
  have n24 : (p == 24) = false := by simp; omega
  have n7 : (p == 7) = false := by simp; omega
  have n27 : (p == 27) = false := by simp; omega
  go_enter Try.func102, Try.ntmps102
  go_wp2_with fail
  exact bodyPost_ret (v := .agg #[.bool b, .bool u, .bool t, .int .i64 (p - 29), .int .i64 k]) (by simp [results, Try.results102, go_sem]) rfl ⟨rfl, below_alloc2 w _ _⟩
set_option maxHeartbeats 400000 in
theorem behind_back (l : L) (p : Int) (h0 : 40 ≤ p) (h1 : p ≤ 47) (w : World) : Calls Try.prog 102 #[lookV l, .int .i64 p] w (LookPost w ⟨l.b, l.u, l.t, l.f, p - 39⟩) := by
  obtain ⟨b, u, t, f, k⟩ := l
  unfold lookV
  dsimp only
  have nm1 : (p == -1) = false := by simp; omega
  have n0 : (p == 0) = false := by simp; omega
  have n1 : (p == 1) = false := by simp; omega
  have n22 : (p == 22) = false := by simp; omega
  have n4 : (p == 4) = false := by simp; omega
  have n24 : (p == 24) = false := by simp; omega
  have n7 : (p == 7) = false := by simp; omega
  have n27 : (p == 27) = false := by simp; omega
  have n39 : (p == 39) = false := by simp; omega
  have h2 : ¬ p ≤ 37 := by omega
  have h3 : 30 ≤ p := by omega
  go_enter Try.func102, Try.ntmps102
  go_wp2_with fail
  exact bodyPost_ret (v := .agg #[.bool b, .bool u, .bool t, .int .i64 f, .int .i64 (p - 39)]) (by simp [results, Try.results102, go_sem]) rfl ⟨rfl, below_alloc2 w _ _⟩
set_option maxHeartbeats 400000 in
theorem behind_o1 (l : L) (p : Int) (hp : p ≠ -1 ∧ p ≠ 0 ∧ p ≠ 1 ∧ p ≠ 22 ∧ p ≠ 4 ∧ p ≠ 24 ∧ p ≠ 7 ∧ p ≠ 27 ∧ p ≠ 39 ∧ p ≠ 49) (h : p < 30) (w : World) : Calls Try.prog 102 #[lookV l, .int .i64 p] w (LookPost w ⟨l.b, l.u, l.t, l.f, l.k⟩) := by
  obtain ⟨b, u, t, f, k⟩ := l
  unfold lookV
  dsimp only
  have nm1 : (p == -1) = false := by simp; omega
  have n0 : (p == 0) = false := by simp; omega
  have n1 : (p == 1) = false := by simp; omega
  have n22 : (p == 22) = false := by simp; omega
  have n4 : (p == 4) = false := by simp; omega
  have n24 : (p == 24) = false := by simp; omega
  have n7 : (p == 7) = false := by simp; omega
  have n27 : (p == 27) = false := by simp; omega
  have n39 : (p == 39) = false := by simp; omega
  have n49 : (p == 49) = false := by simp; omega
  clear hp
  have c1 : decide (30 ≤ p) = false := by simp; omega
  have c2 : decide (40 ≤ p) = false := by simp; omega
  go_enter Try.func102, Try.ntmps102
  go_wp2_with fail
  exact bodyPost_ret (v := .agg #[.bool b, .bool u, .bool t, .int .i64 f, .int .i64 k]) (by simp [results, Try.results102, go_sem]) rfl ⟨rfl, below_alloc2 w _ _⟩
set_option maxHeartbeats 400000 in
theorem behind_o2 (l : L) (p : Int) (hp : p ≠ -1 ∧ p ≠ 0 ∧ p ≠ 1 ∧ p ≠ 22 ∧ p ≠ 4 ∧ p ≠ 24 ∧ p ≠ 7 ∧ p ≠ 27 ∧ p ≠ 39 ∧ p ≠ 49) (h : 37 < p) (h' : p < 40) (w : World) : Calls Try.prog 102 #[lookV l, .int .i64 p] w (LookPost w ⟨l.b, l.u, l.t, l.f, l.k⟩) := by
  obtain ⟨b, u, t, f, k⟩ := l
  unfold lookV
  dsimp only
  have nm1 : (p == -1) = false := by simp; omega
  have n0 : (p == 0) = false := by simp; omega
  have n1 : (p == 1) = false := by simp; omega
  have n22 : (p == 22) = false := by simp; omega
  have n4 : (p == 4) = false := by simp; omega
  have n24 : (p == 24) = false := by simp; omega
  have n7 : (p == 7) = false := by simp; omega
  have n27 : (p == 27) = false := by simp; omega
  have n39 : (p == 39) = false := by simp; omega
  have n49 : (p == 49) = false := by simp; omega
  clear hp
  have c1 : decide (30 ≤ p) = true := by simp; omega
  have c2 : decide (p ≤ 37) = false := by simp; omega
  have c3 : decide (40 ≤ p) = false := by simp; omega
  go_enter Try.func102, Try.ntmps102
  go_wp2_with fail
  exact bodyPost_ret (v := .agg #[.bool b, .bool u, .bool t, .int .i64 f, .int .i64 k]) (by simp [results, Try.results102, go_sem]) rfl ⟨rfl, below_alloc2 w _ _⟩
set_option maxHeartbeats 400000 in
theorem behind_o3 (l : L) (p : Int) (hp : p ≠ -1 ∧ p ≠ 0 ∧ p ≠ 1 ∧ p ≠ 22 ∧ p ≠ 4 ∧ p ≠ 24 ∧ p ≠ 7 ∧ p ≠ 27 ∧ p ≠ 39 ∧ p ≠ 49) (h : 47 < p) (w : World) : Calls Try.prog 102 #[lookV l, .int .i64 p] w (LookPost w ⟨l.b, l.u, l.t, l.f, l.k⟩) := by
  obtain ⟨b, u, t, f, k⟩ := l
  unfold lookV
  dsimp only
  have nm1 : (p == -1) = false := by simp; omega
  have n0 : (p == 0) = false := by simp; omega
  have n1 : (p == 1) = false := by simp; omega
  have n22 : (p == 22) = false := by simp; omega
  have n4 : (p == 4) = false := by simp; omega
  have n24 : (p == 24) = false := by simp; omega
  have n7 : (p == 7) = false := by simp; omega
  have n27 : (p == 27) = false := by simp; omega
  have n39 : (p == 39) = false := by simp; omega
  have n49 : (p == 49) = false := by simp; omega
  clear hp
  have c1 : decide (30 ≤ p) = true := by simp; omega
  have c2 : decide (p ≤ 37) = false := by simp; omega
  have c3 : decide (40 ≤ p) = true := by simp; omega
  have c4 : decide (p ≤ 47) = false := by simp; omega
  go_enter Try.func102, Try.ntmps102
  go_wp2_with fail
  exact bodyPost_ret (v := .agg #[.bool b, .bool u, .bool t, .int .i64 f, .int .i64 k]) (by simp [results, Try.results102, go_sem]) rfl ⟨rfl, below_alloc2 w _ _⟩

theorem behind_any (l : L) (p : Int) (w : World) : Calls Try.prog 102 #[lookV l, .int .i64 p] w (LookPost w (behindF l p)) := by
  by_cases c : p = -1
  · subst c; exact behind_m1 l w
  by_cases c0 : p = 0
  · subst c0; exact behind_0 l w
  by_cases c1 : p = 1
  · subst c1; exact behind_1 l w
  by_cases c22 : p = 22
  · subst c22; exact behind_22 l w
  by_cases c4 : p = 4
  · subst c4; exact behind_4 l w
  by_cases c24 : p = 24
  · subst c24; exact behind_24 l w
  by_cases c7 : p = 7
  · subst c7; exact behind_7 l w
  by_cases c27 : p = 27
  · subst c27; exact behind_27 l w
  by_cases c39 : p = 39
  · subst c39; exact behind_39 l w
  by_cases c49 : p = 49
  · subst c49; exact behind_49 l w
  have hp : p ≠ -1 ∧ p ≠ 0 ∧ p ≠ 1 ∧ p ≠ 22 ∧ p ≠ 4 ∧ p ≠ 24 ∧ p ≠ 7 ∧ p ≠ 27 ∧ p ≠ 39 ∧ p ≠ 49 := ⟨c, c0, c1, c22, c4, c24, c7, c27, c39, c49⟩
  unfold behindF
  rw [if_neg (by omega), if_neg c1, if_neg c22, if_neg c4, if_neg c24, if_neg c7, if_neg c27]
  by_cases d : 30 ≤ p ∧ p ≤ 37
  · rw [if_pos d]; exact behind_fore l p d.1 d.2 w
  rw [if_neg d, if_neg c39]
  by_cases d2 : 40 ≤ p ∧ p ≤ 47
  · rw [if_pos d2]; exact behind_back l p d2.1 d2.2 w
  rw [if_neg d2, if_neg c49]
  by_cases q : p < 30
  · exact behind_o1 l p hp q w
  by_cases q2 : p < 40
  · exact behind_o2 l p hp (by omega) q2 w
  exact behind_o3 l p hp (by omega) w


/-! ### blocks that are known whole; rows that are read -/
/-- Block g of world w is the cells cs. -/
def Held (w : World) (g : Nat) (t : TypeId) (cs : Array Value) : Prop := w.heap[g]? = some (.cells cs t (0, 0))
theorem Held.new (w : World) (t : TypeId) (cs : Array Value) : Held (w.alloc (.cells cs t)) w.heap.size t cs := heap_alloc_new w _
theorem Held.lt {w : World} {g : Nat} {t : TypeId} {cs : Array Value} (h : Held w g t cs) : g < w.heap.size := (Array.getElem?_eq_some_iff.1 h).1
theorem Held.below {w w' : World} {g B : Nat} {t : TypeId} {cs : Array Value} (h : Held w g t cs) (hb : Below B w w') (hg : g < B) : Held w' g t cs := (hb.block g hg).trans h
theorem Held.alloc {w : World} {g : Nat} {t : TypeId} {cs : Array Value} (h : Held w g t cs) (o : Obj) : Held (w.alloc o) g t cs := (Below.heap_alloc w o g h.lt).trans h
theorem Held.cell {w : World} {g : Nat} {t : TypeId} {cs : Array Value} (h : Held w g t cs) (o : Nat) : w.cell? ⟨g, o, none⟩ = cs[o]? := cell_of_row w g o cs t (0, 0) h
theorem Held.frozen {w : World} {g : Nat} {t : TypeId} {cs : Array Value} (h : Held w g t cs) (o : Nat) : w.frozen? ⟨g, o, none⟩ = false := frozen_of_row w g o cs t h
theorem Held.set1 {w : World} {g : Nat} {t : TypeId} {cs : Array Value} (h : Held w g t cs) (i : Nat) (x : Value) : Held (w.setCell ⟨g, i, none⟩ x) g t (cs.setIfInBounds i x) := heap_setCell_same w g i cs t x h
theorem Held.set5 {w : World} {g : Nat} {t : TypeId} {a b c d e : Value} (h : Held w g t #[a, b, c, d, e]) (x y z u v : Value) :
    Held (((((w.setCell ⟨g, 0, none⟩ x).setCell ⟨g, 1, none⟩ y).setCell ⟨g, 2, none⟩ z).setCell ⟨g, 3, none⟩ u).setCell ⟨g, 4, none⟩ v) g t #[x, y, z, u, v] := ((((h.set1 0 x).set1 1 y).set1 2 z).set1 3 u).set1 4 v
theorem below_set5 {a w : World} {B k : Nat} (h : Below B a w) (hk : B ≤ k) (x y z u v : Value) : Below B a (((((w.setCell ⟨k, 0, none⟩ x).setCell ⟨k, 1, none⟩ y).setCell ⟨k, 2, none⟩ z).setCell ⟨k, 3, none⟩ u).setCell ⟨k, 4, none⟩ v) :=
  ((((h.setCell (p := ⟨k, 0, none⟩) hk x).setCell (p := ⟨k, 1, none⟩) hk y).setCell (p := ⟨k, 2, none⟩) hk z).setCell (p := ⟨k, 3, none⟩) hk u).setCell (p := ⟨k, 4, none⟩) hk v
theorem look_cells {w : World} {g : Nat} {a b c d e : Value} (h : Held w g 104 #[a, b, c, d, e]) : w.cell? ⟨g, 0, none⟩ = some a ∧ w.cell? ⟨g, 1, none⟩ = some b ∧ w.cell? ⟨g, 2, none⟩ = some c ∧ w.cell? ⟨g, 3, none⟩ = some d ∧ w.cell? ⟨g, 4, none⟩ = some e ∧ ∀ o, w.frozen? ⟨g, o, none⟩ = false :=
  ⟨h.cell 0, h.cell 1, h.cell 2, h.cell 3, h.cell 4, h.frozen⟩

/-- A slice value v that reads as the numbers xs. -/
def ReadI (w : World) (v : Value) (xs : List Int) : Prop := ∃ D c, v = .slice D xs.length c ∧ ∀ k : Nat, k < xs.length → ∃ (b off : Nat) (z : Int), D = some ⟨b, off, none⟩ ∧ b < w.heap.size ∧ xs[k]? = some z ∧ w.cell? ⟨b, off + k, none⟩ = some (.int .i64 z)
theorem ReadI.below {w w' : World} {B : Nat} {v : Value} {xs : List Int} (h : ReadI w v xs) (hb : Below B w w') (hB : w.heap.size ≤ B) : ReadI w' v xs := by
  obtain ⟨D, c, rfl, h⟩ := h
  refine ⟨D, c, rfl, fun k hk => ?_⟩
  obtain ⟨b, off, z, e1, e2, e3, e4⟩ := h k hk
  exact ⟨b, off, z, e1, Nat.lt_of_lt_of_le e2 hb.size, e3, (hb.cell (p := ⟨b, off + k, none⟩) (Nat.lt_of_lt_of_le e2 hB)).trans e4⟩
theorem readI_nil (w : World) : ReadI w (.slice none 0 0) [] := ⟨none, 0, rfl, fun k hk => by simp at hk⟩

def ApplyPost (w : World) (r : Int) (e : Ending) (w' : World) : Prop := e = .returned (.int .i64 r) ∧ Below w.heap.size w w'
/-- Behind k numbers: the look lies in block B. -/
def ApplyRel (w : World) (B : Nat) (l : L) (xs : List Int) (i : Value) (wr : World) : Prop :=
  ∃ k : Nat, i = .int .i64 k ∧ k ≤ xs.length ∧ Held wr B 104 (lookC (lookF l (xs.take k))) ∧ Below w.heap.size w wr

theorem applyF_ne (a : Int) (xs : List Int) (h : xs ≠ []) : applyF a xs = makeF (lookF (partsF a) xs) := by
  cases xs with
  | nil => exact absurd rfl h
  | cons x xs => rfl

set_option maxHeartbeats 1000000 in
theorem apply_any (a : Int) (xs : List Int) (v : Value) (w : World) (hv : ReadI w v xs) (hn : xs.length ≤ 1000000) :
    Calls Try.prog 58 #[.int .i64 a, v] w (ApplyPost w (applyF a xs)) := by
  obtain ⟨V, cv, rfl, hv⟩ := hv
  by_cases h0 : xs = []
  · subst h0
    show Calls Try.prog 58 #[.int .i64 a, .slice V 0 cv] w (ApplyPost w 0)
    go_enter Try.func58, Try.ntmps58
    go_wp2_with fail
    go_ret
    exact ⟨rfl, Below.refl _ _⟩
  · rw [applyF_ne a xs h0]
    have hpos : 0 < xs.length := List.length_pos_iff.2 h0
    clear h0
    have HV := Lib.hid hv
    clear hv
    have HL : ∀ w, Calls Try.prog 101 #[.int .i64 a] w (LookPost w (partsF a)) := fun w => lookOf_any a w
    obtain ⟨l, hl⟩ : ∃ l, l = partsF a := ⟨_, rfl⟩
    rw [← hl] at HL ⊢
    clear hl
    have H1 := Lib.hid HL
    clear HL
    have hne : ((xs.length : Int) == 0) = false := beq_eq_false_iff_ne.2 (by omega)
    go_enter Try.func58, Try.ntmps58
    go_wp2_with (
      go_at_call 101
      refine (H1.out _).mono ?_
      rintro e w1 ⟨rfl, hb1⟩
      unfold lookV)
    go_loopw [15] (ApplyRel w w1.heap.size l xs) (fun i _ => xs.length - (intOf i).toNat)
    case atStart => exact ⟨0, rfl, Nat.zero_le _, Held.new _ _ _, hb1.alloc hb1.size _⟩
    case round =>
      obtain ⟨k, rfl, hle, hQ, hbr⟩ := hrel
      have hz := hbr.size
      have hz1 := hQ.lt
      have hz2 := hb1.size
      by_cases hlt : k < xs.length
      · have hki : (k : Int) < (xs.length : Int) := by omega
        obtain ⟨vb, vo, z, rfl, hvb, hzk, hcell⟩ := HV.out k hlt
        have hcell' : wr.cell? ⟨vb, vo + k, none⟩ = some (.int .i64 z) := (hbr.cell (p := ⟨vb, vo + k, none⟩) hvb).trans hcell
        clear hcell
        have hsn : Hid (lookF l (xs.take (k + 1)) = behindF (lookF l (xs.take k)) z) := by
          show lookF l (xs.take (k + 1)) = _
          rw [List.take_add_one, hzk, lookF_app]
          rfl
        obtain ⟨s, hs⟩ : ∃ s, s = lookF l (xs.take k) := ⟨_, rfl⟩
        rw [← hs] at hQ hsn
        clear hs
        have HS : Hid (∀ w, Calls Try.prog 102 #[lookV s, .int .i64 z] w (LookPost w (behindF s z))) := fun w => behind_any s z w
        obtain ⟨s', hs'⟩ : ∃ s', s' = behindF s z := ⟨_, rfl⟩
        rw [← hs'] at hsn HS
        clear hs' hzk
        unfold lookC at hQ
        obtain ⟨x0, x1, x2, x3, x4, xf⟩ := look_cells hQ
        go_wp2_with (
          go_at_call 102
          refine (HS.out _).mono ?_
          rintro e w3 ⟨rfl, hb3⟩
          unfold lookV
          have hQ3 := hQ.below hb3 hz1
          obtain ⟨y0, y1, y2, y3, y4, yf⟩ := look_cells hQ3)
        go_roundw
        case rel =>
          refine ⟨k + 1, by go_num, by omega, ?_, ?_⟩
          · rw [hsn.out]
            exact Held.set5 hQ3 _ _ _ _ _
          · exact below_set5 (hbr.trans (hb3.mono hz)) hz2 _ _ _ _ _
        case measure => simp [intOf]; omega
      · have ek : k = xs.length := by omega
        subst ek
        rw [List.take_length] at hQ
        obtain ⟨s, hs⟩ : ∃ s, s = lookF l xs := ⟨_, rfl⟩
        have HS := Lib.hid hs
        rw [← hs] at hQ
        clear hs
        unfold lookC at hQ
        obtain ⟨x0, x1, x2, x3, x4, xf⟩ := look_cells hQ
        go_wp2_with (
          go_at_call 103
          refine (make_any _ _ _ _ _ _).mono ?_
          rintro e w3 ⟨rfl, rfl⟩)
        go_ret
        refine ⟨?_, hbr⟩
        rw [← HS.out]
        rfl

end Go.Proofs.Ytpcpmeihebgncaa.Attr
