/-
  The walk of AttrBack. Conditions: none.
-/
import Derived.Test.YthjpfljklbfeeaaCounts
import Derived.Deep.DeepCutAuto
namespace Go.Proofs.Ythjpfljklbfeeaa
open Go.RowKit

/-- The parameters that are known. -/
def knownB (n : Int) : Bool := decide (n = 0 ∨ n = 1 ∨ n = 4 ∨ n = 7 ∨ n = 22 ∨ n = 24 ∨ n = 27 ∨ (30 ≤ n ∧ n ≤ 37) ∨ n = 39 ∨ (40 ≤ n ∧ n ≤ 47) ∨ n = 49)
theorem unknown_id (l : L) (n : Int) (h0 : 0 ≤ n) (h : knownB n = false) : behindF l n = l := by
  have h' := of_decide_eq_false h
  unfold behindF
  rw [if_neg (by omega), if_neg (by omega), if_neg (by omega), if_neg (by omega), if_neg (by omega), if_neg (by omega), if_neg (by omega), if_neg (by omega), if_neg (by omega), if_neg (by omega), if_neg (by omega)]
theorem fore_eq (l : L) (n : Int) (h0 : 30 ≤ n) (h1 : n ≤ 37) : behindF l n = ⟨l.b, l.u, l.t, n - 29, l.k⟩ := by
  unfold behindF
  rw [if_neg (by omega), if_neg (by omega), if_neg (by omega), if_neg (by omega), if_neg (by omega), if_neg (by omega), if_neg (by omega), if_pos ⟨h0, h1⟩]
theorem back_eq (l : L) (n : Int) (h0 : 40 ≤ n) (h1 : n ≤ 47) : behindF l n = ⟨l.b, l.u, l.t, l.f, n - 39⟩ := by
  unfold behindF
  rw [if_neg (by omega), if_neg (by omega), if_neg (by omega), if_neg (by omega), if_neg (by omega), if_neg (by omega), if_neg (by omega), if_neg (by omega), if_neg (by omega), if_pos ⟨h0, h1⟩]
theorem behind_twice (l : L) (n : Int) (hn : 0 ≤ n) : behindF (behindF l n) n = behindF l n := by
  cases h : knownB n with
  | false => rw [unknown_id l n hn h, unknown_id l n hn h]
  | true =>
    rcases of_decide_eq_true h with rfl | rfl | rfl | rfl | rfl | rfl | rfl | ⟨h0, h1⟩ | rfl | ⟨h0, h1⟩ | rfl
    iterate 7 rfl
    · rw [fore_eq _ n h0 h1, fore_eq _ n h0 h1]
    · rfl
    · rw [back_eq _ n h0 h1, back_eq _ n h0 h1]
    · rfl

theorem apply_one {a r x : Int} (h : applyF a [x] = r) (w : World) : Calls Try.prog 7 #[.int .i64 a, .slice (some ⟨w.heap.size, 0, none⟩) 1 1] (w.alloc (.cells #[.int .i64 x] 3)) (ApplyPost w r) := apply_of h rfl (Nat.le_of_ble_eq_true rfl)
theorem apply_two {a r x y : Int} (h : applyF a [x, y] = r) (w : World) : Calls Try.prog 7 #[.int .i64 a, .slice (some ⟨w.heap.size, 0, none⟩) 2 2] (w.alloc (.cells #[.int .i64 x, .int .i64 y] 3)) (ApplyPost w r) := apply_of h rfl (Nat.le_of_ble_eq_true rfl)

theorem below_next {a b c : World} (h : Below a.heap.size a b) (h' : Below b.heap.size b c) : Below a.heap.size a c := h.trans (h'.mono h.size)
theorem below_chain7 {a b c d e f g h i : World} (h1 : Below a.heap.size a b) (h2 : Below b.heap.size b c) (h3 : Below c.heap.size c d) (h4 : Below d.heap.size d e) (h5 : Below e.heap.size e f) (h6 : Below f.heap.size f g) (h7 : Below g.heap.size g h) (h8 : Below h.heap.size h i) : Below a.heap.size a i :=
  below_next (below_next (below_next (below_next (below_next (below_next (below_next h1 h2) h3) h4) h5) h6) h7) h8

theorem applyM (l : L) (h : l.Ok) (x : Int) (xs : List Int) : applyF (makeF l) (x :: xs) = makeF (lookF (behindF l x) xs) := by
  rw [applyF_cons, partsF_makeF l h]
  rfl

set_option maxRecDepth 100000 in
set_option maxHeartbeats 2000000 in
theorem back_walk (b u t : Bool) (f0 k0 n0 : Int) (w : World) : Calls Try.prog 6 #[.bool b, .bool u, .bool t, .int .i64 f0, .int .i64 k0, .int .i64 n0] w (TrueBelow w) := by
  have hf := i64_and7 f0
  have hk := i64_and7 k0
  have hn := i64_and255 n0
  obtain ⟨f, ef, f1, f2⟩ : ∃ q : Int, q = f0 % 8 ∧ 0 ≤ q ∧ q ≤ 7 := ⟨_, rfl, by omega, by omega⟩
  obtain ⟨k, ek, k1, k2⟩ : ∃ q : Int, q = k0 % 8 ∧ 0 ≤ q ∧ q ≤ 7 := ⟨_, rfl, by omega, by omega⟩
  obtain ⟨n, en, n1, n2⟩ : ∃ q : Int, q = n0 % 256 ∧ 0 ≤ q ∧ q ≤ 255 := ⟨_, rfl, by omega, by omega⟩
  rw [← ef] at hf
  rw [← ek] at hk
  rw [← en] at hn
  clear ef ek en
  have hok : L.Ok ⟨b, u, t, f, k + 1⟩ := ⟨f1, by dsimp only; omega, by dsimp only; omega, by dsimp only; omega⟩
  obtain ⟨m, em⟩ : ∃ m, m = makeF ⟨b, u, t, f, k + 1⟩ := ⟨_, rfl⟩
  obtain ⟨x, ex⟩ : ∃ x, x = makeF (behindF ⟨b, u, t, f, k + 1⟩ n) := ⟨_, rfl⟩
  have HM : Hid (∀ w, Calls Try.prog 10 #[.bool b, .bool u, .bool t, .int .i64 f, .int .i64 (k + 1)] w fun e w' => e = .returned (.int .i64 m) ∧ w = w') := fun w => by
    rw [em]; exact make_any b u t f (k + 1) w
  have HP : Hid (∀ w, Calls Try.prog 9 #[.int .i64 m] w fun e w' => e = .returned (partsV ⟨b, u, t, f, k + 1⟩) ∧ w = w') := fun w => by
    have := parts_any m w
    rw [em] at this ⊢
    rwa [partsF_makeF _ hok] at this
  have A1 : Hid (applyF m [n] = x) := by show _ = _; rw [em, applyM _ hok, ex]; rfl
  have A2 : Hid (applyF x [n] = x) := by show _ = _; rw [ex, applyM _ (behindF_ok _ n hok), behind_twice _ _ n1]; rfl
  have A3 : Hid (applyF m [n, 0] = 0) := by show _ = _; rw [em, applyM _ hok]; rfl
  have A4 : Hid (applyF m [-1] = 0) := by show _ = _; rw [em, applyM _ hok]; rfl
  have A5 : Hid (applyF m [n, 41] = applyF x [41]) := by show _ = _; rw [em, applyM _ hok, ex, applyM _ (behindF_ok _ n hok)]; rfl
  have A6 : Hid (knownB n = false → x = m) := fun h => by rw [ex, em, unknown_id _ n n1 h]
  clear em ex hok
  go_enter Try.func6, Try.ntmps6
  go_wp2_with fail
  refine (HM.out _).mono ?_
  rintro e w' ⟨rfl, rfl⟩
  go_wp2_with fail
  refine (HP.out _).mono ?_
  rintro e w' ⟨rfl, rfl⟩
  unfold partsV
  dsimp only
  go_wp2_with fail
  refine (apply_one A1.out _).mono ?_
  rintro e w1 ⟨rfl, hb1⟩
  go_upto_region 8 with fail
  go_cut [20] (fun y wx => y = .bool (knownB n) ∧ wx = w1)
  case first =>
    cases h : knownB n with
    | true =>
      rcases of_decide_eq_true h with rfl | rfl | rfl | rfl | rfl | rfl | rfl | ⟨h0, h1⟩ | rfl | ⟨h0, h1⟩ | rfl
      iterate 7
        · clear h
          go_wp2_with fail
          go_meet
          exact ⟨rfl, rfl⟩
      · have HK := Lib.hid h
        clear h
        have q0 : (n == 0) = false := beq_eq_false_iff_ne.2 (by omega)
        have q1 : (n == 1) = false := beq_eq_false_iff_ne.2 (by omega)
        have q4 : (n == 4) = false := beq_eq_false_iff_ne.2 (by omega)
        have q7 : (n == 7) = false := beq_eq_false_iff_ne.2 (by omega)
        have q22 : (n == 22) = false := beq_eq_false_iff_ne.2 (by omega)
        have q24 : (n == 24) = false := beq_eq_false_iff_ne.2 (by omega)
        have q27 : (n == 27) = false := beq_eq_false_iff_ne.2 (by omega)
        go_wp2_with fail
        go_meet
        exact ⟨by rw [HK.out], rfl⟩
      · clear h
        go_wp2_with fail
        go_meet
        exact ⟨rfl, rfl⟩
      · have HK := Lib.hid h
        clear h
        have q0 : (n == 0) = false := beq_eq_false_iff_ne.2 (by omega)
        have q1 : (n == 1) = false := beq_eq_false_iff_ne.2 (by omega)
        have q4 : (n == 4) = false := beq_eq_false_iff_ne.2 (by omega)
        have q7 : (n == 7) = false := beq_eq_false_iff_ne.2 (by omega)
        have q22 : (n == 22) = false := beq_eq_false_iff_ne.2 (by omega)
        have q24 : (n == 24) = false := beq_eq_false_iff_ne.2 (by omega)
        have q27 : (n == 27) = false := beq_eq_false_iff_ne.2 (by omega)
        have q39 : (n == 39) = false := beq_eq_false_iff_ne.2 (by omega)
        have c1 : decide (30 ≤ n) = true := decide_eq_true (by omega)
        have c2 : decide (n ≤ 37) = false := decide_eq_false (by omega)
        go_wp2_with fail
        go_meet
        exact ⟨by rw [HK.out], rfl⟩
      · clear h
        go_wp2_with fail
        go_meet
        exact ⟨rfl, rfl⟩
    | false =>
      have h' := of_decide_eq_false h
      have HK := Lib.hid h
      clear h
      have q0 : (n == 0) = false := beq_eq_false_iff_ne.2 (by omega)
      have q1 : (n == 1) = false := beq_eq_false_iff_ne.2 (by omega)
      have q4 : (n == 4) = false := beq_eq_false_iff_ne.2 (by omega)
      have q7 : (n == 7) = false := beq_eq_false_iff_ne.2 (by omega)
      have q22 : (n == 22) = false := beq_eq_false_iff_ne.2 (by omega)
      have q24 : (n == 24) = false := beq_eq_false_iff_ne.2 (by omega)
      have q27 : (n == 27) = false := beq_eq_false_iff_ne.2 (by omega)
      have q39 : (n == 39) = false := beq_eq_false_iff_ne.2 (by omega)
      have q49 : (n == 49) = false := beq_eq_false_iff_ne.2 (by omega)
      by_cases d1 : 30 ≤ n
      · have c1 : decide (30 ≤ n) = true := decide_eq_true (by omega)
        have c2 : decide (n ≤ 37) = false := decide_eq_false (by omega)
        by_cases d2 : 40 ≤ n
        · have c3 : decide (40 ≤ n) = true := decide_eq_true (by omega)
          have c4 : decide (n ≤ 47) = false := decide_eq_false (by omega)
          clear h'
          go_wp2_with fail
          go_meet
          exact ⟨by rw [HK.out], rfl⟩
        · have c3 : decide (40 ≤ n) = false := decide_eq_false (by omega)
          clear h'
          go_wp2_with fail
          go_meet
          exact ⟨by rw [HK.out], rfl⟩
      · have c1 : decide (30 ≤ n) = false := decide_eq_false (by omega)
        have c3 : decide (40 ≤ n) = false := decide_eq_false (by omega)
        clear h'
        go_wp2_with fail
        go_meet
        exact ⟨by rw [HK.out], rfl⟩
  case rest =>
    obtain ⟨rfl, rfl⟩ := hcut
    cases h : knownB n
    · have A7 := Lib.hid (A6.out h)
      have A7' : (x == m) = true := by rw [A7.out]; exact beq_self_eq_true m
      clear h
      go_wp2_with fail
      refine (apply_one A2.out _).mono ?_
      rintro e w2 ⟨rfl, hb2⟩
      go_wp2_with fail
      refine (apply_two A3.out _).mono ?_
      rintro e w3 ⟨rfl, hb3⟩
      go_wp2_with fail
      refine (apply_one A4.out _).mono ?_
      rintro e w4 ⟨rfl, hb4⟩
      go_wp2_with fail
      refine (apply_two A5.out _).mono ?_
      rintro e w5 ⟨rfl, hb5⟩
      go_wp2_with fail
      refine (apply_one A1.out _).mono ?_
      rintro e w6 ⟨rfl, hb6⟩
      go_wp2_with fail
      refine (apply_one rfl _).mono ?_
      rintro e w7 ⟨rfl, hb7⟩
      go_wp2_with fail
      refine (awake_any _).mono ?_
      rintro e w8 ⟨rfl, hb8⟩
      go_wp2_with fail
      go_ret
      exact ⟨rfl, below_chain7 hb1 hb2 hb3 hb4 hb5 hb6 hb7 hb8⟩
    · clear h
      go_wp2_with fail
      refine (apply_one A2.out _).mono ?_
      rintro e w2 ⟨rfl, hb2⟩
      go_wp2_with fail
      refine (apply_two A3.out _).mono ?_
      rintro e w3 ⟨rfl, hb3⟩
      go_wp2_with fail
      refine (apply_one A4.out _).mono ?_
      rintro e w4 ⟨rfl, hb4⟩
      go_wp2_with fail
      refine (apply_two A5.out _).mono ?_
      rintro e w5 ⟨rfl, hb5⟩
      go_wp2_with fail
      refine (apply_one A1.out _).mono ?_
      rintro e w6 ⟨rfl, hb6⟩
      go_wp2_with fail
      refine (apply_one rfl _).mono ?_
      rintro e w7 ⟨rfl, hb7⟩
      go_wp2_with fail
      refine (awake_any _).mono ?_
      rintro e w8 ⟨rfl, hb8⟩
      go_wp2_with fail
      go_ret
      exact ⟨rfl, below_chain7 hb1 hb2 hb3 hb4 hb5 hb6 hb7 hb8⟩
end Go.Proofs.Ythjpfljklbfeeaa
