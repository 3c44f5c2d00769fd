/-
  The walk of AttrOrder. Conditions: the row that came in reads as numbers, and is no longer than its room.
-/
import Derived.Test.YthjpfljklbfeeaaBack
namespace Go.Proofs.Ythjpfljklbfeeaa
open Go.RowKit

/-- A row that came in: it reads as xs, and there is room for them. -/
def FullI (w : World) (v : Value) (xs : List Int) : Prop := ∃ D c, v = .slice D xs.length c ∧ xs.length ≤ c ∧ c ≤ maxLen ∧ ReadI w (.slice D xs.length c) xs

/-- Behind k numbers. -/
def OrderRel (w : World) (xs : List Int) (x i : Value) (wr : World) : Prop :=
  ∃ k : Nat, i = .int .i64 k ∧ k ≤ xs.length ∧ x = .int .i64 (makeF (lookF L.zero (xs.take k))) ∧ Below w.heap.size w wr

theorem parts0 : partsF 0 = L.zero := by kernel_rfl
theorem apply_two_eq (l : L) (h : l.Ok) (x y : Int) : applyF (makeF l) [x, y] = makeF (behindF (behindF l x) y) := applyM l h x [y]
theorem apply_one_eq (l : L) (h : l.Ok) (x : Int) : applyF (makeF l) [x] = makeF (behindF l x) := applyM l h x []

set_option maxHeartbeats 2000000 in
theorem order_walk (a0 b0 : Int) (xs : List Int) (v : Value) (w : World) (hv : FullI w v xs) :
    Calls Try.prog 4 #[v, .int .i64 a0, .int .i64 b0] w (TrueBelow w) := by
  obtain ⟨V, cv, rfl, hc1, hc2, hv⟩ := hv
  unfold maxLen at hc2
  have hr := hv
  obtain ⟨V', cv', e, hr⟩ := hr
  simp only [Value.slice.injEq, true_and] at e
  obtain ⟨rfl, rfl⟩ := e
  have HV := Lib.hid hv
  have HR := Lib.hid hr
  clear hv hr
  by_cases hb : 60 < xs.length
  · have hbi : (60 : Int) < (xs.length : Int) := by omega
    go_enter Try.func4, Try.ntmps4
    go_wp2_with fail
    refine (awake_any _).mono ?_
    rintro e w1 ⟨rfl, hb1⟩
    go_wp2_with fail
    go_ret
    exact ⟨rfl, hb1⟩
  · have hbi : ¬ (60 : Int) < (xs.length : Int) := by omega
    go_enter Try.func4, Try.ntmps4
    go_wp2_with fail
    go_loopw [7, 22] (OrderRel w xs) (fun _ i _ => xs.length - (intOf i).toNat)
    case atStart => exact ⟨0, rfl, Nat.zero_le _, rfl, Below.refl _ _⟩
    case round =>
      obtain ⟨k, rfl, hle, rfl, hbr⟩ := hrel
      by_cases hlt : k < xs.length
      · have hki : (k : Int) < (xs.length : Int) := by omega
        obtain ⟨vb, vo, z, rfl, hvb, hzk, hcell⟩ := HR.out k hlt
        have hcell' : wr.cell? ⟨vb, vo + k, none⟩ = some (.int .i64 z) := (hbr.cell (p := ⟨vb, vo + k, none⟩) hvb).trans hcell
        clear hcell
        have hck : ¬ cv = k := by omega
        have hok := lookF_ok L.zero (xs.take k) L.zero_ok
        have hsn : Hid (makeF (lookF L.zero (xs.take (k + 1))) = applyF (makeF (lookF L.zero (xs.take k))) [z]) := by
          show _ = _
          rw [apply_one_eq _ hok, List.take_add_one, hzk, lookF_app]
          rfl
        obtain ⟨m, hm⟩ : ∃ m, m = makeF (lookF L.zero (xs.take k)) := ⟨_, rfl⟩
        rw [← hm] at hsn ⊢
        clear hm hok
        have hpart : ReadI wr (.slice (some ⟨vb, vo + k, none⟩) 1 (cv - k)) [z] := by
          refine ⟨_, _, rfl, fun j hj => ?_⟩
          obtain rfl : j = 0 := by simp at hj; omega
          exact ⟨vb, vo + k, z, rfl, Nat.lt_of_lt_of_le hvb hbr.size, rfl, hcell'⟩
        have HA : Hid (Calls Try.prog 7 #[.int .i64 m, .slice (some ⟨vb, vo + k, none⟩) 1 (cv - k)] wr (ApplyPost wr (applyF m [z]))) := apply_any m [z] _ wr hpart (by simp)
        obtain ⟨m', hm'⟩ : ∃ m', m' = applyF m [z] := ⟨_, rfl⟩
        rw [← hm'] at hsn HA
        clear hm' hpart hcell' hzk
        go_wp2_with fail
        refine HA.out.mono ?_
        rintro e w1 ⟨rfl, hb1⟩
        go_wp2_with fail
        go_roundw
        case rel => exact ⟨k + 1, by go_num, by omega, by rw [hsn.out], below_next hbr hb1⟩
        case measure => simp [intOf]; omega
      · have ek : k = xs.length := by omega
        subst ek
        rw [List.take_length]
        have hok := lookF_ok L.zero xs L.zero_ok
        have hA := i64_and7 a0
        have hB := i64_and7 b0
        obtain ⟨a, ea, a1, a2⟩ : ∃ q : Int, q = a0 % 8 ∧ 0 ≤ q ∧ q ≤ 7 := ⟨_, rfl, by omega, by omega⟩
        obtain ⟨b, eb, b1, b2⟩ : ∃ q : Int, q = b0 % 8 ∧ 0 ≤ q ∧ q ≤ 7 := ⟨_, rfl, by omega, by omega⟩
        rw [← ea] at hA
        rw [← eb] at hB
        clear ea eb
        have HX : Hid (xs ≠ [] → applyF 0 xs = makeF (lookF L.zero xs)) := fun h => by rw [applyF_ne 0 xs h, parts0]
        obtain ⟨l, hl⟩ : ∃ l, l = lookF L.zero xs := ⟨_, rfl⟩
        rw [← hl] at hok HX ⊢
        clear hl
        have ok2 : L.Ok ⟨l.b, l.u, l.t, a + 1, b + 1⟩ := ⟨by dsimp only; omega, by dsimp only; omega, by dsimp only; omega, by dsimp only; omega⟩
        have ok3 : L.Ok ⟨l.b, l.u, l.t, b + 1, b + 1⟩ := ⟨by dsimp only; omega, by dsimp only; omega, by dsimp only; omega, by dsimp only; omega⟩
        have e1 : 30 + a - 29 = a + 1 := by omega
        have e2 : 40 + b - 39 = b + 1 := by omega
        have e3 : 30 + b - 29 = b + 1 := by omega
        have P1 : Hid (applyF (makeF l) [30 + a, 40 + b] = makeF ⟨l.b, l.u, l.t, a + 1, b + 1⟩) := by
          show _ = _
          rw [apply_two_eq l hok, fore_eq _ (30 + a) (by omega) (by omega), back_eq _ (40 + b) (by omega) (by omega), e1, e2]
        have P2 : Hid (applyF (makeF l) [40 + b, 30 + a] = makeF ⟨l.b, l.u, l.t, a + 1, b + 1⟩) := by
          show _ = _
          rw [apply_two_eq l hok, back_eq _ (40 + b) (by omega) (by omega), fore_eq _ (30 + a) (by omega) (by omega), e1, e2]
        have P3 : Hid (applyF (makeF ⟨l.b, l.u, l.t, a + 1, b + 1⟩) [30 + b] = makeF ⟨l.b, l.u, l.t, b + 1, b + 1⟩) := by
          show _ = _
          rw [apply_one_eq _ ok2, fore_eq _ (30 + b) (by omega) (by omega), e3]
        have P4 : Hid (∀ w, Calls Try.prog 9 #[.int .i64 (makeF ⟨l.b, l.u, l.t, b + 1, b + 1⟩)] w fun e w' => e = .returned (partsV ⟨l.b, l.u, l.t, b + 1, b + 1⟩) ∧ w = w') := fun w => by
          have := parts_any (makeF ⟨l.b, l.u, l.t, b + 1, b + 1⟩) w
          rwa [partsF_makeF _ ok3] at this
        clear e1 e2 e3 ok2 ok3 hok
        obtain ⟨m, hm⟩ : ∃ m, m = makeF l := ⟨_, rfl⟩
        obtain ⟨m1, hm1⟩ : ∃ m, m = makeF ⟨l.b, l.u, l.t, a + 1, b + 1⟩ := ⟨_, rfl⟩
        obtain ⟨m2, hm2⟩ : ∃ m, m = makeF ⟨l.b, l.u, l.t, b + 1, b + 1⟩ := ⟨_, rfl⟩
        rw [← hm] at P1 P2 HX ⊢
        rw [← hm1] at P1 P2 P3
        rw [← hm2] at P3 P4
        clear hm hm1 hm2
        obtain ⟨lb, lu, lt, lf, lk⟩ := l
        dsimp only at P4
        by_cases h0 : xs = []
        · have hne : ((xs.length : Int) == 0) = true := by rw [h0]; rfl
          clear h0
          go_wp2_with fail
          refine (apply_two P1.out _).mono ?_
          rintro e w1 ⟨rfl, hb1⟩
          go_wp2_with fail
          refine (apply_two P2.out _).mono ?_
          rintro e w2 ⟨rfl, hb2⟩
          go_wp2_with fail
          refine (apply_one P3.out _).mono ?_
          rintro e w3 ⟨rfl, hb3⟩
          go_wp2_with fail
          refine (P4.out _).mono ?_
          rintro e w' ⟨rfl, rfl⟩
          unfold partsV
          dsimp only
          go_wp2_with fail
          refine (awake_any _).mono ?_
          rintro e w4 ⟨rfl, hb4⟩
          go_wp2_with fail
          go_ret
          exact ⟨rfl, below_next (below_next (below_next (below_next hbr hb1) hb2) hb3) hb4⟩
        · have hne : ((xs.length : Int) == 0) = false := by have := List.length_pos_iff.2 h0; exact beq_eq_false_iff_ne.2 (by omega)
          have HX := Lib.hid (HX.out h0)
          clear h0
          go_wp2_with fail
          refine (apply_two P1.out _).mono ?_
          rintro e w1 ⟨rfl, hb1⟩
          go_wp2_with fail
          refine (apply_two P2.out _).mono ?_
          rintro e w2 ⟨rfl, hb2⟩
          go_wp2_with fail
          refine (apply_one P3.out _).mono ?_
          rintro e w3 ⟨rfl, hb3⟩
          go_wp2_with fail
          refine (P4.out _).mono ?_
          rintro e w' ⟨rfl, rfl⟩
          unfold partsV
          dsimp only
          have hr3 := HV.out.below (below_next (below_next (below_next hbr hb1) hb2) hb3) (Nat.le_refl _)
          have HA : Hid (Calls Try.prog 7 #[.int .i64 0, .slice V xs.length cv] w3 (ApplyPost w3 m)) := by
            have := apply_any 0 xs _ w3 hr3 (by omega)
            rwa [HX.out] at this
          clear hr3
          go_wp2_with fail
          refine HA.out.mono ?_
          rintro e w4 ⟨rfl, hb4⟩
          go_wp2_with fail
          refine (awake_any _).mono ?_
          rintro e w5 ⟨rfl, hb5⟩
          go_wp2_with fail
          go_ret
          exact ⟨rfl, below_next (below_next (below_next (below_next (below_next hbr hb1) hb2) hb3) hb4) hb5⟩
end Go.Proofs.Ythjpfljklbfeeaa
