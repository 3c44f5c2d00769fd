/-
  The walk of AttrCounts. Conditions: the row that came in reads as numbers.
-/
import Derived.Test.YthjpfljklbfeeaaAwake
namespace Go.Proofs.Ythjpfljklbfeeaa
open Go.RowKit

theorem look_ok (a : Int) (xs : List Int) : (lookF (partsF a) xs).Ok := lookF_ok _ _ (partsF_ok a)
theorem apply_shape (a : Int) (xs : List Int) (h : xs ≠ []) : ∃ l : L, l.Ok ∧ applyF a xs = makeF l := ⟨_, look_ok a xs, applyF_ne a xs h⟩

set_option maxHeartbeats 1000000 in
theorem counts_walk (a : Int) (xs : List Int) (v : Value) (w : World) (hv : ReadI w v xs) (hm : xs.length ≤ 9223372036854775807) :
    Calls Try.prog 5 #[.int .i64 a, v] w (TrueBelow w) := by
  obtain ⟨V, cv, rfl⟩ : ∃ V c, v = .slice V xs.length c := ⟨_, _, hv.choose_spec.choose_spec.1⟩
  have HV := Lib.hid hv
  clear hv
  by_cases hb : 60 < xs.length
  · have hbi : (60 : Int) < (xs.length : Int) := by omega
    go_enter Try.func5, Try.ntmps5
    go_wp2_with fail
    refine (awake_any _).mono ?_
    rintro e w1 ⟨rfl, hb1⟩
    go_wp2_with fail
    go_ret
    exact ⟨rfl, hb1⟩
  · have hbi : ¬ (60 : Int) < (xs.length : Int) := by omega
    by_cases h0 : xs = []
    · have HA : Hid (∀ w', w = w' → Calls Try.prog 7 #[.int .i64 a, .slice V xs.length cv] w' (ApplyPost w' 0)) := by
        rintro w' rfl
        have := apply_any a xs _ w HV.out (by omega)
        rwa [h0] at this ⊢
      have hne : ((xs.length : Int) == 0) = true := by rw [h0]; rfl
      clear h0
      go_enter Try.func5, Try.ntmps5
      go_wp2_with fail
      refine (HA.out _ rfl).mono ?_
      rintro e w1 ⟨rfl, hb1⟩
      go_wp2_with fail
      refine (awake_any _).mono ?_
      rintro e w2 ⟨rfl, hb2⟩
      go_wp2_with fail
      go_ret
      exact ⟨rfl, hb1.trans (hb2.mono hb1.size)⟩
    · have hne : ((xs.length : Int) == 0) = false := by have := List.length_pos_iff.2 h0; exact beq_eq_false_iff_ne.2 (by omega)
      obtain ⟨l, hl, el⟩ := apply_shape a xs h0
      have HA : Hid (∀ w', w = w' → Calls Try.prog 7 #[.int .i64 a, .slice V xs.length cv] w' (ApplyPost w' (makeF l))) := by
        rintro w' rfl
        rw [← el]
        exact apply_any a xs _ w HV.out (by omega)
      clear el h0
      have HP : Hid (∀ w, Calls Try.prog 9 #[.int .i64 (makeF l)] w fun e w' => e = .returned (partsV l) ∧ w = w') := by
        intro w
        have := parts_any (makeF l) w
        rwa [partsF_makeF l hl] at this
      obtain ⟨l0, l1, l2, l3⟩ := hl
      have HM : Hid (∀ w, Calls Try.prog 10 #[.bool l.b, .bool l.u, .bool l.t, .int .i64 l.f, .int .i64 l.k] w fun e w' => e = .returned (.int .i64 (makeF l)) ∧ w = w') := fun w => make_any l.b l.u l.t l.f l.k w
      have m0 := makeF_lo l
      have m1 := makeF_hi l
      obtain ⟨m, hm⟩ : ∃ m, m = makeF l := ⟨_, rfl⟩
      rw [← hm] at HA HP HM m0 m1
      clear hm
      obtain ⟨b, u, t, f, k⟩ := l
      dsimp only at l0 l1 l2 l3 HM
      have hbm : (m == m) = true := beq_self_eq_true m
      go_enter Try.func5, Try.ntmps5
      go_wp2_with fail
      refine (HA.out _ rfl).mono ?_
      rintro e w1 ⟨rfl, hb1⟩
      go_wp2_with fail
      refine (HP.out _).mono ?_
      rintro e w' ⟨rfl, rfl⟩
      unfold partsV
      dsimp only
      go_wp2_with fail
      refine (HM.out _).mono ?_
      rintro e w' ⟨rfl, rfl⟩
      go_wp2_with fail
      refine (awake_any _).mono ?_
      rintro e w2 ⟨rfl, hb2⟩
      go_wp2_with fail
      go_ret
      exact ⟨rfl, hb1.trans (hb2.mono hb1.size)⟩
end Go.Proofs.Ythjpfljklbfeeaa
