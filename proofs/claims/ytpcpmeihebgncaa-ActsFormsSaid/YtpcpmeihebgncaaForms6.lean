/-
  The walk of ActsForms. Conditions: none.
-/
import Derived.Test.YtpcpmeihebgncaaFormT
import Derived.Test.YtpcpmeihebgncaaAwake
namespace Go.Proofs.Ytpcpmeihebgncaa
open Go.RowKit
set_option maxRecDepth 100000
set_option linter.unusedSimpArgs false

theorem row_F {w : World} {g : Nat} {x y z u : Value} (h : Held w g 22 #[x, y, z, u]) : w.cell? ⟨g, 0, none⟩ = some x ∧ w.cell? ⟨g, 1, none⟩ = some y ∧ w.cell? ⟨g, 2, none⟩ = some z ∧ w.cell? ⟨g, 3, none⟩ = some u := ⟨h.cell 0, h.cell 1, h.cell 2, h.cell 3⟩

set_option maxHeartbeats 4000000 in
theorem forms6_walk (n : Int) (w : World) : Calls Try.prog 3 #[.int .i64 n] w (TrueBelow w) := by
  go_enter Try.func3, Try.ntmps3
  go_upto_region 1 with fail
  go_cut [3] (FormsRel w)
  case first =>
    go_wp2_with fail
    go_meet
    exact forms_mk w
  case rest =>
    obtain ⟨g, rfl, hb0, hall, hg⟩ := hcut
    obtain ⟨q, hq, q1⟩ : ∃ q : Nat, bits .and .i64 n 255 = (q : Int) ∧ q ≤ 255 := ⟨(n % 256).toNat, by rw [i64_and255]; omega, by omega⟩
    have hm1 : ((q : Int).tmod 34) < 34 := by rw [Int.tmod_eq_emod_of_nonneg (by omega)]; omega
    have hm0 : 0 ≤ ((q : Int).tmod 34) := by rw [Int.tmod_eq_emod_of_nonneg (by omega)]; omega
    obtain ⟨s, t, x, y, c0, c1, c2, c3, hs, his⟩ := hall (q % 34) (Nat.mod_lt _ (by decide))
    clear hall
    have HS := Lib.hid (fun w => show_any s w hs)
    clear hs
    unfold Is at his
    simp only [Bool.and_eq_true, decide_eq_true_eq] at his
    obtain ⟨⟨i1, i2⟩, i3⟩ := his
    rw [i2, i3] at HS
    clear i2 i3
    generalize showL (feedP (newP 5 3) (strB s)).s.L 3 = tt at *
    have hxx : (x == x) = true := beq_self_eq_true x
    have hyy : (y == y) = true := beq_self_eq_true y
    go_upto_region 3 with fail
    refine wp_world (fun wq => Held wq wc.heap.size 22 #[.string s, .string t, .int .i64 x, .int .i64 y] ∧ Below w.heap.size w wq) ⟨by first | exact Held.new _ _ _ | exact ((((Held.new wc 22 _).set1 0 _).set1 1 _).set1 2 _).set1 3 _, by repeat (first | exact hb0.alloc hb0.size _ | refine Below.setCell ?_ (by exact hb0.size) _)⟩ ?_
    clear c0 c1 c2 c3 hq q1 hm1 hm0 hb0 hg
    rintro wx ⟨hX, hb1⟩
    have hXl := hX.lt
    generalize wc.heap.size = X at *
    obtain ⟨c0, c1, c2, c3⟩ := row_F hX
    go_upto_region 4 with (go_at_call 9
                           refine (HS.out _).mono ?_
                           rintro e w2 ⟨rfl, hb2⟩)
    have hX2 : Held w2 X 22 #[.string s, .string t, .int .i64 x, .int .i64 y] := Held.below hX hb2 hXl
    have hb3 : Below w.heap.size w w2 := hb1.trans (hb2.mono hb1.size)
    obtain ⟨d0, d1, d2, d3⟩ := row_F hX2
    clear c0 c1 c2 c3 hX
    go_wp2_with (go_at_call 10; refine (awake_any _).mono ?_; rintro e w3 ⟨rfl, hb4⟩)
    go_ret
    exact ⟨rfl, hb3.trans (hb4.mono hb3.size)⟩
end Go.Proofs.Ytpcpmeihebgncaa
