/-
  The walk of AttrForms. Conditions: none.
-/
import Derived.Test.YthjpfljklbfeeaaTab
import Derived.Deep.RegionHeld3
namespace Go.Proofs.Ythjpfljklbfeeaa
open Go.RowKit
theorem row_S {w : World} {g : Nat} {x y z : Value} (h : Held w g 23 #[x, y, z]) : w.cell? ⟨g, 0, none⟩ = some x ∧ w.cell? ⟨g, 1, none⟩ = some y ∧ w.cell? ⟨g, 2, none⟩ = some z := ⟨h.cell 0, h.cell 1, h.cell 2⟩

set_option maxRecDepth 100000 in
set_option maxHeartbeats 2000000 in
theorem forms_walk (n : Int) (w : World) : Calls Try.prog 3 #[.int .i64 n] w (TrueBelow w) := by
  go_enter Try.func3, Try.ntmps3
  go_upto_region 1 with fail
  go_cut [3] (TabRel w)
  case first =>
    go_wp2_with fail
    go_meet
    exact tab_mk w
  case rest =>
    obtain ⟨g, rfl, hb0, hall, hg⟩ := hcut
    obtain ⟨q, hq, q1⟩ : ∃ q : Nat, bits .and .i64 n 255 = (q : Int) ∧ q ≤ 255 := ⟨(n % 256).toNat, by rw [i64_and255]; omega, by omega⟩
    have hm1 : ((q : Int).tmod 22) < 22 := by rw [Int.tmod_eq_emod_of_nonneg (by omega)]; omega
    have hm0 : 0 ≤ ((q : Int).tmod 22) := by rw [Int.tmod_eq_emod_of_nonneg (by omega)]; omega
    obtain ⟨a, r, ps, D, c, c0, c1, c2, hr, hap, hl⟩ := hall (q % 22) (Nat.mod_lt _ (by decide))
    clear hall
    have HA := Lib.hid hap
    have HR := Lib.hid hr
    clear hap hr
    go_upto_region 3 with fail
    have hX := Held.new wc 23 #[.int .i64 a, .slice D ps.length c, .int .i64 r]
    have hR1 := HR.out.below ((Below.refl _ wc).alloc (Nat.le_refl _) (.cells #[.int .i64 a, .slice D ps.length c, .int .i64 r] 23)) (Nat.le_refl _)
    have hb1 : Below w.heap.size w (wc.alloc (.cells #[.int .i64 a, .slice D ps.length c, .int .i64 r] 23)) := hb0.alloc hb0.size _
    clear c0 c1 c2 hq q1 hm1 hm0 HR hb0 hg
    generalize wc.alloc (.cells #[.int .i64 a, .slice D ps.length c, .int .i64 r] 23) = wx at *
    have hXl := hX.lt
    have HA2 : Hid (Calls Try.prog 7 #[.int .i64 a, .slice D ps.length c] wx.drew (ApplyPost wx.drew r)) := by
      have := apply_any a ps _ wx.drew (hR1.below (Below.refl _ wx).drew (Nat.le_refl _)) (by omega)
      rwa [HA.out] at this
    clear hR1 HA hl
    have hXD : Held wx.drew wc.heap.size 23 #[.int .i64 a, .slice D ps.length c, .int .i64 r] := hX
    generalize wc.heap.size = X at *
    go_region_held3 (fun w' => w'.cell? ⟨X, 0, none⟩ = some (.int .i64 a) ∧ w'.cell? ⟨X, 1, none⟩ = some (.slice D ps.length c) ∧ w'.cell? ⟨X, 2, none⟩ = some (.int .i64 r))
      (first
        | with_reducible exact row_S hXD
        | with_reducible exact row_S hX2
        | with_reducible exact row_S hX3
        | fail)
      (first
        | (go_at_call 7
           (with_reducible refine HA2.out.mono ?_)
           rintro e w2 ⟨rfl, hb2⟩
           have hX2 : Held w2 X 23 #[.int .i64 a, .slice D ps.length c, .int .i64 r] := Held.below (w := wx.drew) hX hb2 hXl
           have hb2' : Below w.heap.size w w2 := hb1.drew.trans (hb2.mono hb1.size))
        | (go_at_call 8
           (with_reducible refine (awake_any _).mono ?_)
           rintro e w3 ⟨rfl, hb3⟩
           have hX3 : Held w3 X 23 #[.int .i64 a, .slice D ps.length c, .int .i64 r] := Held.below hX2 hb3 hX2.lt
           have hb3' : Below w.heap.size w w3 := hb2'.trans (hb3.mono hb2'.size)))
    go_wp2_with fail
    go_ret
    exact ⟨rfl, hb3'⟩
end Go.Proofs.Ythjpfljklbfeeaa
