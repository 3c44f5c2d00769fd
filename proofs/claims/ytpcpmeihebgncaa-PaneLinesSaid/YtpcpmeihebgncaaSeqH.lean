/-
  What sequenced of package acts answers for H and f: the cursor goes to the row and the column that are told. Conditions: the screen's sides lie between 1 and 1,000, the cursor is on it.
-/
import Derived.Test.YtpcpmeihebgncaaSeq
namespace Go.Proofs.Ytpcpmeihebgncaa
open Go.RowKit
set_option maxRecDepth 100000

set_option maxHeartbeats 4000000 in
theorem seq_H (p : Nm) (D E PD : Option Addr) (n c m d pc : Nat) (xs : List Int) (w : World) (hr : ReadI w (.slice PD xs.length pc) xs) (hp : On p) :
    Calls Try.prog 30 #[gv p (.slice D n c) (.slice E m d), .int .i32 72, .slice PD xs.length pc] w (ValPost (gv (movedNm p (toldF xs 1 1 - 1) (toldF xs 0 1 - 1)) (.slice D n c) (.slice E m d)) w) := by
  have HS := Lib.hid (MS.start w p (.slice D n c) (.slice E m d))
  have HT : Hid (∀ wx, Below w.heap.size w wx → Calls Try.prog 56 #[.slice PD xs.length pc, .int .i64 0, .int .i64 1] wx fun e w' => e = .returned (.int .i64 (toldF xs 0 1)) ∧ wx = w') := fun wx hb => told_any PD pc xs 0 1 wx (hr.below hb (Nat.le_refl _))
  have HT1 : Hid (∀ wx, Below w.heap.size w wx → Calls Try.prog 56 #[.slice PD xs.length pc, .int .i64 1, .int .i64 1] wx fun e w' => e = .returned (.int .i64 (toldF xs 1 1)) ∧ wx = w') := fun wx hb => told_any PD pc xs 1 1 wx (hr.below hb (Nat.le_refl _))
  obtain ⟨k0, k1⟩ := told_le (xs := xs) (i := 0) (o := 1) (by omega) (by omega)
  obtain ⟨j0, j1⟩ := told_le (xs := xs) (i := 1) (o := 1) (by omega) (by omega)
  generalize toldF xs 0 1 = k at *
  generalize toldF xs 1 1 = j at *
  obtain ⟨w0, w1, h0, h1, x0, x1, y0, y1⟩ := hp
  have s1 : IntKind.i64.wrap (k - 1) = k - 1 := IntWalk.i64_in _ (by omega)
  have s2 : IntKind.i64.wrap (j - 1) = j - 1 := IntWalk.i64_in _ (by omega)
  clear hr
  unfold gv gcs
  go_enter Try.func30, Try.ntmps30
  go_upto_region 1 with fail
  refine wp_world (fun wq => MS w p (.slice D n c) (.slice E m d) wq) HS.out ?_
  clear HS
  intro w2 rs
  have xg := rs.box
  have HR := Lib.hid rs
  clear rs
  go_upto_region 17 with (
    go_at_call 56
    refine (HT.out _ HR.out.below).mono ?_
    rintro e w' ⟨rfl, rfl⟩)
  have rsd := HR.out.drew
  have HM := Lib.hid (moved_any p D E n c m d (j - 1) (k - 1) w2.drew w0 w1 h0 h1)
  clear w0 w1 h0 h1
  have xd := rsd.box
  obtain ⟨y0, y1, y2, y3, y4, y5, y6, y7, y8, y9, y10, y11, y12, y13, y14, yf⟩ := xd.cells
  go_region_with (first
    | (go_at_call 56
       with_reducible refine (HT1.out _ rsd.below).mono ?_
       rintro e w' ⟨rfl, rfl⟩)
    | (go_at_call 54
       refine HM.out.mono ?_
       rintro e w5 ⟨rfl, hb5⟩
       have xa := rsd.ans.below hb5 rsd.ans.lt
       have hc := xa.cells
       simp only [zeroNm, nilV] at hc
       obtain ⟨a0, a1, a2, a3, a4, a5, a6, a7, a8, a9, a10, a11, a12, a13, a14, af⟩ := hc
       generalize hq : movedNm p (j - 1) (k - 1) = q at *
       unfold gv gcs))
  all_goals
    clear y0 y1 y2 y3 y4 y5 y6 y7 y8 y9 y10 y11 y12 y13 y14 yf
    clear a0 a1 a2 a3 a4 a5 a6 a7 a8 a9 a10 a11 a12 a13 a14 af
    go_wp2_with fail
    change bodyPost _ _ _ _ _ (put15 w5 (w.heap.size + 1) q (.slice D n c) (.slice E m d))
    have HZ := Lib.hid (put15_box xa (p := q) (.slice D n c) (.slice E m d)).cells
    have HB := Lib.hid (put15_below (rsd.below.trans (hb5.mono rsd.below.size)) (Nat.le_succ _) q (.slice D n c) (.slice E m d))
    generalize put15 w5 (w.heap.size + 1) q (.slice D n c) (.slice E m d) = wz at *
    obtain ⟨y0, y1, y2, y3, y4, y5, y6, y7, y8, y9, y10, y11, y12, y13, y14, yf⟩ := HZ.out
    refine bodyPost_ret (v := gv q (.slice D n c) (.slice E m d)) (by simp [results, Try.results30, go_sem, gv, gcs, y0, y1, y2, y3, y4, y5, y6, y7, y8, y9, y10, y11, y12, y13, y14]) rfl ?_
    exact ⟨rfl, HB.out⟩

set_option maxHeartbeats 4000000 in
theorem seq_f (p : Nm) (D E PD : Option Addr) (n c m d pc : Nat) (xs : List Int) (w : World) (hr : ReadI w (.slice PD xs.length pc) xs) (hp : On p) :
    Calls Try.prog 30 #[gv p (.slice D n c) (.slice E m d), .int .i32 102, .slice PD xs.length pc] w (ValPost (gv (movedNm p (toldF xs 1 1 - 1) (toldF xs 0 1 - 1)) (.slice D n c) (.slice E m d)) w) := by
  have HS := Lib.hid (MS.start w p (.slice D n c) (.slice E m d))
  have HT : Hid (∀ wx, Below w.heap.size w wx → Calls Try.prog 56 #[.slice PD xs.length pc, .int .i64 0, .int .i64 1] wx fun e w' => e = .returned (.int .i64 (toldF xs 0 1)) ∧ wx = w') := fun wx hb => told_any PD pc xs 0 1 wx (hr.below hb (Nat.le_refl _))
  have HT1 : Hid (∀ wx, Below w.heap.size w wx → Calls Try.prog 56 #[.slice PD xs.length pc, .int .i64 1, .int .i64 1] wx fun e w' => e = .returned (.int .i64 (toldF xs 1 1)) ∧ wx = w') := fun wx hb => told_any PD pc xs 1 1 wx (hr.below hb (Nat.le_refl _))
  obtain ⟨k0, k1⟩ := told_le (xs := xs) (i := 0) (o := 1) (by omega) (by omega)
  obtain ⟨j0, j1⟩ := told_le (xs := xs) (i := 1) (o := 1) (by omega) (by omega)
  generalize toldF xs 0 1 = k at *
  generalize toldF xs 1 1 = j at *
  obtain ⟨w0, w1, h0, h1, x0, x1, y0, y1⟩ := hp
  have s1 : IntKind.i64.wrap (k - 1) = k - 1 := IntWalk.i64_in _ (by omega)
  have s2 : IntKind.i64.wrap (j - 1) = j - 1 := IntWalk.i64_in _ (by omega)
  clear hr
  unfold gv gcs
  go_enter Try.func30, Try.ntmps30
  go_upto_region 1 with fail
  refine wp_world (fun wq => MS w p (.slice D n c) (.slice E m d) wq) HS.out ?_
  clear HS
  intro w2 rs
  have xg := rs.box
  have HR := Lib.hid rs
  clear rs
  go_upto_region 17 with (
    go_at_call 56
    refine (HT.out _ HR.out.below).mono ?_
    rintro e w' ⟨rfl, rfl⟩)
  have rsd := HR.out.drew
  have HM := Lib.hid (moved_any p D E n c m d (j - 1) (k - 1) w2.drew w0 w1 h0 h1)
  clear w0 w1 h0 h1
  have xd := rsd.box
  obtain ⟨y0, y1, y2, y3, y4, y5, y6, y7, y8, y9, y10, y11, y12, y13, y14, yf⟩ := xd.cells
  go_region_with (first
    | (go_at_call 56
       with_reducible refine (HT1.out _ rsd.below).mono ?_
       rintro e w' ⟨rfl, rfl⟩)
    | (go_at_call 54
       refine HM.out.mono ?_
       rintro e w5 ⟨rfl, hb5⟩
       have xa := rsd.ans.below hb5 rsd.ans.lt
       have hc := xa.cells
       simp only [zeroNm, nilV] at hc
       obtain ⟨a0, a1, a2, a3, a4, a5, a6, a7, a8, a9, a10, a11, a12, a13, a14, af⟩ := hc
       generalize hq : movedNm p (j - 1) (k - 1) = q at *
       unfold gv gcs))
  all_goals
    clear y0 y1 y2 y3 y4 y5 y6 y7 y8 y9 y10 y11 y12 y13 y14 yf
    clear a0 a1 a2 a3 a4 a5 a6 a7 a8 a9 a10 a11 a12 a13 a14 af
    go_wp2_with fail
    change bodyPost _ _ _ _ _ (put15 w5 (w.heap.size + 1) q (.slice D n c) (.slice E m d))
    have HZ := Lib.hid (put15_box xa (p := q) (.slice D n c) (.slice E m d)).cells
    have HB := Lib.hid (put15_below (rsd.below.trans (hb5.mono rsd.below.size)) (Nat.le_succ _) q (.slice D n c) (.slice E m d))
    generalize put15 w5 (w.heap.size + 1) q (.slice D n c) (.slice E m d) = wz at *
    obtain ⟨y0, y1, y2, y3, y4, y5, y6, y7, y8, y9, y10, y11, y12, y13, y14, yf⟩ := HZ.out
    refine bodyPost_ret (v := gv q (.slice D n c) (.slice E m d)) (by simp [results, Try.results30, go_sem, gv, gcs, y0, y1, y2, y3, y4, y5, y6, y7, y8, y9, y10, y11, y12, y13, y14]) rfl ?_
    exact ⟨rfl, HB.out⟩
end Go.Proofs.Ytpcpmeihebgncaa
