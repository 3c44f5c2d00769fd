/-
  What the document's New answers. Conditions: none.
-/
import Derived.Test.YtpcpmeihebgncaaB2
import Derived.Deep.RegionLaw
import Derived.Deep.Cut
import Derived.Deep.DeepCutAuto
namespace Go.Proofs.Ytpcpmeihebgncaa
open Go.RowKit
set_option maxRecDepth 100000





/-- The rows so far. -/
structure NewSt (w : World) (x : Int) (h k : Nat) (v : Value) (vs : List Value) (wr : World) : Prop where
  le : k ≤ h
  box : Box wr (w.heap.size + 1) (newNm x h) v nilV
  ans : Box wr w.heap.size zeroNm nilV nilV
  own : wr.ownsRow (w.heap.size + 2) 46 1 v k vs
  rows : RowsH (w.heap.size + 2) wr vs (blankL x k)
  below : Below w.heap.size w wr
/-- A screen of the call's own comes back; no line has gone. -/
def NewPost (w : World) (p : Nm) (L : List (List C)) (e : Ending) (w' : World) : Prop :=
  ∃ D n c, e = .returned (gv p (.slice D n c) nilV) ∧ Lines w.heap.size w' D L ∧ L.length = n ∧ n ≤ c ∧ Below w.heap.size w w'
def NewRel (w : World) (x : Int) (h : Nat) (i : Value) (wr : World) : Prop := ∃ (k : Nat) (v : Value) (vs : List Value), i = .int .i64 (k : Int) ∧ NewSt w x h k v vs wr

set_option maxRecDepth 100000 in
set_option maxHeartbeats 2000000 in
theorem rnew_nil (x0 y0 : Int) (w : World) : Calls Try.prog 25 #[.int .i64 x0, .int .i64 y0] w (NewPost w (newNm (heldF x0 1 1000) (heldF y0 1 1000)) (blankL (heldF x0 1 1000) (heldF y0 1 1000).toNat)) := by
  have HX := Lib.hid (fun w => held_any x0 1 1000 w)
  obtain ⟨h, hh⟩ : ∃ h : Nat, heldF y0 1 1000 = h := ⟨(heldF y0 1 1000).toNat, by unfold heldF; omega⟩
  have h1 : 1 ≤ h ∧ h ≤ 1000 := by have : 1 ≤ heldF y0 1 1000 ∧ heldF y0 1 1000 ≤ 1000 := by unfold heldF; omega
                                   omega
  have HY : Hid (∀ w, Calls Try.prog 47 #[.int .i64 y0, .int .i64 1, .int .i64 1000] w fun e w' => e = .returned (.int .i64 h) ∧ w = w') := fun w => by rw [← hh]; exact held_any y0 1 1000 w
  rw [hh, Int.toNat_natCast]
  generalize heldF x0 1 1000 = x at *
  clear hh
  obtain ⟨hh0, hh1⟩ := h1
  go_enter Try.func25, Try.ntmps25
  go_wp2_with fail
  refine (HX.out _).mono ?_
  rintro e w' ⟨rfl, rfl⟩
  go_wp2_with (go_at_call 47; refine (HY.out _).mono ?_; rintro e w' ⟨rfl, rfl⟩)
  go_loopw [6] (NewRel w x h) (fun i _ => h - (intOf i).toNat)
  case atStart =>
    refine ⟨0, nilV, [], rfl, Nat.zero_le _, ?_, ?_, World.ownsRow_nil _ _ _ _, RowsH.nil _ _, ?_⟩
    · have := Box.new (w.alloc (.cells (gcs zeroNm nilV nilV) 35)) (newNm x h) nilV nilV
      rw [World.size_alloc] at this
      exact this
    · exact (Box.new w zeroNm nilV nilV).alloc _
    · exact ((Below.refl _ _).alloc (Nat.le_refl _) _).alloc (by simp) _
  case round =>
    obtain ⟨k, v, vs, rfl, hst⟩ := hrel
    by_cases hlt : k < h
    · have hki : (k : Int) < (h : Int) := by omega
      have y0 := hst.box.cells.c0
      have y1 := hst.box.cells.c1
      have y13 := hst.box.cells.c13
      simp only [newNm] at y0 y1
      go_wp2_with fail
      have hx : Box wr.drew (w.heap.size + 1) (newNm x h) v nilV := hst.box
      have ha : Box wr.drew w.heap.size zeroNm nilV nilV := hst.ans
      have ho : wr.drew.ownsRow (w.heap.size + 2) 46 1 v k vs := hst.own
      have hr : RowsH (w.heap.size + 2) wr.drew vs (blankL x k) := hst.rows
      have hb : Below w.heap.size w wr.drew := below_drewN hst.below 1
      clear hst
      have HB := Lib.hid (fun w => rblank_any x w)
      obtain ⟨Dv, cv, rfl, _, _⟩ := own_tab ho
      have HO := Lib.hid ho
      have HR := Lib.hid hr
      clear ho hr
      have y13d := hx.cells.c13
      have y0d := hx.cells.c0
      simp only [newNm] at y0d
      have hz := hx.lt
      generalize hq : blankF x = q at *
      have HQ := Lib.hid hq
      clear hq
      go_region_law (first
        | (go_simp
           go_at_call 48
           refine (HB.out _).mono ?_
           rintro e w1 ⟨g, rfl, hg, hrow, hb1⟩
           have hx1 := hx.below hb1 hz
           have y131 := hx1.cells.c13
           have y01 := hx1.cells.c0
           simp only [newNm] at y01
           have y132 := (hx1.alloc (.cells #[.slice (some ⟨g, 0, none⟩) q.length q.length] 46)).cells.c13
           have b2 : Below wr.drew.heap.size wr.drew (w1.alloc (.cells #[.slice (some ⟨g, 0, none⟩) q.length q.length] 46)) := hb1.alloc hb1.size _
           have HO2 := Lib.hid (own_below HO.out b2 (Nat.le_refl _))
           have HT2 := Lib.hid ((Held.new w1 46 #[.slice (some ⟨g, 0, none⟩) q.length q.length]).tab (B := 0) (vs := [.slice (some ⟨g, 0, none⟩) q.length q.length]) (Nat.zero_le _)).src
           have hz2 := b2.size)
        | (refine step_append_src _ rfl (.tmp 23) (.tmp 27) 33 rfl rowL (w.heap.size + 2) k 1 1 _ _ vs _ rfl rfl HO2.out HT2.out rfl (by simp [Value.oneCell']) (by omega) (by omega) ?_
           rintro v3 w3 ⟨ho3, hb3, hh3⟩
           obtain ⟨D3, c3, rfl, _, _⟩ := own_tab ho3
           have hx3 := (hx1.alloc (.cells #[.slice (some ⟨g, 0, none⟩) q.length q.length] 46)).below hb3 (by omega)
           have y133 := hx3.cells.c13
           have yf3 := hx3.cells.free
           have HST : Hid (NewSt w x h (k + 1) (.slice D3 (vs.length + 1) c3) (vs ++ [.slice (some ⟨g, 0, none⟩) q.length q.length]) (w3.setCell ⟨w.heap.size + 1, 13, none⟩ (.slice D3 (vs.length + 1) c3))) := by
             have e3 : (vs ++ [Value.slice (some ⟨g, 0, none⟩) q.length q.length]).length = vs.length + 1 := by simp
             rw [e3] at ho3
             have ha3 := ((ha.below hb1 ha.lt).alloc (.cells #[.slice (some ⟨g, 0, none⟩) q.length q.length] 46)).below hb3 (by omega)
             refine ⟨by omega, hx3.set_rows _, ha3.far (q := ⟨w.heap.size + 1, 13, none⟩) (by exact (by omega : w.heap.size ≠ w.heap.size + 1)) _, own_far ho3 (by exact (by omega : w.heap.size + 1 < w.heap.size + 2)) _, ?_, ?_⟩
             · rw [← blankL_next, HQ.out]
               have hk : ∀ (g' : Nat) (l : List C), w.heap.size + 2 ≤ g' → Row w1 g' l → Row (w3.setCell ⟨w.heap.size + 1, 13, none⟩ (.slice D3 (vs.length + 1) c3)) g' l := fun g' l hg' hrw =>
                 Held.far (hh3 g' 48 _ (by decide) (Held.alloc hrw _)) (p := ⟨w.heap.size + 1, 13, none⟩) (by exact (by omega : g' ≠ w.heap.size + 1)) _
               exact (HR.out.map fun g' l hg' hrw => hk g' l hg' (hrw.below hb1 hrw.lt)).next (by omega) (hk g q (by omega) hrow)
             · exact ((hb.trans (hb1.mono hb.size)).alloc (by have := hb.size; have := hb1.size; omega) _ |>.trans (hb3.mono (by omega))).setCell (p := ⟨w.heap.size + 1, 13, none⟩) (by exact Nat.le_succ _) _
           clear ho3 hh3))
      all_goals
        go_wp2_with fail
        go_roundw
        case rel => exact ⟨k + 1, _, _, by go_num, HST.out⟩
        case measure => simp [intOf]; omega
    · have hki : ¬ (k : Int) < (h : Int) := by omega
      obtain rfl : k = h := by have := hst.le; omega
      obtain ⟨Dv, cv, rfl, hcv, htv⟩ := own_tab hst.own
      have hvl : vs.length = k := by rw [hst.rows.1, blankL_len]
      have HL := Lib.hid (Lines.put15 (g := w.heap.size) ⟨vs, htv, hst.rows.v⟩ (by omega) (newNm x k) (.slice Dv vs.length cv) nilV)
      have HZ := Lib.hid (put15_box hst.ans (p := newNm x k) (.slice Dv vs.length cv) nilV).cells
      have HBA := Lib.hid (put15_below hst.below (Nat.le_refl _) (newNm x k) (.slice Dv vs.length cv) nilV)
      have hc2 := hst.ans.cells
      have hc3 := hst.box.cells
      have hzz := hst.ans.lt
      simp only [zeroNm, nilV] at hc2
      simp only [newNm, nilV] at hc3
      obtain ⟨a0, a1, a2, a3, a4, a5, a6, a7, a8, a9, a10, a11, a12, a13, a14, af⟩ := hc2
      obtain ⟨y0, y1, y2, y3, y4, y5, y6, y7, y8, y9, y10, y11, y12, y13, y14, yf⟩ := hc3
      have HV := Lib.hid hvl
      clear hst htv hvl
      go_wp2_with fail
      change bodyPost _ _ _ _ _ (put15 wr w.heap.size (newNm x k) (.slice Dv vs.length cv) nilV)
      clear a0 a1 a2 a3 a4 a5 a6 a7 a8 a9 a10 a11 a12 a13 a14 af y0 y1 y2 y3 y4 y5 y6 y7 y8 y9 y10 y11 y12 y13 y14 yf
      generalize (put15 wr w.heap.size (newNm x k) (.slice Dv vs.length cv) nilV) = wz at *
      obtain ⟨y0, y1, y2, y3, y4, y5, y6, y7, y8, y9, y10, y11, y12, y13, y14, yf⟩ := HZ.out
      refine bodyPost_ret (v := gv (newNm x k) (.slice Dv vs.length cv) nilV) (by simp [results, Try.results25, go_sem, gv, gcs, y0, y1, y2, y3, y4, y5, y6, y7, y8, y9, y10, y11, y12, y13, y14]) rfl ?_
      exact ⟨_, _, _, rfl, HL.out.weak (by omega), by rw [blankL_len, HV.out], by omega, HBA.out⟩
theorem rnew_any (x0 y0 : Int) (w : World) : Calls Try.prog 25 #[.int .i64 x0, .int .i64 y0] w (GridPost w (newNm (heldF x0 1 1000) (heldF y0 1 1000)) (blankL (heldF x0 1 1000) (heldF y0 1 1000).toNat) []) :=
  (rnew_nil x0 y0 w).mono fun _ _ ⟨_, _, _, h, hl, hn, hc, hb⟩ => ⟨_, _, _, _, _, _, h, ⟨hl, Lines.nil _ _ _, hn, rfl, hc, Nat.le_refl _⟩, hb⟩
end Go.Proofs.Ytpcpmeihebgncaa
