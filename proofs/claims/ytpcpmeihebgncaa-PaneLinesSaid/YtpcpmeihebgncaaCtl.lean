/-
  What controlled and escaped of package acts answer, rune by rune. Conditions: the screen's sides lie between 1 and 1,000, the cursor is on it.
-/
import Derived.Test.YtpcpmeihebgncaaBounds
namespace Go.Proofs.Ytpcpmeihebgncaa
open Go.RowKit
set_option maxRecDepth 100000

set_option maxHeartbeats 4000000 in
theorem ctl_8 (p : Nm) (D E : Option Addr) (n c m d : Nat) (w : World) (hp : On p) :
    Calls Try.prog 28 #[gv p (.slice D n c) (.slice E m d), .int .i32 8] w (ValPost (gv (movedNm p (p.x - 1) p.y) (.slice D n c) (.slice E m d)) w) := by
  have HS := Lib.hid (MS.start w p (.slice D n c) (.slice E m d))
  obtain ⟨w0, w1, h0, h1, x0, x1, y0, y1⟩ := hp
  have s1 : IntKind.i64.wrap (p.x - 1) = p.x - 1 := IntWalk.i64_in _ (by omega)
  unfold gv gcs
  go_enter Try.func28, Try.ntmps28
  go_upto_region 1 with fail
  refine wp_world (fun wq => MS w p (.slice D n c) (.slice E m d) wq) HS.out ?_
  clear HS
  intro w2 rs
  have xg := rs.box
  have u2 := xg.cells.c2
  have u3 := xg.cells.c3
  have HM := Lib.hid (moved_any p D E n c m d (p.x - 1) p.y w2 w0 w1 h0 h1)
  have HR := Lib.hid rs
  clear rs w0 w1 h0 h1 x0 x1 y0 y1
  go_wp2_with (first
    | (with_reducible refine wpList_loadB xg (x := .tmp 2) ?_ ?_ ?_ ?_
       · with_reducible rfl
       · rfl
       · rfl)
    | (go_at_call 54
       refine HM.out.mono ?_
       clear HM
       rintro e w5 ⟨rfl, hb5⟩
       have xa := HR.out.ans.below hb5 HR.out.ans.lt
       generalize hq : movedNm p (p.x - 1) p.y = q at *)
    | (with_reducible refine wpList_storeA xa (x := .tmp 4) (y := .tmp 14) (p := q) (D := D) (E := E) (n := n) (c := c) (m := m) (d := d) ?_ ?_ ?_ ?_ ?_
       · with_reducible rfl
       · rfl
       · rfl
       · rfl))
  refine bodyPost_ret (v := gv q (.slice D n c) (.slice E m d)) (results_cell_row (P := Try.prog) Try.results28 _ _ (w.heap.size + 1) 35 _ (0, 0) _ rfl (xa.setRow q _ _) Try.underlying35 rfl box_size) rfl ?_
  exact ⟨rfl, below_setRow (HR.out.below.trans (hb5.mono HR.out.below.size)) (Nat.le_succ _) _⟩

set_option maxHeartbeats 4000000 in
theorem ctl_9 (p : Nm) (D E : Option Addr) (n c m d : Nat) (w : World) (hp : On p) :
    Calls Try.prog 28 #[gv p (.slice D n c) (.slice E m d), .int .i32 9] w (ValPost (gv (movedNm p ((p.x / 8 + 1) * 8) p.y) (.slice D n c) (.slice E m d)) w) := by
  have HS := Lib.hid (MS.start w p (.slice D n c) (.slice E m d))
  obtain ⟨w0, w1, h0, h1, x0, x1, y0, y1⟩ := hp
  have s0 : p.x.tdiv 8 = p.x / 8 := Int.tdiv_eq_ediv_of_nonneg x0
  have s1 : IntKind.i64.wrap (p.x / 8) = p.x / 8 := IntWalk.i64_in _ (by omega)
  have s2 : IntKind.i64.wrap (p.x / 8 + 1) = p.x / 8 + 1 := IntWalk.i64_in _ (by omega)
  have s3 : IntKind.i64.wrap ((p.x / 8 + 1) * 8) = (p.x / 8 + 1) * 8 := IntWalk.i64_in _ (by omega)
  unfold gv gcs
  go_enter Try.func28, Try.ntmps28
  go_upto_region 1 with fail
  refine wp_world (fun wq => MS w p (.slice D n c) (.slice E m d) wq) HS.out ?_
  clear HS
  intro w2 rs
  have xg := rs.box
  have u2 := xg.cells.c2
  have u3 := xg.cells.c3
  have HM := Lib.hid (moved_any p D E n c m d ((p.x / 8 + 1) * 8) p.y w2 w0 w1 h0 h1)
  have HR := Lib.hid rs
  clear rs w0 w1 h0 h1 x0 x1 y0 y1
  go_wp2_with (first
    | (with_reducible refine wpList_loadB xg (x := .tmp 2) ?_ ?_ ?_ ?_
       · with_reducible rfl
       · rfl
       · rfl)
    | (go_at_call 54
       refine HM.out.mono ?_
       clear HM
       rintro e w5 ⟨rfl, hb5⟩
       have xa := HR.out.ans.below hb5 HR.out.ans.lt
       generalize hq : movedNm p ((p.x / 8 + 1) * 8) p.y = q at *)
    | (with_reducible refine wpList_storeA xa (x := .tmp 4) (y := .tmp 25) (p := q) (D := D) (E := E) (n := n) (c := c) (m := m) (d := d) ?_ ?_ ?_ ?_ ?_
       · with_reducible rfl
       · rfl
       · rfl
       · rfl))
  refine bodyPost_ret (v := gv q (.slice D n c) (.slice E m d)) (results_cell_row (P := Try.prog) Try.results28 _ _ (w.heap.size + 1) 35 _ (0, 0) _ rfl (xa.setRow q _ _) Try.underlying35 rfl box_size) rfl ?_
  exact ⟨rfl, below_setRow (HR.out.below.trans (hb5.mono HR.out.below.size)) (Nat.le_succ _) _⟩

set_option maxHeartbeats 4000000 in
theorem ctl_13 (p : Nm) (D E : Option Addr) (n c m d : Nat) (w : World) (hp : On p) :
    Calls Try.prog 28 #[gv p (.slice D n c) (.slice E m d), .int .i32 13] w (ValPost (gv (movedNm p 0 p.y) (.slice D n c) (.slice E m d)) w) := by
  have HS := Lib.hid (MS.start w p (.slice D n c) (.slice E m d))
  obtain ⟨w0, w1, h0, h1, x0, x1, y0, y1⟩ := hp
  skip
  unfold gv gcs
  go_enter Try.func28, Try.ntmps28
  go_upto_region 1 with fail
  refine wp_world (fun wq => MS w p (.slice D n c) (.slice E m d) wq) HS.out ?_
  clear HS
  intro w2 rs
  have xg := rs.box
  have u2 := xg.cells.c2
  have u3 := xg.cells.c3
  have HM := Lib.hid (moved_any p D E n c m d 0 p.y w2 w0 w1 h0 h1)
  have HR := Lib.hid rs
  clear rs w0 w1 h0 h1 x0 x1 y0 y1
  go_wp2_with (first
    | (with_reducible refine wpList_loadB xg (x := .tmp 2) ?_ ?_ ?_ ?_
       · with_reducible rfl
       · rfl
       · rfl)
    | (go_at_call 54
       refine HM.out.mono ?_
       clear HM
       rintro e w5 ⟨rfl, hb5⟩
       have xa := HR.out.ans.below hb5 HR.out.ans.lt
       generalize hq : movedNm p 0 p.y = q at *)
    | (with_reducible refine wpList_storeA xa (x := .tmp 4) (y := .tmp 43) (p := q) (D := D) (E := E) (n := n) (c := c) (m := m) (d := d) ?_ ?_ ?_ ?_ ?_
       · with_reducible rfl
       · rfl
       · rfl
       · rfl))
  refine bodyPost_ret (v := gv q (.slice D n c) (.slice E m d)) (results_cell_row (P := Try.prog) Try.results28 _ _ (w.heap.size + 1) 35 _ (0, 0) _ rfl (xa.setRow q _ _) Try.underlying35 rfl box_size) rfl ?_
  exact ⟨rfl, below_setRow (HR.out.below.trans (hb5.mono HR.out.below.size)) (Nat.le_succ _) _⟩

def Noctl_no (r : Int) : Prop := r ≠ 8 ∧ r ≠ 9 ∧ r ≠ 10 ∧ r ≠ 11 ∧ r ≠ 12 ∧ r ≠ 13
set_option maxHeartbeats 4000000 in
theorem ctl_no (p : Nm) (D E : Option Addr) (n c m d : Nat) (r : Int) (w : World) (hr : Noctl_no r) :
    Calls Try.prog 28 #[gv p (.slice D n c) (.slice E m d), .int .i32 r] w (ValPost (gv p (.slice D n c) (.slice E m d)) w) := by
  have HS := Lib.hid (MS.start w p (.slice D n c) (.slice E m d))
  obtain ⟨n8, n9, n10, n11, n12, n13⟩ := hr
  unfold gv gcs
  go_enter Try.func28, Try.ntmps28
  go_upto_region 1 with fail
  refine wp_world (fun wq => MS w p (.slice D n c) (.slice E m d) wq) HS.out ?_
  clear HS
  intro w2 rs
  have xg := rs.box
  have xa := rs.ans
  go_wp2_with (first
    | (with_reducible refine wpList_loadB xg (x := .tmp 2) ?_ ?_ ?_ ?_
       · with_reducible rfl
       · rfl
       · rfl)
    | (with_reducible refine wpList_storeA xa (x := .tmp 4) (y := .tmp 44) (p := p) (D := D) (E := E) (n := n) (c := c) (m := m) (d := d) ?_ ?_ ?_ ?_ ?_
       · with_reducible rfl
       · rfl
       · rfl
       · rfl))
  refine bodyPost_ret (v := gv p (.slice D n c) (.slice E m d)) (results_cell_row (P := Try.prog) Try.results28 _ _ (w.heap.size + 1) 35 _ (0, 0) _ rfl (xa.setRow p _ _) Try.underlying35 rfl box_size) rfl ?_
  exact ⟨rfl, below_setRow rs.below (Nat.le_succ _) _⟩

def Noesc_no (r : Int) : Prop := r ≠ 68 ∧ r ≠ 77 ∧ r ≠ 69 ∧ r ≠ 55 ∧ r ≠ 56 ∧ r ≠ 99
set_option maxHeartbeats 4000000 in
theorem esc_no (p : Nm) (D E : Option Addr) (n c m d : Nat) (r : Int) (w : World) (hr : Noesc_no r) :
    Calls Try.prog 29 #[gv p (.slice D n c) (.slice E m d), .int .i32 r] w (ValPost (gv p (.slice D n c) (.slice E m d)) w) := by
  have HS := Lib.hid (MS.start w p (.slice D n c) (.slice E m d))
  obtain ⟨n68, n77, n69, n55, n56, n99⟩ := hr
  unfold gv gcs
  go_enter Try.func29, Try.ntmps29
  go_upto_region 1 with fail
  refine wp_world (fun wq => MS w p (.slice D n c) (.slice E m d) wq) HS.out ?_
  clear HS
  intro w2 rs
  have xg := rs.box
  have xa := rs.ans
  go_wp2_with (first
    | (with_reducible refine wpList_loadB xg (x := .tmp 2) ?_ ?_ ?_ ?_
       · with_reducible rfl
       · rfl
       · rfl)
    | (with_reducible refine wpList_storeA xa (x := .tmp 4) (y := .tmp 62) (p := p) (D := D) (E := E) (n := n) (c := c) (m := m) (d := d) ?_ ?_ ?_ ?_ ?_
       · with_reducible rfl
       · rfl
       · rfl
       · rfl))
  refine bodyPost_ret (v := gv p (.slice D n c) (.slice E m d)) (results_cell_row (P := Try.prog) Try.results29 _ _ (w.heap.size + 1) 35 _ (0, 0) _ rfl (xa.setRow p _ _) Try.underlying35 rfl box_size) rfl ?_
  exact ⟨rfl, below_setRow rs.below (Nat.le_succ _) _⟩

set_option maxHeartbeats 4000000 in
theorem ctl_10 (B : Nat) (p q : Nm) (g h : Nat) (L Bk L1 Bk1 : List (List C)) (w : World) (hs : OScr B w g h L Bk) (hq : On q)
    (hT : ∀ wx, Below w.heap.size w wx → Calls Try.prog 50 #[ov p g h L Bk] wx (LinePost B g wx q L1 Bk1)) :
    Calls Try.prog 28 #[ov p g h L Bk, .int .i32 10] w (InPost B g w (movedNm q q.x q.y) L1 Bk1) := by
  have HS := Lib.hid (MS.start w p (.slice (some ⟨g, 0, none⟩) L.length L.length) (.slice (some ⟨h, 0, none⟩) Bk.length Bk.length))
  have T : Hid (∀ wx, Below w.heap.size w wx → Calls Try.prog 50 #[gv p (.slice (some ⟨g, 0, none⟩) L.length L.length) (.slice (some ⟨h, 0, none⟩) Bk.length Bk.length)] wx (LinePost B g wx q L1 Bk1)) := hT
  have hgl := hs.rows.lt
  clear hT hs
  have HM := Lib.hid (fun D E n c m d w => moved_any q D E n c m d q.x q.y w hq.w0 hq.w1 hq.h0 hq.h1)
  clear hq
  
  unfold ov gv gcs
  go_enter Try.func28, Try.ntmps28
  go_upto_region 1 with fail
  refine wp_world (fun wq => MS w p (.slice (some ⟨g, 0, none⟩) L.length L.length) (.slice (some ⟨h, 0, none⟩) Bk.length Bk.length) wq) HS.out ?_
  clear HS
  intro w2 ms
  have xg := ms.box
  go_upto_region 10 with (first
    | (with_reducible refine wpList_loadB xg (x := .tmp 2) ?_ ?_ ?_ ?_
       · with_reducible rfl
       · rfl
       · rfl)
    | (go_at_call 50
       refine (T.out w2 ms.below).mono ?_
       clear T
       rintro e w3 ⟨g3, h3, rfl, s3, e3, b3⟩
       have x3 := ms.box.below b3 ms.box.lt)
    | (with_reducible refine wpList_storeA x3 (x := .tmp 2) (y := .tmp 31) (p := q) (D := some ⟨g3, 0, none⟩) (E := some ⟨h3, 0, none⟩) (n := L1.length) (c := L1.length) (m := Bk1.length) (d := Bk1.length) ?_ ?_ ?_ ?_ ?_
       · with_reducible rfl
       · rfl
       · rfl
       · rfl))
  have hz := ms.below.size
  refine wp_world (fun wq => Box wq w.heap.size q (.slice (some ⟨g3, 0, none⟩) L1.length L1.length) (.slice (some ⟨h3, 0, none⟩) Bk1.length Bk1.length) ∧ Box wq (w.heap.size + 1) zeroNm nilV nilV ∧ OScr B wq g3 h3 L1 Bk1 ∧ Below w.heap.size w wq)
    ⟨x3.setRow _ _ _, (setRow_other _ _ _ _ (by omega)).trans (ms.ans.below b3 ms.ans.lt), s3.bput x3 _, below_setRow (ms.below.trans (b3.mono ms.below.size)) (Nat.le_refl _) _⟩ ?_
  clear xg x3 ms s3 b3
  rintro w4 ⟨x4, a4, s4, b4⟩
  have u2 := x4.cells.c2
  have u3 := x4.cells.c3
  go_wp2_with (first
    | (with_reducible refine wpList_loadB x4 (x := .tmp 2) ?_ ?_ ?_ ?_
       · with_reducible rfl
       · rfl
       · rfl)
    | (go_at_call 54
       refine (HM.out _ _ _ _ _ _ w4).mono ?_
       clear HM
       rintro e w5 ⟨rfl, b5⟩
       have a5 := a4.below b5 a4.lt
       generalize hz : movedNm q q.x q.y = z at *)
    | (with_reducible refine wpList_storeA a5 (x := .tmp 4) (y := .tmp 37) (p := z) (D := some ⟨g3, 0, none⟩) (E := some ⟨h3, 0, none⟩) (n := L1.length) (c := L1.length) (m := Bk1.length) (d := Bk1.length) ?_ ?_ ?_ ?_ ?_
       · with_reducible rfl
       · rfl
       · rfl
       · rfl))
  refine bodyPost_ret (v := gv z (.slice (some ⟨g3, 0, none⟩) L1.length L1.length) (.slice (some ⟨h3, 0, none⟩) Bk1.length Bk1.length)) (results_cell_row (P := Try.prog) Try.results28 _ _ (w.heap.size + 1) 35 _ (0, 0) _ rfl (a5.setRow _ _ _) Try.underlying35 rfl box_size) rfl ?_
  exact ⟨g3, h3, rfl, (s4.below b5 (Nat.le_refl _)).bput a5 _, (Chg.of (below_setRow (b4.trans (b5.mono b4.size)) (Nat.le_succ _) _) hgl)⟩

set_option maxHeartbeats 4000000 in
theorem ctl_11 (B : Nat) (p q : Nm) (g h : Nat) (L Bk L1 Bk1 : List (List C)) (w : World) (hs : OScr B w g h L Bk) (hq : On q)
    (hT : ∀ wx, Below w.heap.size w wx → Calls Try.prog 50 #[ov p g h L Bk] wx (LinePost B g wx q L1 Bk1)) :
    Calls Try.prog 28 #[ov p g h L Bk, .int .i32 11] w (InPost B g w (movedNm q q.x q.y) L1 Bk1) := by
  have HS := Lib.hid (MS.start w p (.slice (some ⟨g, 0, none⟩) L.length L.length) (.slice (some ⟨h, 0, none⟩) Bk.length Bk.length))
  have T : Hid (∀ wx, Below w.heap.size w wx → Calls Try.prog 50 #[gv p (.slice (some ⟨g, 0, none⟩) L.length L.length) (.slice (some ⟨h, 0, none⟩) Bk.length Bk.length)] wx (LinePost B g wx q L1 Bk1)) := hT
  have hgl := hs.rows.lt
  clear hT hs
  have HM := Lib.hid (fun D E n c m d w => moved_any q D E n c m d q.x q.y w hq.w0 hq.w1 hq.h0 hq.h1)
  clear hq
  
  unfold ov gv gcs
  go_enter Try.func28, Try.ntmps28
  go_upto_region 1 with fail
  refine wp_world (fun wq => MS w p (.slice (some ⟨g, 0, none⟩) L.length L.length) (.slice (some ⟨h, 0, none⟩) Bk.length Bk.length) wq) HS.out ?_
  clear HS
  intro w2 ms
  have xg := ms.box
  go_upto_region 10 with (first
    | (with_reducible refine wpList_loadB xg (x := .tmp 2) ?_ ?_ ?_ ?_
       · with_reducible rfl
       · rfl
       · rfl)
    | (go_at_call 50
       refine (T.out w2 ms.below).mono ?_
       clear T
       rintro e w3 ⟨g3, h3, rfl, s3, e3, b3⟩
       have x3 := ms.box.below b3 ms.box.lt)
    | (with_reducible refine wpList_storeA x3 (x := .tmp 2) (y := .tmp 31) (p := q) (D := some ⟨g3, 0, none⟩) (E := some ⟨h3, 0, none⟩) (n := L1.length) (c := L1.length) (m := Bk1.length) (d := Bk1.length) ?_ ?_ ?_ ?_ ?_
       · with_reducible rfl
       · rfl
       · rfl
       · rfl))
  have hz := ms.below.size
  refine wp_world (fun wq => Box wq w.heap.size q (.slice (some ⟨g3, 0, none⟩) L1.length L1.length) (.slice (some ⟨h3, 0, none⟩) Bk1.length Bk1.length) ∧ Box wq (w.heap.size + 1) zeroNm nilV nilV ∧ OScr B wq g3 h3 L1 Bk1 ∧ Below w.heap.size w wq)
    ⟨x3.setRow _ _ _, (setRow_other _ _ _ _ (by omega)).trans (ms.ans.below b3 ms.ans.lt), s3.bput x3 _, below_setRow (ms.below.trans (b3.mono ms.below.size)) (Nat.le_refl _) _⟩ ?_
  clear xg x3 ms s3 b3
  rintro w4 ⟨x4, a4, s4, b4⟩
  have u2 := x4.cells.c2
  have u3 := x4.cells.c3
  go_wp2_with (first
    | (with_reducible refine wpList_loadB x4 (x := .tmp 2) ?_ ?_ ?_ ?_
       · with_reducible rfl
       · rfl
       · rfl)
    | (go_at_call 54
       refine (HM.out _ _ _ _ _ _ w4).mono ?_
       clear HM
       rintro e w5 ⟨rfl, b5⟩
       have a5 := a4.below b5 a4.lt
       generalize hz : movedNm q q.x q.y = z at *)
    | (with_reducible refine wpList_storeA a5 (x := .tmp 4) (y := .tmp 37) (p := z) (D := some ⟨g3, 0, none⟩) (E := some ⟨h3, 0, none⟩) (n := L1.length) (c := L1.length) (m := Bk1.length) (d := Bk1.length) ?_ ?_ ?_ ?_ ?_
       · with_reducible rfl
       · rfl
       · rfl
       · rfl))
  refine bodyPost_ret (v := gv z (.slice (some ⟨g3, 0, none⟩) L1.length L1.length) (.slice (some ⟨h3, 0, none⟩) Bk1.length Bk1.length)) (results_cell_row (P := Try.prog) Try.results28 _ _ (w.heap.size + 1) 35 _ (0, 0) _ rfl (a5.setRow _ _ _) Try.underlying35 rfl box_size) rfl ?_
  exact ⟨g3, h3, rfl, (s4.below b5 (Nat.le_refl _)).bput a5 _, (Chg.of (below_setRow (b4.trans (b5.mono b4.size)) (Nat.le_succ _) _) hgl)⟩

set_option maxHeartbeats 4000000 in
theorem ctl_12 (B : Nat) (p q : Nm) (g h : Nat) (L Bk L1 Bk1 : List (List C)) (w : World) (hs : OScr B w g h L Bk) (hq : On q)
    (hT : ∀ wx, Below w.heap.size w wx → Calls Try.prog 50 #[ov p g h L Bk] wx (LinePost B g wx q L1 Bk1)) :
    Calls Try.prog 28 #[ov p g h L Bk, .int .i32 12] w (InPost B g w (movedNm q q.x q.y) L1 Bk1) := by
  have HS := Lib.hid (MS.start w p (.slice (some ⟨g, 0, none⟩) L.length L.length) (.slice (some ⟨h, 0, none⟩) Bk.length Bk.length))
  have T : Hid (∀ wx, Below w.heap.size w wx → Calls Try.prog 50 #[gv p (.slice (some ⟨g, 0, none⟩) L.length L.length) (.slice (some ⟨h, 0, none⟩) Bk.length Bk.length)] wx (LinePost B g wx q L1 Bk1)) := hT
  have hgl := hs.rows.lt
  clear hT hs
  have HM := Lib.hid (fun D E n c m d w => moved_any q D E n c m d q.x q.y w hq.w0 hq.w1 hq.h0 hq.h1)
  clear hq
  
  unfold ov gv gcs
  go_enter Try.func28, Try.ntmps28
  go_upto_region 1 with fail
  refine wp_world (fun wq => MS w p (.slice (some ⟨g, 0, none⟩) L.length L.length) (.slice (some ⟨h, 0, none⟩) Bk.length Bk.length) wq) HS.out ?_
  clear HS
  intro w2 ms
  have xg := ms.box
  go_upto_region 10 with (first
    | (with_reducible refine wpList_loadB xg (x := .tmp 2) ?_ ?_ ?_ ?_
       · with_reducible rfl
       · rfl
       · rfl)
    | (go_at_call 50
       refine (T.out w2 ms.below).mono ?_
       clear T
       rintro e w3 ⟨g3, h3, rfl, s3, e3, b3⟩
       have x3 := ms.box.below b3 ms.box.lt)
    | (with_reducible refine wpList_storeA x3 (x := .tmp 2) (y := .tmp 31) (p := q) (D := some ⟨g3, 0, none⟩) (E := some ⟨h3, 0, none⟩) (n := L1.length) (c := L1.length) (m := Bk1.length) (d := Bk1.length) ?_ ?_ ?_ ?_ ?_
       · with_reducible rfl
       · rfl
       · rfl
       · rfl))
  have hz := ms.below.size
  refine wp_world (fun wq => Box wq w.heap.size q (.slice (some ⟨g3, 0, none⟩) L1.length L1.length) (.slice (some ⟨h3, 0, none⟩) Bk1.length Bk1.length) ∧ Box wq (w.heap.size + 1) zeroNm nilV nilV ∧ OScr B wq g3 h3 L1 Bk1 ∧ Below w.heap.size w wq)
    ⟨x3.setRow _ _ _, (setRow_other _ _ _ _ (by omega)).trans (ms.ans.below b3 ms.ans.lt), s3.bput x3 _, below_setRow (ms.below.trans (b3.mono ms.below.size)) (Nat.le_refl _) _⟩ ?_
  clear xg x3 ms s3 b3
  rintro w4 ⟨x4, a4, s4, b4⟩
  have u2 := x4.cells.c2
  have u3 := x4.cells.c3
  go_wp2_with (first
    | (with_reducible refine wpList_loadB x4 (x := .tmp 2) ?_ ?_ ?_ ?_
       · with_reducible rfl
       · rfl
       · rfl)
    | (go_at_call 54
       refine (HM.out _ _ _ _ _ _ w4).mono ?_
       clear HM
       rintro e w5 ⟨rfl, b5⟩
       have a5 := a4.below b5 a4.lt
       generalize hz : movedNm q q.x q.y = z at *)
    | (with_reducible refine wpList_storeA a5 (x := .tmp 4) (y := .tmp 37) (p := z) (D := some ⟨g3, 0, none⟩) (E := some ⟨h3, 0, none⟩) (n := L1.length) (c := L1.length) (m := Bk1.length) (d := Bk1.length) ?_ ?_ ?_ ?_ ?_
       · with_reducible rfl
       · rfl
       · rfl
       · rfl))
  refine bodyPost_ret (v := gv z (.slice (some ⟨g3, 0, none⟩) L1.length L1.length) (.slice (some ⟨h3, 0, none⟩) Bk1.length Bk1.length)) (results_cell_row (P := Try.prog) Try.results28 _ _ (w.heap.size + 1) 35 _ (0, 0) _ rfl (a5.setRow _ _ _) Try.underlying35 rfl box_size) rfl ?_
  exact ⟨g3, h3, rfl, (s4.below b5 (Nat.le_refl _)).bput a5 _, (Chg.of (below_setRow (b4.trans (b5.mono b4.size)) (Nat.le_succ _) _) hgl)⟩

set_option maxHeartbeats 4000000 in
theorem esc_E (B : Nat) (p q : Nm) (g h : Nat) (L Bk L1 Bk1 : List (List C)) (w : World) (hs : OScr B w g h L Bk) (hq : On q)
    (hT : ∀ wx, Below w.heap.size w wx → Calls Try.prog 50 #[ov p g h L Bk] wx (LinePost B g wx q L1 Bk1)) :
    Calls Try.prog 29 #[ov p g h L Bk, .int .i32 69] w (InPost B g w (movedNm q 0 q.y) L1 Bk1) := by
  have HS := Lib.hid (MS.start w p (.slice (some ⟨g, 0, none⟩) L.length L.length) (.slice (some ⟨h, 0, none⟩) Bk.length Bk.length))
  have T : Hid (∀ wx, Below w.heap.size w wx → Calls Try.prog 50 #[gv p (.slice (some ⟨g, 0, none⟩) L.length L.length) (.slice (some ⟨h, 0, none⟩) Bk.length Bk.length)] wx (LinePost B g wx q L1 Bk1)) := hT
  have hgl := hs.rows.lt
  clear hT hs
  have HM := Lib.hid (fun D E n c m d w => moved_any q D E n c m d 0 q.y w hq.w0 hq.w1 hq.h0 hq.h1)
  clear hq
  
  unfold ov gv gcs
  go_enter Try.func29, Try.ntmps29
  go_upto_region 1 with fail
  refine wp_world (fun wq => MS w p (.slice (some ⟨g, 0, none⟩) L.length L.length) (.slice (some ⟨h, 0, none⟩) Bk.length Bk.length) wq) HS.out ?_
  clear HS
  intro w2 ms
  have xg := ms.box
  go_upto_region 9 with (first
    | (with_reducible refine wpList_loadB xg (x := .tmp 2) ?_ ?_ ?_ ?_
       · with_reducible rfl
       · rfl
       · rfl)
    | (go_at_call 50
       refine (T.out w2 ms.below).mono ?_
       clear T
       rintro e w3 ⟨g3, h3, rfl, s3, e3, b3⟩
       have x3 := ms.box.below b3 ms.box.lt)
    | (with_reducible refine wpList_storeA x3 (x := .tmp 2) (y := .tmp 24) (p := q) (D := some ⟨g3, 0, none⟩) (E := some ⟨h3, 0, none⟩) (n := L1.length) (c := L1.length) (m := Bk1.length) (d := Bk1.length) ?_ ?_ ?_ ?_ ?_
       · with_reducible rfl
       · rfl
       · rfl
       · rfl))
  have hz := ms.below.size
  refine wp_world (fun wq => Box wq w.heap.size q (.slice (some ⟨g3, 0, none⟩) L1.length L1.length) (.slice (some ⟨h3, 0, none⟩) Bk1.length Bk1.length) ∧ Box wq (w.heap.size + 1) zeroNm nilV nilV ∧ OScr B wq g3 h3 L1 Bk1 ∧ Below w.heap.size w wq)
    ⟨x3.setRow _ _ _, (setRow_other _ _ _ _ (by omega)).trans (ms.ans.below b3 ms.ans.lt), s3.bput x3 _, below_setRow (ms.below.trans (b3.mono ms.below.size)) (Nat.le_refl _) _⟩ ?_
  clear xg x3 ms s3 b3
  rintro w4 ⟨x4, a4, s4, b4⟩
  have u2 := x4.cells.c2
  have u3 := x4.cells.c3
  go_wp2_with (first
    | (with_reducible refine wpList_loadB x4 (x := .tmp 2) ?_ ?_ ?_ ?_
       · with_reducible rfl
       · rfl
       · rfl)
    | (go_at_call 54
       refine (HM.out _ _ _ _ _ _ w4).mono ?_
       clear HM
       rintro e w5 ⟨rfl, b5⟩
       have a5 := a4.below b5 a4.lt
       generalize hz : movedNm q 0 q.y = z at *)
    | (with_reducible refine wpList_storeA a5 (x := .tmp 4) (y := .tmp 28) (p := z) (D := some ⟨g3, 0, none⟩) (E := some ⟨h3, 0, none⟩) (n := L1.length) (c := L1.length) (m := Bk1.length) (d := Bk1.length) ?_ ?_ ?_ ?_ ?_
       · with_reducible rfl
       · rfl
       · rfl
       · rfl))
  refine bodyPost_ret (v := gv z (.slice (some ⟨g3, 0, none⟩) L1.length L1.length) (.slice (some ⟨h3, 0, none⟩) Bk1.length Bk1.length)) (results_cell_row (P := Try.prog) Try.results29 _ _ (w.heap.size + 1) 35 _ (0, 0) _ rfl (a5.setRow _ _ _) Try.underlying35 rfl box_size) rfl ?_
  exact ⟨g3, h3, rfl, (s4.below b5 (Nat.le_refl _)).bput a5 _, (Chg.of (below_setRow (b4.trans (b5.mono b4.size)) (Nat.le_succ _) _) hgl)⟩

set_option maxHeartbeats 4000000 in
theorem esc_7 (p : Nm) (D E : Option Addr) (n c m d : Nat) (w : World) :
    Calls Try.prog 29 #[gv p (.slice D n c) (.slice E m d), .int .i32 55] w (ValPost (gv { p with sx := p.x, sy := p.y, sa := p.a } (.slice D n c) (.slice E m d)) w) := by
  have HS := Lib.hid (MS.start w p (.slice D n c) (.slice E m d))
  obtain ⟨q, hq0⟩ : ∃ q : Nm, { p with sx := p.x, sy := p.y, sa := p.a } = q := ⟨_, rfl⟩
  rw [hq0]
  have HQ0 := Lib.hid hq0
  clear hq0
  unfold gv gcs
  go_enter Try.func29, Try.ntmps29
  go_upto_region 1 with fail
  refine wp_world (fun wq => MS w p (.slice D n c) (.slice E m d) wq) HS.out ?_
  clear HS
  intro w2 ms
  have v2 := ms.box.cells.c2
  have v3 := ms.box.cells.c3
  have v5 := ms.box.cells.c5
  have v8 := ms.box.cells.c8
  have v9 := ms.box.cells.c9
  have v10 := ms.box.cells.c10
  have vf := ms.box.cells.free
  have hz1 := ms.box.lt
  go_upto_region 19 with fail
  have m1 := ms.far (ms.box.set_sx p.x)
  have m2 := m1.far (m1.box.set_sy p.y)
  have m3 : MS w q (.slice D n c) (.slice E m d) (((w2.setCell ⟨w.heap.size, 8, none⟩ (.int .i64 p.x)).setCell ⟨w.heap.size, 9, none⟩ (.int .i64 p.y)).setCell ⟨w.heap.size, 10, none⟩ (.int .i64 p.a)) := by rw [← HQ0.out]; exact m2.far (m2.box.set_sa p.a)
  clear v2 v3 v5 v8 v9 v10 vf hz1 m1 m2 ms
  generalize (((w2.setCell ⟨w.heap.size, 8, none⟩ (.int .i64 p.x)).setCell ⟨w.heap.size, 9, none⟩ (.int .i64 p.y)).setCell ⟨w.heap.size, 10, none⟩ (.int .i64 p.a)) = w3 at *
  have xg := m3.box
  have xa := m3.ans
  go_wp2_with (first
    | (with_reducible refine wpList_loadB xg (x := .tmp 2) ?_ ?_ ?_ ?_
       · with_reducible rfl
       · rfl
       · rfl)
    | (with_reducible refine wpList_storeA xa (x := .tmp 4) (y := .tmp 62) (p := q) (D := D) (E := E) (n := n) (c := c) (m := m) (d := d) ?_ ?_ ?_ ?_ ?_
       · with_reducible rfl
       · rfl
       · rfl
       · rfl))
  refine bodyPost_ret (v := gv q (.slice D n c) (.slice E m d)) (results_cell_row (P := Try.prog) Try.results29 _ _ (w.heap.size + 1) 35 _ (0, 0) _ rfl (xa.setRow q _ _) Try.underlying35 rfl box_size) rfl ?_
  exact ⟨rfl, below_setRow m3.below (Nat.le_succ _) _⟩

set_option maxHeartbeats 4000000 in
theorem esc_8 (p : Nm) (D E : Option Addr) (n c m d : Nat) (w : World) (hp : On p) :
    Calls Try.prog 29 #[gv p (.slice D n c) (.slice E m d), .int .i32 56] w (ValPost (gv (movedNm { p with a := p.sa } p.sx p.sy) (.slice D n c) (.slice E m d)) w) := by
  have HS := Lib.hid (MS.start w p (.slice D n c) (.slice E m d))
  obtain ⟨q, hq0⟩ : ∃ q : Nm, { p with a := p.sa } = q := ⟨_, rfl⟩
  have HM : Hid (∀ w, Calls Try.prog 54 #[gv q (.slice D n c) (.slice E m d), .int .i64 q.sx, .int .i64 q.sy] w (ValPost (gv (movedNm q q.sx q.sy) (.slice D n c) (.slice E m d)) w)) := fun w => by
    rw [← hq0]
    exact moved_any _ D E n c m d _ _ w hp.w0 hp.w1 hp.h0 hp.h1
  have esx : p.sx = q.sx := by rw [← hq0]
  have esy : p.sy = q.sy := by rw [← hq0]
  rw [hq0, esx, esy]
  have HQ0 := Lib.hid hq0
  clear hq0 hp esx esy
  unfold gv gcs
  go_enter Try.func29, Try.ntmps29
  go_upto_region 1 with fail
  refine wp_world (fun wq => MS w p (.slice D n c) (.slice E m d) wq) HS.out ?_
  clear HS
  intro w2 ms
  have v5 := ms.box.cells.c5
  have v10 := ms.box.cells.c10
  have vf := ms.box.cells.free
  have hz1 := ms.box.lt
  go_upto_region 14 with fail
  have m3 : MS w q (.slice D n c) (.slice E m d) (w2.setCell ⟨w.heap.size, 5, none⟩ (.int .i64 p.sa)) := by rw [← HQ0.out]; exact ms.far (ms.box.set_a p.sa)
  clear v5 v10 vf hz1 ms
  generalize (w2.setCell ⟨w.heap.size, 5, none⟩ (.int .i64 p.sa)) = w3 at *
  have xg := m3.box
  have u8 := xg.cells.c8
  have u9 := xg.cells.c9
  go_wp2_with (first
    | (with_reducible refine wpList_loadB xg (x := .tmp 2) ?_ ?_ ?_ ?_
       · with_reducible rfl
       · rfl
       · rfl)
    | (go_at_call 54
       refine (HM.out w3).mono ?_
       clear HM
       rintro e w5 ⟨rfl, b5⟩
       have a5 := m3.ans.below b5 m3.ans.lt
       generalize hz : movedNm q q.sx q.sy = z at *)
    | (with_reducible refine wpList_storeA a5 (x := .tmp 4) (y := .tmp 50) (p := z) (D := D) (E := E) (n := n) (c := c) (m := m) (d := d) ?_ ?_ ?_ ?_ ?_
       · with_reducible rfl
       · rfl
       · rfl
       · rfl))
  refine bodyPost_ret (v := gv z (.slice D n c) (.slice E m d)) (results_cell_row (P := Try.prog) Try.results29 _ _ (w.heap.size + 1) 35 _ (0, 0) _ rfl (a5.setRow z _ _) Try.underlying35 rfl box_size) rfl ?_
  exact ⟨rfl, below_setRow (m3.below.trans (b5.mono m3.below.size)) (Nat.le_succ _) _⟩
end Go.Proofs.Ytpcpmeihebgncaa
