/-
  What Apply of package acts answers: what the function of the action's kind answers of a screen of the call's own. Conditions: at most a thousand rows of at most a thousand cells, at most fifty lines that went.
-/
import Derived.Test.YtpcpmeihebgncaaRewr
namespace Go.Proofs.Ytpcpmeihebgncaa
open Go.RowKit
set_option maxRecDepth 100000

/-- The box that is turned, the action's box, the answer's box. -/
structure AS (w : World) (cs : Array Value) (p : Nm) (r b : Value) (wx : World) : Prop where
  box : Box wx w.heap.size p r b
  act : Held wx (w.heap.size + 1) 44 cs
  ans : Box wx (w.heap.size + 2) zeroNm nilV nilV
theorem AS.start (w : World) (cs : Array Value) (p : Nm) (r b : Value) : AS w cs p r b (((w.alloc (.cells (gcs p r b) 35)).alloc (.cells cs 44)).alloc (.cells (gcs zeroNm nilV nilV) 35)) :=
  ⟨((Box.new w p r b).alloc _).alloc _, by have := (Held.new (w.alloc (.cells (gcs p r b) 35)) 44 cs).alloc (.cells (gcs zeroNm nilV nilV) 35); simpa using this, by have := Box.new ((w.alloc (.cells (gcs p r b) 35)).alloc (.cells cs 44)) zeroNm nilV nilV; simpa using this⟩
theorem AS.below {w : World} {cs : Array Value} {p : Nm} {r b : Value} {wx wy : World} (h : AS w cs p r b wx) (hb : Below wx.heap.size wx wy) : AS w cs p r b wy := ⟨h.box.below hb h.box.lt, h.act.below hb h.act.lt, h.ans.below hb h.ans.lt⟩
theorem AS.put {w : World} {cs : Array Value} {p : Nm} {r b : Value} {wx : World} (h : AS w cs p r b wx) (p' : Nm) (r' b' : Value) : AS w cs p' r' b' (wx.setRow w.heap.size (gcs p' r' b')) :=
  ⟨h.box.setRow _ _ _, (setRow_other _ _ _ _ (by omega)).trans h.act, (setRow_other _ _ _ _ (by omega)).trans h.ans⟩

set_option maxHeartbeats 4000000 in
theorem app_print (p p2 : Nm) (D E PD : Option Addr) (n c m d pn pc : Nat) (L Bk L2 Bk2 : List (List C)) (r : Int) (w : World) (hs : Scr 0 w D E n c m d L Bk) (hn : n ≤ 1000) (hm : m ≤ 50) (hl : ∀ r ∈ L, r.length ≤ 1000) (hlb : ∀ r ∈ Bk, r.length ≤ 1000)
    (hT : ∀ (B : Nat) (wx : World) (g h : Nat), Below w.heap.size w wx → OScr B wx g h L Bk → Calls Try.prog 27 #[ov p g h L Bk, .int .i32 r] wx (InPost B g wx p2 L2 Bk2)) :
    Calls Try.prog 14 #[gv p (.slice D n c) (.slice E m d), .agg #[.int .i64 1, .int .i32 r, .slice PD pn pc]] w (GridPost w p2 L2 Bk2) := by
  have HS := Lib.hid (AS.start w #[.int .i64 1, .int .i32 r, .slice PD pn pc] p (.slice D n c) (.slice E m d))
  have HB := Lib.hid (start_below w (.cells (gcs p (.slice D n c) (.slice E m d)) 35) (.cells #[.int .i64 1, .int .i32 r, .slice PD pn pc] 44) (.cells (gcs zeroNm nilV nilV) 35))
  have HO : Hid (∀ wx, Below w.heap.size w wx → Calls Try.prog 26 #[gv p (.slice D n c) (.slice E m d)] wx (OwnPost wx p L Bk)) := fun wx hb => aownS_any p D E n c m d L Bk wx (hs.below hb (Nat.le_refl _)) hn hm hl hlb
  have T : Hid (∀ (B : Nat) (wx : World) (g h : Nat), Below w.heap.size w wx → OScr B wx g h L Bk → Calls Try.prog 27 #[gv p (.slice (some ⟨g, 0, none⟩) L.length L.length) (.slice (some ⟨h, 0, none⟩) Bk.length Bk.length), .int .i32 r] wx (InPost B g wx p2 L2 Bk2)) := hT
  clear hT hs hn hm hl hlb
  unfold gv gcs
  go_enter Try.func14, Try.ntmps14
  go_upto_region 1 with fail
  refine wp_world (fun wq => AS w #[.int .i64 1, .int .i32 r, .slice PD pn pc] p (.slice D n c) (.slice E m d) wq ∧ Below w.heap.size w wq) ⟨HS.out, HB.out⟩ ?_
  clear HS HB
  rintro w2 ⟨ps, b2⟩
  have xg := ps.box
  have hz2 := ps.ans.lt
  go_upto_region 2 with (first
    | (with_reducible refine wpList_loadB xg (x := .tmp 2) ?_ ?_ ?_ ?_
       · with_reducible rfl
       · rfl
       · rfl)
    | (go_at_call 26
       refine (HO.out w2 b2).mono ?_
       rintro e w3 ⟨g, h, rfl, s3, b3⟩
       have p3 := ps.below b3
       have x3 := p3.box)
    | (with_reducible refine wpList_storeA x3 (x := .tmp 2) (y := .tmp 6) (p := p) (D := some ⟨g, 0, none⟩) (E := some ⟨h, 0, none⟩) (n := L.length) (c := L.length) (m := Bk.length) (d := Bk.length) ?_ ?_ ?_ ?_ ?_
       · with_reducible rfl
       · rfl
       · rfl
       · rfl))
  have hgl := s3.rows.low
  refine wp_world (fun wq => AS w #[.int .i64 1, .int .i32 r, .slice PD pn pc] p (.slice (some ⟨g, 0, none⟩) L.length L.length) (.slice (some ⟨h, 0, none⟩) Bk.length Bk.length) wq ∧ OScr w2.heap.size wq g h L Bk ∧ Below w.heap.size w wq) ⟨p3.put p _ _, s3.bput x3 _, below_setRow (b2.trans (b3.mono b2.size)) (Nat.le_refl _) _⟩ ?_
  clear ps xg p3 s3 x3 b3 HO b2
  rintro w4 ⟨p4, s4, b4⟩
  have u0 := p4.act.cell 0
  have u1 := p4.act.cell 1
  have u2 := p4.act.cell 2
  have x4 := p4.box
  simp only [List.getElem?_toArray, List.getElem?_cons_zero, List.getElem?_cons_succ] at u0 u1 u2
  go_wp2_with (first
    | (with_reducible refine wpList_loadB x4 (x := .tmp 2) ?_ ?_ ?_ ?_
       · with_reducible rfl
       · rfl
       · rfl)
    | (go_at_call 27
       refine (T.out w2.heap.size w4 g h b4 s4).mono ?_
       rintro e w5 ⟨g5, h5, rfl, s5, c5⟩
       have a5 := c5.box p4.ans (by omega))
    | (with_reducible refine wpList_storeA a5 (x := .tmp 4) (y := .tmp 14) (p := p2) (D := some ⟨g5, 0, none⟩) (E := some ⟨h5, 0, none⟩) (n := L2.length) (c := L2.length) (m := Bk2.length) (d := Bk2.length) ?_ ?_ ?_ ?_ ?_
       · with_reducible rfl
       · rfl
       · rfl
       · rfl))
  refine bodyPost_ret (v := gv p2 (.slice (some ⟨g5, 0, none⟩) L2.length L2.length) (.slice (some ⟨h5, 0, none⟩) Bk2.length Bk2.length)) (results_cell_row (P := Try.prog) Try.results14 _ _ (w.heap.size + 2) 35 _ (0, 0) _ rfl (a5.setRow _ _ _) Try.underlying35 rfl box_size) rfl ?_
  exact ⟨_, _, _, _, _, _, rfl, ((s5.bput a5 _).weak (by omega)).scr, below_setRow (c5.below (by omega) b4) (by omega) _⟩

set_option maxHeartbeats 4000000 in
theorem app_ctl (p p2 : Nm) (D E PD : Option Addr) (n c m d pn pc : Nat) (L Bk L2 Bk2 : List (List C)) (r : Int) (w : World) (hs : Scr 0 w D E n c m d L Bk) (hn : n ≤ 1000) (hm : m ≤ 50) (hl : ∀ r ∈ L, r.length ≤ 1000) (hlb : ∀ r ∈ Bk, r.length ≤ 1000)
    (hT : ∀ (B : Nat) (wx : World) (g h : Nat), Below w.heap.size w wx → OScr B wx g h L Bk → Calls Try.prog 28 #[ov p g h L Bk, .int .i32 r] wx (InPost B g wx p2 L2 Bk2)) :
    Calls Try.prog 14 #[gv p (.slice D n c) (.slice E m d), .agg #[.int .i64 2, .int .i32 r, .slice PD pn pc]] w (GridPost w p2 L2 Bk2) := by
  have HS := Lib.hid (AS.start w #[.int .i64 2, .int .i32 r, .slice PD pn pc] p (.slice D n c) (.slice E m d))
  have HB := Lib.hid (start_below w (.cells (gcs p (.slice D n c) (.slice E m d)) 35) (.cells #[.int .i64 2, .int .i32 r, .slice PD pn pc] 44) (.cells (gcs zeroNm nilV nilV) 35))
  have HO : Hid (∀ wx, Below w.heap.size w wx → Calls Try.prog 26 #[gv p (.slice D n c) (.slice E m d)] wx (OwnPost wx p L Bk)) := fun wx hb => aownS_any p D E n c m d L Bk wx (hs.below hb (Nat.le_refl _)) hn hm hl hlb
  have T : Hid (∀ (B : Nat) (wx : World) (g h : Nat), Below w.heap.size w wx → OScr B wx g h L Bk → Calls Try.prog 28 #[gv p (.slice (some ⟨g, 0, none⟩) L.length L.length) (.slice (some ⟨h, 0, none⟩) Bk.length Bk.length), .int .i32 r] wx (InPost B g wx p2 L2 Bk2)) := hT
  clear hT hs hn hm hl hlb
  unfold gv gcs
  go_enter Try.func14, Try.ntmps14
  go_upto_region 1 with fail
  refine wp_world (fun wq => AS w #[.int .i64 2, .int .i32 r, .slice PD pn pc] p (.slice D n c) (.slice E m d) wq ∧ Below w.heap.size w wq) ⟨HS.out, HB.out⟩ ?_
  clear HS HB
  rintro w2 ⟨ps, b2⟩
  have xg := ps.box
  have hz2 := ps.ans.lt
  go_upto_region 2 with (first
    | (with_reducible refine wpList_loadB xg (x := .tmp 2) ?_ ?_ ?_ ?_
       · with_reducible rfl
       · rfl
       · rfl)
    | (go_at_call 26
       refine (HO.out w2 b2).mono ?_
       rintro e w3 ⟨g, h, rfl, s3, b3⟩
       have p3 := ps.below b3
       have x3 := p3.box)
    | (with_reducible refine wpList_storeA x3 (x := .tmp 2) (y := .tmp 6) (p := p) (D := some ⟨g, 0, none⟩) (E := some ⟨h, 0, none⟩) (n := L.length) (c := L.length) (m := Bk.length) (d := Bk.length) ?_ ?_ ?_ ?_ ?_
       · with_reducible rfl
       · rfl
       · rfl
       · rfl))
  have hgl := s3.rows.low
  refine wp_world (fun wq => AS w #[.int .i64 2, .int .i32 r, .slice PD pn pc] p (.slice (some ⟨g, 0, none⟩) L.length L.length) (.slice (some ⟨h, 0, none⟩) Bk.length Bk.length) wq ∧ OScr w2.heap.size wq g h L Bk ∧ Below w.heap.size w wq) ⟨p3.put p _ _, s3.bput x3 _, below_setRow (b2.trans (b3.mono b2.size)) (Nat.le_refl _) _⟩ ?_
  clear ps xg p3 s3 x3 b3 HO b2
  rintro w4 ⟨p4, s4, b4⟩
  have u0 := p4.act.cell 0
  have u1 := p4.act.cell 1
  have u2 := p4.act.cell 2
  have x4 := p4.box
  simp only [List.getElem?_toArray, List.getElem?_cons_zero, List.getElem?_cons_succ] at u0 u1 u2
  go_wp2_with (first
    | (with_reducible refine wpList_loadB x4 (x := .tmp 2) ?_ ?_ ?_ ?_
       · with_reducible rfl
       · rfl
       · rfl)
    | (go_at_call 28
       refine (T.out w2.heap.size w4 g h b4 s4).mono ?_
       rintro e w5 ⟨g5, h5, rfl, s5, c5⟩
       have a5 := c5.box p4.ans (by omega))
    | (with_reducible refine wpList_storeA a5 (x := .tmp 4) (y := .tmp 20) (p := p2) (D := some ⟨g5, 0, none⟩) (E := some ⟨h5, 0, none⟩) (n := L2.length) (c := L2.length) (m := Bk2.length) (d := Bk2.length) ?_ ?_ ?_ ?_ ?_
       · with_reducible rfl
       · rfl
       · rfl
       · rfl))
  refine bodyPost_ret (v := gv p2 (.slice (some ⟨g5, 0, none⟩) L2.length L2.length) (.slice (some ⟨h5, 0, none⟩) Bk2.length Bk2.length)) (results_cell_row (P := Try.prog) Try.results14 _ _ (w.heap.size + 2) 35 _ (0, 0) _ rfl (a5.setRow _ _ _) Try.underlying35 rfl box_size) rfl ?_
  exact ⟨_, _, _, _, _, _, rfl, ((s5.bput a5 _).weak (by omega)).scr, below_setRow (c5.below (by omega) b4) (by omega) _⟩

set_option maxHeartbeats 4000000 in
theorem app_esc (p p2 : Nm) (D E PD : Option Addr) (n c m d pn pc : Nat) (L Bk L2 Bk2 : List (List C)) (r : Int) (w : World) (hs : Scr 0 w D E n c m d L Bk) (hn : n ≤ 1000) (hm : m ≤ 50) (hl : ∀ r ∈ L, r.length ≤ 1000) (hlb : ∀ r ∈ Bk, r.length ≤ 1000)
    (hT : ∀ (B : Nat) (wx : World) (g h : Nat), Below w.heap.size w wx → OScr B wx g h L Bk → Calls Try.prog 29 #[ov p g h L Bk, .int .i32 r] wx (InPost B g wx p2 L2 Bk2)) :
    Calls Try.prog 14 #[gv p (.slice D n c) (.slice E m d), .agg #[.int .i64 3, .int .i32 r, .slice PD pn pc]] w (GridPost w p2 L2 Bk2) := by
  have HS := Lib.hid (AS.start w #[.int .i64 3, .int .i32 r, .slice PD pn pc] p (.slice D n c) (.slice E m d))
  have HB := Lib.hid (start_below w (.cells (gcs p (.slice D n c) (.slice E m d)) 35) (.cells #[.int .i64 3, .int .i32 r, .slice PD pn pc] 44) (.cells (gcs zeroNm nilV nilV) 35))
  have HO : Hid (∀ wx, Below w.heap.size w wx → Calls Try.prog 26 #[gv p (.slice D n c) (.slice E m d)] wx (OwnPost wx p L Bk)) := fun wx hb => aownS_any p D E n c m d L Bk wx (hs.below hb (Nat.le_refl _)) hn hm hl hlb
  have T : Hid (∀ (B : Nat) (wx : World) (g h : Nat), Below w.heap.size w wx → OScr B wx g h L Bk → Calls Try.prog 29 #[gv p (.slice (some ⟨g, 0, none⟩) L.length L.length) (.slice (some ⟨h, 0, none⟩) Bk.length Bk.length), .int .i32 r] wx (InPost B g wx p2 L2 Bk2)) := hT
  clear hT hs hn hm hl hlb
  unfold gv gcs
  go_enter Try.func14, Try.ntmps14
  go_upto_region 1 with fail
  refine wp_world (fun wq => AS w #[.int .i64 3, .int .i32 r, .slice PD pn pc] p (.slice D n c) (.slice E m d) wq ∧ Below w.heap.size w wq) ⟨HS.out, HB.out⟩ ?_
  clear HS HB
  rintro w2 ⟨ps, b2⟩
  have xg := ps.box
  have hz2 := ps.ans.lt
  go_upto_region 2 with (first
    | (with_reducible refine wpList_loadB xg (x := .tmp 2) ?_ ?_ ?_ ?_
       · with_reducible rfl
       · rfl
       · rfl)
    | (go_at_call 26
       refine (HO.out w2 b2).mono ?_
       rintro e w3 ⟨g, h, rfl, s3, b3⟩
       have p3 := ps.below b3
       have x3 := p3.box)
    | (with_reducible refine wpList_storeA x3 (x := .tmp 2) (y := .tmp 6) (p := p) (D := some ⟨g, 0, none⟩) (E := some ⟨h, 0, none⟩) (n := L.length) (c := L.length) (m := Bk.length) (d := Bk.length) ?_ ?_ ?_ ?_ ?_
       · with_reducible rfl
       · rfl
       · rfl
       · rfl))
  have hgl := s3.rows.low
  refine wp_world (fun wq => AS w #[.int .i64 3, .int .i32 r, .slice PD pn pc] p (.slice (some ⟨g, 0, none⟩) L.length L.length) (.slice (some ⟨h, 0, none⟩) Bk.length Bk.length) wq ∧ OScr w2.heap.size wq g h L Bk ∧ Below w.heap.size w wq) ⟨p3.put p _ _, s3.bput x3 _, below_setRow (b2.trans (b3.mono b2.size)) (Nat.le_refl _) _⟩ ?_
  clear ps xg p3 s3 x3 b3 HO b2
  rintro w4 ⟨p4, s4, b4⟩
  have u0 := p4.act.cell 0
  have u1 := p4.act.cell 1
  have u2 := p4.act.cell 2
  have x4 := p4.box
  simp only [List.getElem?_toArray, List.getElem?_cons_zero, List.getElem?_cons_succ] at u0 u1 u2
  go_wp2_with (first
    | (with_reducible refine wpList_loadB x4 (x := .tmp 2) ?_ ?_ ?_ ?_
       · with_reducible rfl
       · rfl
       · rfl)
    | (go_at_call 29
       refine (T.out w2.heap.size w4 g h b4 s4).mono ?_
       rintro e w5 ⟨g5, h5, rfl, s5, c5⟩
       have a5 := c5.box p4.ans (by omega))
    | (with_reducible refine wpList_storeA a5 (x := .tmp 4) (y := .tmp 26) (p := p2) (D := some ⟨g5, 0, none⟩) (E := some ⟨h5, 0, none⟩) (n := L2.length) (c := L2.length) (m := Bk2.length) (d := Bk2.length) ?_ ?_ ?_ ?_ ?_
       · with_reducible rfl
       · rfl
       · rfl
       · rfl))
  refine bodyPost_ret (v := gv p2 (.slice (some ⟨g5, 0, none⟩) L2.length L2.length) (.slice (some ⟨h5, 0, none⟩) Bk2.length Bk2.length)) (results_cell_row (P := Try.prog) Try.results14 _ _ (w.heap.size + 2) 35 _ (0, 0) _ rfl (a5.setRow _ _ _) Try.underlying35 rfl box_size) rfl ?_
  exact ⟨_, _, _, _, _, _, rfl, ((s5.bput a5 _).weak (by omega)).scr, below_setRow (c5.below (by omega) b4) (by omega) _⟩

set_option maxHeartbeats 4000000 in
theorem app_csi (p p2 : Nm) (D E PD : Option Addr) (n c m d pn pc : Nat) (L Bk L2 Bk2 : List (List C)) (r : Int) (w : World) (hs : Scr 0 w D E n c m d L Bk) (hn : n ≤ 1000) (hm : m ≤ 50) (hl : ∀ r ∈ L, r.length ≤ 1000) (hlb : ∀ r ∈ Bk, r.length ≤ 1000)
    (hT : ∀ (B : Nat) (wx : World) (g h : Nat), Below w.heap.size w wx → OScr B wx g h L Bk → Calls Try.prog 30 #[ov p g h L Bk, .int .i32 r, .slice PD pn pc] wx (InPost B g wx p2 L2 Bk2)) :
    Calls Try.prog 14 #[gv p (.slice D n c) (.slice E m d), .agg #[.int .i64 4, .int .i32 r, .slice PD pn pc]] w (GridPost w p2 L2 Bk2) := by
  have HS := Lib.hid (AS.start w #[.int .i64 4, .int .i32 r, .slice PD pn pc] p (.slice D n c) (.slice E m d))
  have HB := Lib.hid (start_below w (.cells (gcs p (.slice D n c) (.slice E m d)) 35) (.cells #[.int .i64 4, .int .i32 r, .slice PD pn pc] 44) (.cells (gcs zeroNm nilV nilV) 35))
  have HO : Hid (∀ wx, Below w.heap.size w wx → Calls Try.prog 26 #[gv p (.slice D n c) (.slice E m d)] wx (OwnPost wx p L Bk)) := fun wx hb => aownS_any p D E n c m d L Bk wx (hs.below hb (Nat.le_refl _)) hn hm hl hlb
  have T : Hid (∀ (B : Nat) (wx : World) (g h : Nat), Below w.heap.size w wx → OScr B wx g h L Bk → Calls Try.prog 30 #[gv p (.slice (some ⟨g, 0, none⟩) L.length L.length) (.slice (some ⟨h, 0, none⟩) Bk.length Bk.length), .int .i32 r, .slice PD pn pc] wx (InPost B g wx p2 L2 Bk2)) := hT
  clear hT hs hn hm hl hlb
  unfold gv gcs
  go_enter Try.func14, Try.ntmps14
  go_upto_region 1 with fail
  refine wp_world (fun wq => AS w #[.int .i64 4, .int .i32 r, .slice PD pn pc] p (.slice D n c) (.slice E m d) wq ∧ Below w.heap.size w wq) ⟨HS.out, HB.out⟩ ?_
  clear HS HB
  rintro w2 ⟨ps, b2⟩
  have xg := ps.box
  have hz2 := ps.ans.lt
  go_upto_region 2 with (first
    | (with_reducible refine wpList_loadB xg (x := .tmp 2) ?_ ?_ ?_ ?_
       · with_reducible rfl
       · rfl
       · rfl)
    | (go_at_call 26
       refine (HO.out w2 b2).mono ?_
       rintro e w3 ⟨g, h, rfl, s3, b3⟩
       have p3 := ps.below b3
       have x3 := p3.box)
    | (with_reducible refine wpList_storeA x3 (x := .tmp 2) (y := .tmp 6) (p := p) (D := some ⟨g, 0, none⟩) (E := some ⟨h, 0, none⟩) (n := L.length) (c := L.length) (m := Bk.length) (d := Bk.length) ?_ ?_ ?_ ?_ ?_
       · with_reducible rfl
       · rfl
       · rfl
       · rfl))
  have hgl := s3.rows.low
  refine wp_world (fun wq => AS w #[.int .i64 4, .int .i32 r, .slice PD pn pc] p (.slice (some ⟨g, 0, none⟩) L.length L.length) (.slice (some ⟨h, 0, none⟩) Bk.length Bk.length) wq ∧ OScr w2.heap.size wq g h L Bk ∧ Below w.heap.size w wq) ⟨p3.put p _ _, s3.bput x3 _, below_setRow (b2.trans (b3.mono b2.size)) (Nat.le_refl _) _⟩ ?_
  clear ps xg p3 s3 x3 b3 HO b2
  rintro w4 ⟨p4, s4, b4⟩
  have u0 := p4.act.cell 0
  have u1 := p4.act.cell 1
  have u2 := p4.act.cell 2
  have x4 := p4.box
  simp only [List.getElem?_toArray, List.getElem?_cons_zero, List.getElem?_cons_succ] at u0 u1 u2
  go_wp2_with (first
    | (with_reducible refine wpList_loadB x4 (x := .tmp 2) ?_ ?_ ?_ ?_
       · with_reducible rfl
       · rfl
       · rfl)
    | (go_at_call 30
       refine (T.out w2.heap.size w4 g h b4 s4).mono ?_
       rintro e w5 ⟨g5, h5, rfl, s5, c5⟩
       have a5 := c5.box p4.ans (by omega))
    | (with_reducible refine wpList_storeA a5 (x := .tmp 4) (y := .tmp 34) (p := p2) (D := some ⟨g5, 0, none⟩) (E := some ⟨h5, 0, none⟩) (n := L2.length) (c := L2.length) (m := Bk2.length) (d := Bk2.length) ?_ ?_ ?_ ?_ ?_
       · with_reducible rfl
       · rfl
       · rfl
       · rfl))
  refine bodyPost_ret (v := gv p2 (.slice (some ⟨g5, 0, none⟩) L2.length L2.length) (.slice (some ⟨h5, 0, none⟩) Bk2.length Bk2.length)) (results_cell_row (P := Try.prog) Try.results14 _ _ (w.heap.size + 2) 35 _ (0, 0) _ rfl (a5.setRow _ _ _) Try.underlying35 rfl box_size) rfl ?_
  exact ⟨_, _, _, _, _, _, rfl, ((s5.bput a5 _).weak (by omega)).scr, below_setRow (c5.below (by omega) b4) (by omega) _⟩

set_option maxHeartbeats 4000000 in
theorem app_priv (p p2 : Nm) (D E PD : Option Addr) (n c m d pn pc : Nat) (L Bk L2 Bk2 : List (List C)) (r : Int) (w : World) (hs : Scr 0 w D E n c m d L Bk) (hn : n ≤ 1000) (hm : m ≤ 50) (hl : ∀ r ∈ L, r.length ≤ 1000) (hlb : ∀ r ∈ Bk, r.length ≤ 1000)
    (hT : ∀ (B : Nat) (wx : World) (g h : Nat), Below w.heap.size w wx → OScr B wx g h L Bk → Calls Try.prog 31 #[ov p g h L Bk, .int .i32 r, .slice PD pn pc] wx (InPost B g wx p2 L2 Bk2)) :
    Calls Try.prog 14 #[gv p (.slice D n c) (.slice E m d), .agg #[.int .i64 5, .int .i32 r, .slice PD pn pc]] w (GridPost w p2 L2 Bk2) := by
  have HS := Lib.hid (AS.start w #[.int .i64 5, .int .i32 r, .slice PD pn pc] p (.slice D n c) (.slice E m d))
  have HB := Lib.hid (start_below w (.cells (gcs p (.slice D n c) (.slice E m d)) 35) (.cells #[.int .i64 5, .int .i32 r, .slice PD pn pc] 44) (.cells (gcs zeroNm nilV nilV) 35))
  have HO : Hid (∀ wx, Below w.heap.size w wx → Calls Try.prog 26 #[gv p (.slice D n c) (.slice E m d)] wx (OwnPost wx p L Bk)) := fun wx hb => aownS_any p D E n c m d L Bk wx (hs.below hb (Nat.le_refl _)) hn hm hl hlb
  have T : Hid (∀ (B : Nat) (wx : World) (g h : Nat), Below w.heap.size w wx → OScr B wx g h L Bk → Calls Try.prog 31 #[gv p (.slice (some ⟨g, 0, none⟩) L.length L.length) (.slice (some ⟨h, 0, none⟩) Bk.length Bk.length), .int .i32 r, .slice PD pn pc] wx (InPost B g wx p2 L2 Bk2)) := hT
  clear hT hs hn hm hl hlb
  unfold gv gcs
  go_enter Try.func14, Try.ntmps14
  go_upto_region 1 with fail
  refine wp_world (fun wq => AS w #[.int .i64 5, .int .i32 r, .slice PD pn pc] p (.slice D n c) (.slice E m d) wq ∧ Below w.heap.size w wq) ⟨HS.out, HB.out⟩ ?_
  clear HS HB
  rintro w2 ⟨ps, b2⟩
  have xg := ps.box
  have hz2 := ps.ans.lt
  go_upto_region 2 with (first
    | (with_reducible refine wpList_loadB xg (x := .tmp 2) ?_ ?_ ?_ ?_
       · with_reducible rfl
       · rfl
       · rfl)
    | (go_at_call 26
       refine (HO.out w2 b2).mono ?_
       rintro e w3 ⟨g, h, rfl, s3, b3⟩
       have p3 := ps.below b3
       have x3 := p3.box)
    | (with_reducible refine wpList_storeA x3 (x := .tmp 2) (y := .tmp 6) (p := p) (D := some ⟨g, 0, none⟩) (E := some ⟨h, 0, none⟩) (n := L.length) (c := L.length) (m := Bk.length) (d := Bk.length) ?_ ?_ ?_ ?_ ?_
       · with_reducible rfl
       · rfl
       · rfl
       · rfl))
  have hgl := s3.rows.low
  refine wp_world (fun wq => AS w #[.int .i64 5, .int .i32 r, .slice PD pn pc] p (.slice (some ⟨g, 0, none⟩) L.length L.length) (.slice (some ⟨h, 0, none⟩) Bk.length Bk.length) wq ∧ OScr w2.heap.size wq g h L Bk ∧ Below w.heap.size w wq) ⟨p3.put p _ _, s3.bput x3 _, below_setRow (b2.trans (b3.mono b2.size)) (Nat.le_refl _) _⟩ ?_
  clear ps xg p3 s3 x3 b3 HO b2
  rintro w4 ⟨p4, s4, b4⟩
  have u0 := p4.act.cell 0
  have u1 := p4.act.cell 1
  have u2 := p4.act.cell 2
  have x4 := p4.box
  simp only [List.getElem?_toArray, List.getElem?_cons_zero, List.getElem?_cons_succ] at u0 u1 u2
  go_wp2_with (first
    | (with_reducible refine wpList_loadB x4 (x := .tmp 2) ?_ ?_ ?_ ?_
       · with_reducible rfl
       · rfl
       · rfl)
    | (go_at_call 31
       refine (T.out w2.heap.size w4 g h b4 s4).mono ?_
       rintro e w5 ⟨g5, h5, rfl, s5, c5⟩
       have a5 := c5.box p4.ans (by omega))
    | (with_reducible refine wpList_storeA a5 (x := .tmp 4) (y := .tmp 42) (p := p2) (D := some ⟨g5, 0, none⟩) (E := some ⟨h5, 0, none⟩) (n := L2.length) (c := L2.length) (m := Bk2.length) (d := Bk2.length) ?_ ?_ ?_ ?_ ?_
       · with_reducible rfl
       · rfl
       · rfl
       · rfl))
  refine bodyPost_ret (v := gv p2 (.slice (some ⟨g5, 0, none⟩) L2.length L2.length) (.slice (some ⟨h5, 0, none⟩) Bk2.length Bk2.length)) (results_cell_row (P := Try.prog) Try.results14 _ _ (w.heap.size + 2) 35 _ (0, 0) _ rfl (a5.setRow _ _ _) Try.underlying35 rfl box_size) rfl ?_
  exact ⟨_, _, _, _, _, _, rfl, ((s5.bput a5 _).weak (by omega)).scr, below_setRow (c5.below (by omega) b4) (by omega) _⟩
end Go.Proofs.Ytpcpmeihebgncaa
