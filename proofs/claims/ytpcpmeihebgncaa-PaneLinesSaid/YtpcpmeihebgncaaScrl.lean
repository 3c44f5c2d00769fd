/-
  What scrolledHere of package acts answers, and rewritten for L and M. Conditions: the rows have at most a thousand cells, there are at most a thousand of them, at most fifty lines that went; the screen's sides lie between 1 and 1,000.
-/
import Derived.Test.YtpcpmeihebgncaaRew2
namespace Go.Proofs.Ytpcpmeihebgncaa
open Go.RowKit
set_option maxRecDepth 100000

set_option maxHeartbeats 4000000 in
theorem here_no (p : Nm) (D E : Option Addr) (nn c m d : Nat) (n : Int) (F : Nat) (w : World) (hy : p.y < p.top ∨ p.bottom < p.y) :
    Calls Try.prog 106 #[gv p (.slice D nn c) (.slice E m d), .int .i64 n, .func (.func F) #[] #[]] w (ValPost (gv p (.slice D nn c) (.slice E m d)) w) := by
  have HS := Lib.hid (MS.start w p (.slice D nn c) (.slice E m d))
  unfold gv gcs
  go_enter Try.func106, Try.ntmps106
  go_upto_region 1 with fail
  refine wp_world (fun wq => MS w p (.slice D nn c) (.slice E m d) wq) HS.out ?_
  clear HS
  intro w2 rs
  have xg := rs.box
  have xa := rs.ans
  have u3 := xg.cells.c3
  have u6 := xg.cells.c6
  have u7 := xg.cells.c7
  obtain ⟨pw, ph, px, py, pwr, pa, pt, pb, psx, psy, psa, pn, phd⟩ := p
  dsimp only at u3 u6 u7 hy
  by_cases h1 : py < pt
  · clear hy
    go_wp2_with (first
    | (with_reducible refine wpList_loadB xg (x := .tmp 3) ?_ ?_ ?_ ?_
       · with_reducible rfl
       · rfl
       · rfl)
    | (with_reducible refine wpList_storeA xa (x := .tmp 6) (y := .tmp 20) (p := ⟨pw, ph, px, py, pwr, pa, pt, pb, psx, psy, psa, pn, phd⟩) (D := D) (E := E) (n := nn) (c := c) (m := m) (d := d) ?_ ?_ ?_ ?_ ?_
       · with_reducible rfl
       · rfl
       · rfl
       · rfl))
    refine bodyPost_ret (v := gv ⟨pw, ph, px, py, pwr, pa, pt, pb, psx, psy, psa, pn, phd⟩ (.slice D nn c) (.slice E m d)) (results_cell_row (P := Try.prog) Try.results106 _ _ (w.heap.size + 1) 35 _ (0, 0) _ rfl (xa.setRow _ _ _) Try.underlying35 rfl box_size) rfl ?_
    exact ⟨rfl, below_setRow rs.below (Nat.le_succ _) _⟩
  · have h2 : py > pb := by omega
    clear hy
    go_wp2_with (first
    | (with_reducible refine wpList_loadB xg (x := .tmp 3) ?_ ?_ ?_ ?_
       · with_reducible rfl
       · rfl
       · rfl)
    | (with_reducible refine wpList_storeA xa (x := .tmp 6) (y := .tmp 20) (p := ⟨pw, ph, px, py, pwr, pa, pt, pb, psx, psy, psa, pn, phd⟩) (D := D) (E := E) (n := nn) (c := c) (m := m) (d := d) ?_ ?_ ?_ ?_ ?_
       · with_reducible rfl
       · rfl
       · rfl
       · rfl))
    refine bodyPost_ret (v := gv ⟨pw, ph, px, py, pwr, pa, pt, pb, psx, psy, psa, pn, phd⟩ (.slice D nn c) (.slice E m d)) (results_cell_row (P := Try.prog) Try.results106 _ _ (w.heap.size + 1) 35 _ (0, 0) _ rfl (xa.setRow _ _ _) Try.underlying35 rfl box_size) rfl ?_
    exact ⟨rfl, below_setRow rs.below (Nat.le_succ _) _⟩

set_option maxHeartbeats 4000000 in
theorem here_yes (B : Nat) (p : Nm) (g h : Nat) (L Bk L2 B2 : List (List C)) (n : Int) (F : Nat) (w : World) (hs : OScr B w g h L Bk) (hp : On p) (hy1 : ¬ p.y < p.top) (hy2 : ¬ p.bottom < p.y)
    (hE : ∀ args w, (callFunc F args).run Try.prog w = .ok (.enter F args) w)
    (hT : ∀ wx, Below w.heap.size w wx → Calls Try.prog F #[ov p g h L Bk, .int .i64 p.y, .int .i64 p.bottom, .int .i64 n] wx (OwnPost wx p L2 B2)) :
    Calls Try.prog 106 #[ov p g h L Bk, .int .i64 n, .func (.func F) #[] #[]] w (InPost B g w (movedNm p 0 p.y) L2 Bk) := by
  have HS := Lib.hid (MS.start w p (.slice (some ⟨g, 0, none⟩) L.length L.length) (.slice (some ⟨h, 0, none⟩) Bk.length Bk.length))
  have T : Hid (∀ wx, Below w.heap.size w wx → Calls Try.prog F #[gv p (.slice (some ⟨g, 0, none⟩) L.length L.length) (.slice (some ⟨h, 0, none⟩) Bk.length Bk.length), .int .i64 p.y, .int .i64 p.bottom, .int .i64 n] wx (OwnPost wx p L2 B2)) := hT
  have hgl := hs.rows.lt
  have hhl := hs.back.lt
  have hB : B ≤ w.heap.size := by have := hs.rows.low; omega
  have HH := Lib.hid hs
  have HM := Lib.hid (fun D E n c m d w => moved_any p D E n c m d 0 p.y w hp.w0 hp.w1 hp.h0 hp.h1)
  clear hT hs hp
  have hy2' : ¬ p.y > p.bottom := hy2
  clear hy2
  unfold ov gv gcs
  go_enter Try.func106, Try.ntmps106
  go_upto_region 1 with fail
  refine wp_world (fun wq => MS w p (.slice (some ⟨g, 0, none⟩) L.length L.length) (.slice (some ⟨h, 0, none⟩) Bk.length Bk.length) wq) HS.out ?_
  clear HS
  intro w2 ms
  have xg := ms.box
  have u3 := xg.cells.c3
  have u6 := xg.cells.c6
  have u7 := xg.cells.c7
  go_upto_region 4 with (first
    | (with_reducible refine wpList_loadB xg (x := .tmp 3) ?_ ?_ ?_ ?_
       · with_reducible rfl
       · rfl
       · rfl)
    | (with_reducible refine (T.out w2 ms.below).mono ?_
       clear T
       rintro e w3 ⟨g3, h3, rfl, s3, b3⟩)
    | (with_reducible refine wpList_storeB (x := .tmp 7) (y := .tmp 28) (p := p) (D := some ⟨g3, 0, none⟩) (E := some ⟨h3, 0, none⟩) (n := L2.length) (c := L2.length) (m := B2.length) (d := B2.length) ?_ ?_ ?_ ?_ ?_ ?_
       · with_reducible rfl
       · rfl
       · rfl
       · rfl
       · rfl))
  have hz := ms.below.size
  have hlow := s3.rows.low
  have hz3 := b3.size
  refine wp_world (fun wq => Box wq w.heap.size p (.slice (some ⟨g, 0, none⟩) L.length L.length) (.slice (some ⟨h, 0, none⟩) Bk.length Bk.length) ∧ Box wq (w.heap.size + 1) zeroNm nilV nilV ∧ Box wq w3.heap.size p (.slice (some ⟨g3, 0, none⟩) L2.length L2.length) (.slice (some ⟨h3, 0, none⟩) B2.length B2.length) ∧ OTab w2.heap.size wq g3 L2 ∧ OTab B wq h Bk ∧ Below w.heap.size w wq)
    ⟨(ms.box.below b3 ms.box.lt).alloc _, (ms.ans.below b3 ms.ans.lt).alloc _, Box.new _ _ _ _, s3.rows.below ((Below.refl _ _).alloc (Nat.le_refl _) _) (Nat.le_refl _), (HH.out.back.below ms.below (Nat.le_refl _)).below (b3.alloc b3.size _) (Nat.le_refl _), (ms.below.trans (b3.mono ms.below.size)).alloc (by omega) _⟩ ?_
  clear xg u3 u6 u7 s3
  rintro w4 ⟨x4, a4, o4, t4, k4, b4⟩
  have v14 := x4.cells.c14
  have o14 := o4.cells.c14
  have of := o4.cells.free
  have hz4 := o4.lt
  have hms := ms.ans.lt
  go_upto_region 5 with fail
  have o5 := o4.set_back (.slice (some ⟨h, 0, none⟩) Bk.length Bk.length)
  have x5 := x4.far (q := ⟨w3.heap.size, 14, none⟩) (by exact (by omega : w.heap.size ≠ w3.heap.size)) (.slice (some ⟨h, 0, none⟩) Bk.length Bk.length)
  have a5 := a4.far (q := ⟨w3.heap.size, 14, none⟩) (by exact (by omega : w.heap.size + 1 ≠ w3.heap.size)) (.slice (some ⟨h, 0, none⟩) Bk.length Bk.length)
  have t5 := t4.box o4 (w' := w4.setCell ⟨w3.heap.size, 14, none⟩ (.slice (some ⟨h, 0, none⟩) Bk.length Bk.length)) (by simp) fun b _ hn => Below.heap_setCell w4 ⟨w3.heap.size, 14, none⟩ _ b hn
  have k5 := k4.box o4 (w' := w4.setCell ⟨w3.heap.size, 14, none⟩ (.slice (some ⟨h, 0, none⟩) Bk.length Bk.length)) (by simp) fun b _ hn => Below.heap_setCell w4 ⟨w3.heap.size, 14, none⟩ _ b hn
  have b5 := b4.setCell (p := ⟨w3.heap.size, 14, none⟩) (by exact (by omega : w.heap.size ≤ w3.heap.size)) (.slice (some ⟨h, 0, none⟩) Bk.length Bk.length)
  clear v14 o14 of x4 a4 o4 t4 k4 b4
  generalize (w4.setCell ⟨w3.heap.size, 14, none⟩ (.slice (some ⟨h, 0, none⟩) Bk.length Bk.length)) = w5 at *
  have u3 := x5.cells.c3
  go_wp2_with (first
    | (with_reducible refine wpList_loadB o5 (x := .tmp 7) ?_ ?_ ?_ ?_
       · with_reducible rfl
       · rfl
       · rfl)
    | (go_at_call 54
       refine (HM.out _ _ _ _ _ _ w5).mono ?_
       clear HM
       rintro e w6 ⟨rfl, b6⟩
       have a6 := a5.below b6 a5.lt
       generalize hz : movedNm p 0 p.y = z at *)
    | (with_reducible refine wpList_storeA a6 (x := .tmp 6) (y := .tmp 35) (p := z) (D := some ⟨g3, 0, none⟩) (E := some ⟨h, 0, none⟩) (n := L2.length) (c := L2.length) (m := Bk.length) (d := Bk.length) ?_ ?_ ?_ ?_ ?_
       · with_reducible rfl
       · rfl
       · rfl
       · rfl))
  refine bodyPost_ret (v := gv z (.slice (some ⟨g3, 0, none⟩) L2.length L2.length) (.slice (some ⟨h, 0, none⟩) Bk.length Bk.length)) (results_cell_row (P := Try.prog) Try.results106 _ _ (w.heap.size + 1) 35 _ (0, 0) _ rfl (a6.setRow _ _ _) Try.underlying35 rfl box_size) rfl ?_
  have s6 : OScr B w6 g3 h L2 Bk := ⟨(t5.below b6 (Nat.le_refl _)).weak (by omega), k5.below b6 (Nat.le_refl _), by omega⟩
  exact ⟨g3, h, rfl, s6.bput a6 _, Chg.of (below_setRow (b5.trans (b6.mono b5.size)) (Nat.le_succ _) _) hgl⟩
theorem enter72 : ∀ args w, (callFunc 96 args).run Try.prog w = .ok (.enter 96 args) w := enters Try.func96 (by kernel_rfl) rfl
theorem enter76 : ∀ args w, (callFunc 100 args).run Try.prog w = .ok (.enter 100 args) w := enters Try.func100 (by kernel_rfl) rfl

set_option maxHeartbeats 4000000 in
theorem rew_L (B : Nat) (p p2 : Nm) (g h : Nat) (L Bk L2 B2 : List (List C)) (n part : Int) (w : World) (hs : OScr B w g h L Bk)
    (hT : ∀ wx, OScr B wx g h L Bk → Below w.heap.size w wx → Calls Try.prog 106 #[ov p g h L Bk, .int .i64 n, .func (.func 100) #[] #[]] wx (InPost B g wx p2 L2 B2)) :
    Calls Try.prog 59 #[ov p g h L Bk, .int .i32 76, .int .i64 n, .int .i64 part] w (InPost B g w p2 L2 B2) := by
  have HS := Lib.hid (PS.start w 3 (.int .i64 n) p (.slice (some ⟨g, 0, none⟩) L.length L.length) (.slice (some ⟨h, 0, none⟩) Bk.length Bk.length))
  have HB := Lib.hid (start_below w (.cells (gcs p (.slice (some ⟨g, 0, none⟩) L.length L.length) (.slice (some ⟨h, 0, none⟩) Bk.length Bk.length)) 35) (.cells #[.int .i64 n] 3) (.cells (gcs zeroNm nilV nilV) 35))
  have hgl := hs.rows.lt
  have T : Hid (∀ wx, OScr B wx g h L Bk → Below w.heap.size w wx → Calls Try.prog 106 #[gv p (.slice (some ⟨g, 0, none⟩) L.length L.length) (.slice (some ⟨h, 0, none⟩) Bk.length Bk.length), .int .i64 n, .func (.func 100) #[] #[]] wx (InPost B g wx p2 L2 B2)) := hT
  have HH := Lib.hid hs
  clear hT hs
  unfold ov gv gcs
  go_enter Try.func59, Try.ntmps59
  go_upto_region 1 with fail
  refine wp_world (fun wq => PS w 3 (.int .i64 n) p (.slice (some ⟨g, 0, none⟩) L.length L.length) (.slice (some ⟨h, 0, none⟩) Bk.length Bk.length) wq ∧ Below w.heap.size w wq) ⟨HS.out, HB.out⟩ ?_
  clear HS HB
  rintro w2 ⟨ps, b2⟩
  have xg := ps.box
  have un := ps.cell.cell 0
  simp only [List.getElem?_toArray, List.getElem?_cons_zero] at un
  go_wp2_with (first
    | (with_reducible refine wpList_loadB xg (x := .tmp 4) ?_ ?_ ?_ ?_
       · with_reducible rfl
       · rfl
       · rfl)
    | (go_at_call 106
       refine (T.out w2 (HH.out.below b2 (Nat.le_refl _)) b2).mono ?_
       rintro e w3 ⟨g3, h3, rfl, s3, c3⟩
       have a3 := (ps.chg c3 (.inl hgl)).ans)
    | (with_reducible refine wpList_storeA a3 (x := .tmp 8) (y := .tmp 24) (p := p2) (D := some ⟨g3, 0, none⟩) (E := some ⟨h3, 0, none⟩) (n := L2.length) (c := L2.length) (m := B2.length) (d := B2.length) ?_ ?_ ?_ ?_ ?_
       · with_reducible rfl
       · rfl
       · rfl
       · rfl))
  refine bodyPost_ret (v := gv p2 (.slice (some ⟨g3, 0, none⟩) L2.length L2.length) (.slice (some ⟨h3, 0, none⟩) B2.length B2.length)) (results_cell_row (P := Try.prog) Try.results59 _ _ (w.heap.size + 2) 35 _ (0, 0) _ rfl (a3.setRow _ _ _) Try.underlying35 rfl box_size) rfl ?_
  exact ⟨g3, h3, rfl, s3.bput a3 _, (Chg.comp b2 (.inl rfl) hgl c3).setRow hgl (by omega) _⟩

set_option maxHeartbeats 4000000 in
theorem rew_M (B : Nat) (p p2 : Nm) (g h : Nat) (L Bk L2 B2 : List (List C)) (n part : Int) (w : World) (hs : OScr B w g h L Bk)
    (hT : ∀ wx, OScr B wx g h L Bk → Below w.heap.size w wx → Calls Try.prog 106 #[ov p g h L Bk, .int .i64 n, .func (.func 96) #[] #[]] wx (InPost B g wx p2 L2 B2)) :
    Calls Try.prog 59 #[ov p g h L Bk, .int .i32 77, .int .i64 n, .int .i64 part] w (InPost B g w p2 L2 B2) := by
  have HS := Lib.hid (PS.start w 3 (.int .i64 n) p (.slice (some ⟨g, 0, none⟩) L.length L.length) (.slice (some ⟨h, 0, none⟩) Bk.length Bk.length))
  have HB := Lib.hid (start_below w (.cells (gcs p (.slice (some ⟨g, 0, none⟩) L.length L.length) (.slice (some ⟨h, 0, none⟩) Bk.length Bk.length)) 35) (.cells #[.int .i64 n] 3) (.cells (gcs zeroNm nilV nilV) 35))
  have hgl := hs.rows.lt
  have T : Hid (∀ wx, OScr B wx g h L Bk → Below w.heap.size w wx → Calls Try.prog 106 #[gv p (.slice (some ⟨g, 0, none⟩) L.length L.length) (.slice (some ⟨h, 0, none⟩) Bk.length Bk.length), .int .i64 n, .func (.func 96) #[] #[]] wx (InPost B g wx p2 L2 B2)) := hT
  have HH := Lib.hid hs
  clear hT hs
  unfold ov gv gcs
  go_enter Try.func59, Try.ntmps59
  go_upto_region 1 with fail
  refine wp_world (fun wq => PS w 3 (.int .i64 n) p (.slice (some ⟨g, 0, none⟩) L.length L.length) (.slice (some ⟨h, 0, none⟩) Bk.length Bk.length) wq ∧ Below w.heap.size w wq) ⟨HS.out, HB.out⟩ ?_
  clear HS HB
  rintro w2 ⟨ps, b2⟩
  have xg := ps.box
  have un := ps.cell.cell 0
  simp only [List.getElem?_toArray, List.getElem?_cons_zero] at un
  go_wp2_with (first
    | (with_reducible refine wpList_loadB xg (x := .tmp 4) ?_ ?_ ?_ ?_
       · with_reducible rfl
       · rfl
       · rfl)
    | (go_at_call 106
       refine (T.out w2 (HH.out.below b2 (Nat.le_refl _)) b2).mono ?_
       rintro e w3 ⟨g3, h3, rfl, s3, c3⟩
       have a3 := (ps.chg c3 (.inl hgl)).ans)
    | (with_reducible refine wpList_storeA a3 (x := .tmp 8) (y := .tmp 29) (p := p2) (D := some ⟨g3, 0, none⟩) (E := some ⟨h3, 0, none⟩) (n := L2.length) (c := L2.length) (m := B2.length) (d := B2.length) ?_ ?_ ?_ ?_ ?_
       · with_reducible rfl
       · rfl
       · rfl
       · rfl))
  refine bodyPost_ret (v := gv p2 (.slice (some ⟨g3, 0, none⟩) L2.length L2.length) (.slice (some ⟨h3, 0, none⟩) B2.length B2.length)) (results_cell_row (P := Try.prog) Try.results59 _ _ (w.heap.size + 2) 35 _ (0, 0) _ rfl (a3.setRow _ _ _) Try.underlying35 rfl box_size) rfl ?_
  exact ⟨g3, h3, rfl, s3.bput a3 _, (Chg.comp b2 (.inl rfl) hgl c3).setRow hgl (by omega) _⟩
end Go.Proofs.Ytpcpmeihebgncaa
