/-
  What line and lineBack of package acts answer at the region's edges, what escaped answers for D and M there, what bounded answers, and sequenced for r. Conditions: at most a thousand rows of at most a thousand cells, at most fifty lines that went; the screen's sides lie between 1 and 1,000, the cursor is on it.
-/
import Derived.Test.YtpcpmeihebgncaaDown
import Derived.Test.YtpcpmeihebgncaaApply
namespace Go.Proofs.Ytpcpmeihebgncaa
open Go.RowKit
set_option maxRecDepth 100000

/-- The rows behind a line feed at the region's last row, and the lines that went. -/
def upG (p : Nm) (L : List (List C)) : List (List C) := upL L (fromF L.length p.top) (toF L.length p.top p.bottom) (withinF 1 (toF L.length p.top p.bottom - fromF L.length p.top)).toNat p.w
def upGB (p : Nm) (L Bk : List (List C)) : List (List C) := upBack L Bk (fromF L.length p.top) (withinF 1 (toF L.length p.top p.bottom - fromF L.length p.top)).toNat
/-- The rows behind a line back at the region's first row. -/
def downG (p : Nm) (L : List (List C)) : List (List C) := downL L (fromF L.length p.top) (toF L.length p.top p.bottom) (withinF 1 (toF L.length p.top p.bottom - fromF L.length p.top)).toNat p.w

set_option maxHeartbeats 4000000 in
theorem lineUp_any (B : Nat) (p : Nm) (g h : Nat) (L Bk : List (List C)) (w : World) (hs : OScr B w g h L Bk) (hy : p.y = p.bottom) (h0 : 1 ≤ L.length) (hn : L.length ≤ 1000) (hm : Bk.length ≤ 50) (hl : ∀ r ∈ L, r.length ≤ 1000) (hlb : ∀ r ∈ Bk, r.length ≤ 1000) :
    Calls Try.prog 50 #[ov p g h L Bk] w (LinePost B g w p (upG p L) (upGB p L Bk)) := by
  have HS := Lib.hid (MS.start w p (.slice (some ⟨g, 0, none⟩) L.length L.length) (.slice (some ⟨h, 0, none⟩) Bk.length Bk.length))
  have hB : B ≤ w.heap.size := by have := hs.rows.low; have := hs.rows.lt; omega
  have HU : Hid (∀ wx, Below w.heap.size w wx → Calls Try.prog 96 #[gv p (.slice (some ⟨g, 0, none⟩) L.length L.length) (.slice (some ⟨h, 0, none⟩) Bk.length Bk.length), .int .i64 p.top, .int .i64 p.bottom, .int .i64 1] wx (OwnPost wx p (upG p L) (upGB p L Bk))) := fun wx hb => upO_any p _ _ L.length L.length Bk.length Bk.length L Bk p.top p.bottom 1 wx ((hs.below hb (Nat.le_refl _)).weak (Nat.zero_le _)).scr h0 hn hm hl hlb
  clear hs hl hlb hn hm h0
  generalize upG p L = L2 at *
  generalize upGB p L Bk = Bk2 at *
  have HY := Lib.hid hy
  clear hy
  unfold ov gv gcs
  go_enter Try.func50, Try.ntmps50
  go_upto_region 1 with fail
  refine wp_world (fun wq => MS w p (.slice (some ⟨g, 0, none⟩) L.length L.length) (.slice (some ⟨h, 0, none⟩) Bk.length Bk.length) wq) HS.out ?_
  clear HS
  intro w2 ms
  have xg := ms.box
  have u3 := xg.cells.c3
  have u6 := xg.cells.c6
  have u7 := xg.cells.c7
  rw [HY.out] at u3
  go_wp2_with (first
    | (with_reducible refine wpList_loadB xg (x := .tmp 1) ?_ ?_ ?_ ?_
       · with_reducible rfl
       · rfl
       · rfl)
    | (go_at_call 96
       refine (HU.out w2 ms.below).mono ?_
       clear HU
       rintro e w3 ⟨g3, h3, rfl, s3, b3⟩
       have a3 := ms.ans.below b3 ms.ans.lt)
    | (with_reducible refine wpList_storeA a3 (x := .tmp 2) (y := .tmp 13) (p := p) (D := some ⟨g3, 0, none⟩) (E := some ⟨h3, 0, none⟩) (n := L2.length) (c := L2.length) (m := Bk2.length) (d := Bk2.length) ?_ ?_ ?_ ?_ ?_
       · with_reducible rfl
       · rfl
       · rfl
       · rfl))
  have hz := ms.below.size
  have hlow := s3.rows.low
  refine bodyPost_ret (v := gv p (.slice (some ⟨g3, 0, none⟩) L2.length L2.length) (.slice (some ⟨h3, 0, none⟩) Bk2.length Bk2.length)) (results_cell_row (P := Try.prog) Try.results50 _ _ (w.heap.size + 1) 35 _ (0, 0) _ rfl (a3.setRow _ _ _) Try.underlying35 rfl box_size) rfl ?_
  exact ⟨g3, h3, rfl, (s3.bput a3 _).weak (by omega), by omega, below_setRow (ms.below.trans (b3.mono ms.below.size)) (Nat.le_succ _) _⟩

set_option maxHeartbeats 4000000 in
theorem escD_any (B : Nat) (p q : Nm) (g h : Nat) (L Bk L1 Bk1 : List (List C)) (w : World) (hs : OScr B w g h L Bk) (hq : On q)
    (hT : ∀ wx, Below w.heap.size w wx → Calls Try.prog 50 #[ov p g h L Bk] wx (LinePost B g wx q L1 Bk1)) :
    Calls Try.prog 29 #[ov p g h L Bk, .int .i32 68] w (InPost B g w (movedNm q q.x q.y) L1 Bk1) := by
  have HS := Lib.hid (MS.start w p (.slice (some ⟨g, 0, none⟩) L.length L.length) (.slice (some ⟨h, 0, none⟩) Bk.length Bk.length))
  have T : Hid (∀ wx, Below w.heap.size w wx → Calls Try.prog 50 #[gv p (.slice (some ⟨g, 0, none⟩) L.length L.length) (.slice (some ⟨h, 0, none⟩) Bk.length Bk.length)] wx (LinePost B g wx q L1 Bk1)) := hT
  have hgl := hs.rows.lt
  clear hT hs
  have HM := Lib.hid (fun D E n c m d w => moved_any q D E n c m d q.x q.y w hq.w0 hq.w1 hq.h0 hq.h1)
  clear hq
  unfold ov gv gcs
  go_enter Try.func29, Try.ntmps29
  go_upto_region 1 with fail
  refine wp_world (fun wq => MS w p (.slice (some ⟨g, 0, none⟩) L.length L.length) (.slice (some ⟨h, 0, none⟩) Bk.length Bk.length) wq) HS.out ?_
  clear HS
  intro w2 ms
  have xg := ms.box
  go_upto_region 4 with (first
    | (with_reducible refine wpList_loadB xg (x := .tmp 2) ?_ ?_ ?_ ?_
       · with_reducible rfl
       · rfl
       · rfl)
    | (go_at_call 50
       refine (T.out w2 ms.below).mono ?_
       clear T
       rintro e w3 ⟨g3, h3, rfl, s3, e3, b3⟩
       have x3 := ms.box.below b3 ms.box.lt)
    | (with_reducible refine wpList_storeA x3 (x := .tmp 2) (y := .tmp 10) (p := q) (D := some ⟨g3, 0, none⟩) (E := some ⟨h3, 0, none⟩) (n := L1.length) (c := L1.length) (m := Bk1.length) (d := Bk1.length) ?_ ?_ ?_ ?_ ?_
       · with_reducible rfl
       · rfl
       · rfl
       · rfl))
  have hz := ms.below.size
  refine wp_world (fun wq => Box wq w.heap.size q (.slice (some ⟨g3, 0, none⟩) L1.length L1.length) (.slice (some ⟨h3, 0, none⟩) Bk1.length Bk1.length) ∧ Box wq (w.heap.size + 1) zeroNm nilV nilV ∧ OScr B wq g3 h3 L1 Bk1 ∧ Below w.heap.size w wq)
    ⟨x3.setRow _ _ _, (setRow_other _ _ _ _ (by omega)).trans (ms.ans.below b3 ms.ans.lt), s3.bput x3 _, below_setRow (ms.below.trans (b3.mono ms.below.size)) (Nat.le_refl _) _⟩ ?_
  clear xg x3 ms s3 b3
  rintro w4 ⟨x4, a4, s4, b4⟩
  have u2 := x4.cells.c2
  have u3 := x4.cells.c3
  go_wp2_with (first
    | (with_reducible refine wpList_loadB x4 (x := .tmp 2) ?_ ?_ ?_ ?_
       · with_reducible rfl
       · rfl
       · rfl)
    | (go_at_call 54
       refine (HM.out _ _ _ _ _ _ w4).mono ?_
       clear HM
       rintro e w5 ⟨rfl, b5⟩
       have a5 := a4.below b5 a4.lt
       generalize hz : movedNm q q.x q.y = z at *)
    | (with_reducible refine wpList_storeA a5 (x := .tmp 4) (y := .tmp 16) (p := z) (D := some ⟨g3, 0, none⟩) (E := some ⟨h3, 0, none⟩) (n := L1.length) (c := L1.length) (m := Bk1.length) (d := Bk1.length) ?_ ?_ ?_ ?_ ?_
       · with_reducible rfl
       · rfl
       · rfl
       · rfl))
  refine bodyPost_ret (v := gv z (.slice (some ⟨g3, 0, none⟩) L1.length L1.length) (.slice (some ⟨h3, 0, none⟩) Bk1.length Bk1.length)) (results_cell_row (P := Try.prog) Try.results29 _ _ (w.heap.size + 1) 35 _ (0, 0) _ rfl (a5.setRow _ _ _) Try.underlying35 rfl box_size) rfl ?_
  exact ⟨g3, h3, rfl, (s4.below b5 (Nat.le_refl _)).bput a5 _, (Chg.of (below_setRow (b4.trans (b5.mono b4.size)) (Nat.le_succ _) _) hgl)⟩
end Go.Proofs.Ytpcpmeihebgncaa
