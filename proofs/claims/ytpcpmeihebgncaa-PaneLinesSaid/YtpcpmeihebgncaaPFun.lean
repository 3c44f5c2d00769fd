/-
  What own, ownEsc, ownGrid, ownLines and New of package pane answer. Conditions: at most a thousand rows of at most a thousand cells, at most fifty lines that went, at most a thousand parameters.
-/
import Derived.Test.YtpcpmeihebgncaaPane
import Derived.Test.YtpcpmeihebgncaaRest
import Derived.Deep.RegionHeld3
import Derived.Deep.Cut
import Derived.Deep.DeepCutAuto
namespace Go.Proofs.Ytpcpmeihebgncaa.Esca
open Go.RowKit
set_option maxRecDepth 100000
set_option maxHeartbeats 1000000 in
theorem pownE_any (e : E) (p : Value) (B : Nat) (w : World) (hp : Ints w B p e.par) (hl : e.par.length ≤ 1000) : Calls Try.prog 43 #[escV e p] w (EscPost w.heap.size w e) := by
  obtain ⟨mo, ⟨n, m, g⟩, par, num, pr, sk⟩ := e
  unfold escV
  dsimp only at *
  obtain ⟨D, c, rfl⟩ := ints_form hp
  go_enter Try.func43, Try.ntmps43
  go_wp2_with (
    go_at_call 89
    refine (clone_any _ par B _ (Ints.alloc (Ints.alloc hp _) _) hl).mono ?_
    rintro e w2 ⟨v, rfl, hr, hb2⟩
    obtain ⟨D2, c2, rfl⟩ := ints_form hr
    obtain ⟨H1, H2⟩ := two_new hb2
    obtain ⟨x0, x1, x2, x3, x4, x5, x6, x7, xf⟩ := esc_cells H1
    obtain ⟨y0, y1, y2, y3, y4, y5, y6, y7, yf⟩ := esc_cells H2)
  refine bodyPost_ret (v := escV ⟨mo, ⟨n, m, g⟩, par, num, pr, sk⟩ (.slice D2 par.length c2)) (by simp [results, Try.results43, go_sem, escV, y0, y1, y2, y3, y4, y5, y6, y7]) rfl ⟨_, rfl, ?_, ?_⟩
  · have hr' : Ints w2 (w.heap.size + 2) (.slice D2 par.length c2) par := hr.base (by simp)
    refine Ints.base (B := w.heap.size + 2) ?_ (by omega)
    repeat (first | with_reducible exact hr' | with_reducible refine Ints.setlo ?_ (by omega) _)
  · repeat (with_reducible refine below_set ?_ (by omega) _)
    exact (below_alloc2 _ _ _).trans (hb2.mono (by simp; omega))
end Go.Proofs.Ytpcpmeihebgncaa.Esca
namespace Go.Proofs.Ytpcpmeihebgncaa
open Go.RowKit
set_option maxRecDepth 100000

set_option maxHeartbeats 400000 in
theorem pownO_any (D : Option Addr) (c : Nat) (M : List (List C)) (w : World) (hr : Lines 0 w D M) (hn : M.length ≤ 1050) (hl : ∀ r ∈ M, r.length ≤ 1000) : Calls Try.prog 118 #[.slice D M.length c] w (OLPost w M) := by
  have hm := run_makeL w M.length (by omega)
  have HS := Lib.hid (FillSt.start w M)
  have HR := Lib.hid hr
  clear hr
  go_enter Try.func118, Try.ntmps118
  go_wp2_with fail
  go_loopw [11] (FillRel w w.heap.size M) (fun i _ => M.length - (intOf i).toNat)
  case atStart => exact ⟨[], rfl, HS.out⟩
  case round =>
    obtain ⟨vs, rfl, hst⟩ := hrel
    by_cases hlt : vs.length < M.length
    · have hki : (vs.length : Int) < (M.length : Int) := by omega
      obtain ⟨b, off, E, ce, rfl, _, hbl, _, hcell, hce, hrow⟩ := (HR.out.below hst.below (Nat.le_refl _)).at vs.length hlt
      have hrn : M[vs.length].length ≤ 1000 := hl _ (List.getElem_mem _)
      have HROW := Lib.hid hrow
      clear hrow
      have HCL := Lib.hid (clone_any E ce M[vs.length] wr HROW.out hrn)
      have HST := Lib.hid hst
      have hfl := fillV_cell hst.table hlt
      have hgl := hst.table.lt
      have hfz := hst.table.frozen
      clear hst hrn
      generalize hq : M[vs.length] = q at *
      have HQ := Lib.hid hq
      clear hq
      go_wp2_with (
        go_at_call 95
        refine HCL.out.mono ?_
        rintro e w1 ⟨D1, c1, rfl, hc1, hr1, hb1⟩
        have hfl1 := (fillV_cell (HST.out.table.below hb1 hgl) hlt)
        have hfz1 := (HST.out.table.below hb1 hgl).frozen)
      go_roundw
      case rel =>
        refine ⟨vs ++ [.slice D1 q.length c1], by simp, HST.out.next (Nat.le_refl _) hb1 hlt ⟨D1, c1, ?_, ?_, ?_⟩⟩
        · rw [HQ.out]
        · rw [HQ.out]; exact hc1
        · rw [HQ.out]; exact hr1
      case measure => simp [intOf]; omega
    · have ek : vs.length = M.length := by have := hst.le; omega
      have hki : ¬ (vs.length : Int) < (M.length : Int) := by omega
      have HP := Lib.hid (hst.opost (Nat.le_refl _) ek)
      clear hst ek
      go_wp2_with fail
      go_ret
      exact HP.out


set_option maxHeartbeats 4000000 in
theorem pownS_any (p : Nm) (D E : Option Addr) (n c m d : Nat) (L Bk : List (List C)) (w : World) (hs : Scr 0 w D E n c m d L Bk) (hn : n ≤ 1000) (hm : m ≤ 50) (hl : ∀ r ∈ L, r.length ≤ 1000) (hlb : ∀ r ∈ Bk, r.length ≤ 1000) :
    Calls Try.prog 79 #[gv p (.slice D n c) (.slice E m d)] w (OwnPost w p L Bk) := by
  have rs := MS.start w p (.slice D n c) (.slice E m d)
  have HS := Lib.hid rs
  have HH := Lib.hid hs
  clear rs hs
  unfold gv gcs
  go_enter Try.func79, Try.ntmps79
  go_upto_region 1 with fail
  refine wp_world (fun wq => MS w p (.slice D n c) (.slice E m d) wq) HS.out ?_
  clear HS
  intro w2 rs
  have HR : Hid (∀ wx, Below w.heap.size w wx → Calls Try.prog 118 #[.slice D n c] wx (OLPost wx L)) := fun wx hb => by
    have := pownO_any D c L wx (HH.out.rows.below hb (Nat.le_refl _)) (by rw [HH.out.nr]; omega) hl
    rwa [HH.out.nr] at this
  have HB : Hid (∀ wx, Below w.heap.size w wx → Calls Try.prog 118 #[.slice E m d] wx (OLPost wx Bk)) := fun wx hb => by
    have := pownO_any E d Bk wx (HH.out.back.below hb (Nat.le_refl _)) (by rw [HH.out.nb]; omega) hlb
    rwa [HH.out.nb] at this
  have rsd := rs.drew
  have b0 := rsd.below
  have u13 := rsd.box.cells.c13
  have u14 := rsd.box.cells.c14
  have uf := rsd.box.cells.free
  have hz0 : w.heap.size < w2.heap.size := rs.box.lt
  clear hl hlb hn hm
  have a0 := rsd.ans
  have hz1 : w.heap.size + 1 < w2.heap.size := rs.ans.lt
  go_cut [] (OwnRel2 w p L Bk)
  case first =>
    go_region_with (first
      | (go_at_call 118
         with_reducible refine (HR.out _ b0).mono ?_
         rintro e w3 ⟨g3, rfl, l3, b3⟩
         have r3 := rsd.box.below b3 rsd.box.lt
         have y13 := r3.cells.c13
         have y14 := r3.cells.c14
         have yf := r3.cells.free)
      | (go_at_call 118
         with_reducible refine (HB.out _ (b0.trans (b3.mono b0.size))).mono ?_
         rintro e w5 ⟨g5, rfl, l5, b5⟩
         have r5 := r3.below b5 r3.lt
         have z13 := r5.cells.c13
         have z14 := r5.cells.c14
         have zf := r5.cells.free)
      | (go_at_call 118
         with_reducible refine (HB.out _ ((b0.trans (b3.mono b0.size)).setCell (p := ⟨w.heap.size, 13, none⟩) (Nat.le_refl _) _)).mono ?_
         rintro e w5 ⟨g5, rfl, l5, b5⟩
         have r5 := (r3.set_rows (.slice (some ⟨g3, 0, none⟩) L.length L.length)).below b5 (by simpa using r3.lt)
         have z13 := r5.cells.c13
         have z14 := r5.cells.c14
         have zf := r5.cells.free))
    all_goals clear u13 u14 uf y13 y14 yf z13 z14 zf
    all_goals go_wp2_with fail
    all_goals go_meet
    all_goals
      have b35 : Below w2.drew.heap.size w2.drew w5 := b3.trans (b5.mono b3.size)
      have hz2 : w.heap.size + 2 ≤ w2.drew.heap.size := hz1
      have hz3 := b3.size
      refine ⟨g3, g5, (r5.set_rows _).set_back _, ?_, ⟨?_, ?_, ?_⟩, ?_⟩
      · exact ((a0.below b35 (by exact hz1)).far (q := ⟨w.heap.size, 13, none⟩) (by exact (by omega : w.heap.size + 1 ≠ w.heap.size)) _).far (q := ⟨w.heap.size, 14, none⟩) (by exact (by omega : w.heap.size + 1 ≠ w.heap.size)) _
      · exact (((l3.below b5 (Nat.le_refl _)).weak hz2).far (p := ⟨w.heap.size, 13, none⟩) (by exact (by omega : w.heap.size < w.heap.size + 2)) _).far (p := ⟨w.heap.size, 14, none⟩) (by exact (by omega : w.heap.size < w.heap.size + 2)) _
      · exact ((l5.weak (by omega)).far (p := ⟨w.heap.size, 13, none⟩) (by exact (by omega : w.heap.size < w.heap.size + 2)) _).far (p := ⟨w.heap.size, 14, none⟩) (by exact (by omega : w.heap.size < w.heap.size + 2)) _
      · have := l3.lt
        have := l5.low
        omega
      · exact ((b0.trans (b35.mono b0.size)).setCell (p := ⟨w.heap.size, 13, none⟩) (Nat.le_refl _) _).setCell (p := ⟨w.heap.size, 14, none⟩) (Nat.le_refl _) _
  case rest =>
    clear u13 u14 uf HR HB HH rs rsd b0 a0 hz0 hz1
    obtain ⟨g3, g5, xg, xa, l3, bz⟩ := hcut
    go_wp2_with (first
      | (with_reducible refine wpList_loadB xg (x := .tmp 1) ?_ ?_ ?_ ?_
         · with_reducible rfl
         · rfl
         · rfl)
      | (with_reducible refine wpList_storeA xa (x := .tmp 2) (y := .tmp 11) (p := p) (D := some ⟨g3, 0, none⟩) (E := some ⟨g5, 0, none⟩) (n := L.length) (c := L.length) (m := Bk.length) (d := Bk.length) ?_ ?_ ?_ ?_ ?_
         · with_reducible rfl
         · rfl
         · rfl
         · rfl))
    refine bodyPost_ret (v := gv p (.slice (some ⟨g3, 0, none⟩) L.length L.length) (.slice (some ⟨g5, 0, none⟩) Bk.length Bk.length)) (results_cell_row (P := Try.prog) Try.results79 _ _ (w.heap.size + 1) 35 _ (0, 0) _ rfl (xa.setRow p _ _) Try.underlying35 rfl box_size) rfl ?_
    have e : ∀ b, w.heap.size + 2 ≤ b → b < wc.heap.size → (wc.setRow (w.heap.size + 1) (gcs p (.slice (some ⟨g3, 0, none⟩) L.length L.length) (.slice (some ⟨g5, 0, none⟩) Bk.length Bk.length))).heap[b]? = wc.heap[b]? := fun b hb _ => setRow_other _ _ _ _ (by omega)
    exact ⟨_, _, rfl, (l3.eq (by simp) e).weak (by omega), below_setRow bz (Nat.le_succ _) _⟩

/-- The box that is read, the answer's box. -/
structure QS (w : World) (e : Esca.E) (P : Value) (p : Nm) (r b : Value) (wx : World) : Prop where
  box : PBox wx w.heap.size e P p r b
  ans : PBox wx (w.heap.size + 1) Esca.E.zero nilV zeroNm nilV nilV
  below : Below w.heap.size w wx
theorem QS.start (w : World) (e : Esca.E) (P : Value) (p : Nm) (r b : Value) : QS w e P p r b ((w.alloc (.cells (pcs e P p r b) 37)).alloc (.cells (pcs Esca.E.zero nilV zeroNm nilV nilV) 37)) :=
  ⟨(PBox.new w e P p r b).alloc _, by have := PBox.new (w.alloc (.cells (pcs e P p r b) 37)) Esca.E.zero nilV zeroNm nilV nilV; simpa using this, ((Below.refl _ _).alloc (Nat.le_refl _) _).alloc (by simp) _⟩
theorem QS.next {w : World} {e : Esca.E} {P : Value} {p : Nm} {r b : Value} {wx wy : World} (h : QS w e P p r b wx) (hb : Below wx.heap.size wx wy) : QS w e P p r b wy := ⟨h.box.below hb h.box.lt, h.ans.below hb h.ans.lt, h.below.trans (hb.mono h.below.size)⟩
theorem QS.drew {w : World} {e : Esca.E} {P : Value} {p : Nm} {r b : Value} {wx : World} (h : QS w e P p r b wx) : QS w e P p r b wx.drew := ⟨h.box, h.ans, below_drewN h.below 1⟩

def QRes (w : World) (e : Esca.E) (p : Nm) (L Bk : List (List C)) (wx : World) : Prop := ∃ F2 q2 g2 h2, PBox wx (w.heap.size + 1) e (.slice F2 e.par.length q2) p (.slice (some ⟨g2, 0, none⟩) L.length L.length) (.slice (some ⟨h2, 0, none⟩) Bk.length Bk.length) ∧ Esca.Ints wx (w.heap.size + 2) (.slice F2 e.par.length q2) e.par ∧ OScr (w.heap.size + 2) wx g2 h2 L Bk ∧ Below w.heap.size w wx
set_option maxHeartbeats 4000000 in
theorem pown_any (e : Esca.E) (F : Option Addr) (f q B : Nat) (p : Nm) (D E : Option Addr) (n c m d : Nat) (L Bk : List (List C)) (w : World) (hp : Esca.Ints w B (.slice F f q) e.par) (he : e.par.length ≤ 1000) (hs : Scr 0 w D E n c m d L Bk) (hn : n ≤ 1000) (hm : m ≤ 50) (hl : ∀ r ∈ L, r.length ≤ 1000) (hlb : ∀ r ∈ Bk, r.length ≤ 1000) :
    Calls Try.prog 40 #[pv e (.slice F f q) p (.slice D n c) (.slice E m d)] w (PanePost w e p L Bk) := by
  have HS := Lib.hid (QS.start w e (.slice F f q) p (.slice D n c) (.slice E m d))
  have HE : Hid (∀ wx, Below w.heap.size w wx → Calls Try.prog 43 #[Esca.escV e (.slice F f q)] wx (Esca.EscPost wx.heap.size wx e)) := fun wx hb => Esca.pownE_any e _ B wx (hp.below hb (Nat.le_refl _)) he
  have HG : Hid (∀ wx, Below w.heap.size w wx → Calls Try.prog 79 #[gv p (.slice D n c) (.slice E m d)] wx (OwnPost wx p L Bk)) := fun wx hb => pownS_any p D E n c m d L Bk wx (hs.below hb (Nat.le_refl _)) hn hm hl hlb
  clear hp he hs hn hm hl hlb
  unfold pv pcs
  go_enter Try.func40, Try.ntmps40
  go_upto_region 1 with fail
  refine wp_world (fun wq => QS w e (.slice F f q) p (.slice D n c) (.slice E m d) wq) HS.out ?_
  clear HS
  intro w2 rs
  have HR := Lib.hid rs.drew
  clear rs
  go_cut [] (QRes w e p L Bk)
  case first =>
    refine wp_region_held_drew (S := fun w' => PBox w' w.heap.size e (.slice F f q) p (.slice D n c) (.slice E m d)) (by kernel_rfl) (by exact HR.out.box) (fun hH0 => ?_)
    refine wpAnyH_take (i := 0) (oi := _) (v := .pointer (some ⟨w.heap.size, 0, none⟩)) rfl (by kernel_rfl) (by kernel_rfl) (by kernel_rfl) (fun _ _ _ h => h) (Or.inl ⟨by rfl, ?_⟩) hH0 ?_
    · intro wv hSw
      try dsimp only at hSw
      go_simp
    change wpAnyH _ _ _ _ _ _ _ (Act.put _ (some 3) (.pointer (some ⟨w.heap.size, 0, none⟩))) _
    simp only [Act.put, List.setIfInBounds_toArray, List.set_cons_zero, List.set_cons_succ]
    refine wpAnyH_take (i := 1) (oi := _) (v := Esca.escV e (.slice F f q)) rfl (by kernel_rfl) (by kernel_rfl) (by kernel_rfl) (fun _ _ _ h => h) (yields_loadPE (by rfl) rfl (by rfl) (fun _ h => h)) hH0 ?_
    change wpAnyH _ _ _ _ _ _ _ (Act.put _ (some 4) (Esca.escV e (.slice F f q))) _
    simp only [Act.put, List.setIfInBounds_toArray, List.set_cons_zero, List.set_cons_succ]
    refine wpAnyH_take (i := 3) (oi := _) (v := .pointer (some ⟨w.heap.size, 8, none⟩)) rfl (by kernel_rfl) (by kernel_rfl) (by kernel_rfl) (fun _ _ _ h => h) (Or.inl ⟨by rfl, ?_⟩) hH0 ?_
    · intro wv hSw
      try dsimp only at hSw
      go_simp
    change wpAnyH _ _ _ _ _ _ _ (Act.put _ (some 6) (.pointer (some ⟨w.heap.size, 8, none⟩))) _
    simp only [Act.put, List.setIfInBounds_toArray, List.set_cons_zero, List.set_cons_succ]
    refine wpAnyH_take (i := 4) (oi := _) (v := gv p (.slice D n c) (.slice E m d)) rfl (by kernel_rfl) (by kernel_rfl) (by kernel_rfl) (fun _ _ _ h => h) (yields_loadPG (by rfl) rfl (by rfl) (fun _ h => h)) hH0 ?_
    change wpAnyH _ _ _ _ _ _ _ (Act.put _ (some 7) (gv p (.slice D n c) (.slice E m d))) _
    simp only [Act.put, List.setIfInBounds_toArray, List.set_cons_zero, List.set_cons_succ]
    refine wpAnyH_ready (rs := [2]) (by kernel_rfl) (by simp) ?_
    refine AllReadyH.cons (o := _) rfl (fun K hK => ?_) AllReadyH.nil
    · go_simp
      refine (HE.out _ (by exact HR.out.below)).mono ?_
      rintro x w3 ⟨P2, rfl, iw3, bw3⟩
      obtain ⟨F2, q2, rfl⟩ := Esca.ints_form iw3
      have r3 := HR.out.next bw3
      refine hK.out _ _ (by exact r3.box) (fun hH1 => ?_)
      clear hK K
      try simp only [Act.put, List.setIfInBounds_toArray, List.set_cons_zero, List.set_cons_succ]
      refine wpAnyH_ready (rs := [5]) (by kernel_rfl) (by simp) ?_
      refine AllReadyH.cons (o := _) rfl (fun K hK => ?_) AllReadyH.nil
      go_simp
      refine (HG.out w3 (by exact r3.below)).mono ?_
      rintro x w4 ⟨g2, h2, rfl, sw4, bw4⟩
      have r4 := r3.next bw4
      refine hK.out _ _ (by exact r4.box) (fun hH2 => ?_)
      clear hK K
      try simp only [Act.put, List.setIfInBounds_toArray, List.set_cons_zero, List.set_cons_succ]
      refine wpAnyH_take (i := 6) (oi := _) (v := pv e (.slice F2 e.par.length q2) p (.slice (some ⟨g2, 0, none⟩) L.length L.length) (.slice (some ⟨h2, 0, none⟩) Bk.length Bk.length)) rfl (by kernel_rfl) (by kernel_rfl) (by kernel_rfl) (fun _ _ _ h => h) (Or.inl ⟨by rfl, ?_⟩) hH2 ?_
      · intro wv hSw
        simp [execOp, go_sem, pv, pcs, Esca.escV, ov, gv, gcs]
      change wpAnyH _ _ _ _ _ _ _ (Act.put _ (some 9) (pv e (.slice F2 e.par.length q2) p (.slice (some ⟨g2, 0, none⟩) L.length L.length) (.slice (some ⟨h2, 0, none⟩) Bk.length Bk.length))) _
      simp only [Act.put, List.setIfInBounds_toArray, List.set_cons_zero, List.set_cons_succ]
      refine wpAnyH_ready (rs := [7]) (by kernel_rfl) (by simp) ?_
      refine AllReadyH.cons (o := _) rfl (fun K hK => ?_) AllReadyH.nil
      rw [if_pos (by rfl)]
      refine wp_storeP r4.ans (x := .tmp 2) (y := .tmp 9) (e' := e) (p' := p) (F := F2) (f := e.par.length) (q := q2) (D := some ⟨g2, 0, none⟩) (E := some ⟨h2, 0, none⟩) (n := L.length) (c := L.length) (m := Bk.length) (d := Bk.length) rfl rfl rfl ?_
      refine hK.out _ _ (by exact r4.box.other (by omega) _) (fun hH3 => ?_)
      clear hK K
      dsimp only [Act.put]
      refine wpAnyH_done (by kernel_rfl) ?_ _
      clear hH0 hH1 hH2 hH3
      go_wp2_with fail
      go_meet
      have h3z := bw3.size
      have rz := HR.out.ans.lt
      have rz2 : w2.heap.size ≤ w2.drew.heap.size := Nat.le_refl _
      exact ⟨F2, q2, g2, h2, r4.ans.setRow _ _ _ _ _, ints_put (Esca.Ints.base (iw3.below bw4 (Nat.le_refl _)) (C := w.heap.size + 2) (by omega)) (by omega) _, (OScr.weak (sw4) (A := w.heap.size + 2) (by omega)).eq (by simp) (fun b hb _ => setRow_other _ _ _ _ (by omega)), below_setRow r4.below (Nat.le_succ _) _⟩
  case rest =>
    obtain ⟨F2, q2, g2, h2, xa, xi, xs, xb⟩ := hcut
    clear HR HE HG
    go_wp2_with fail
    refine bodyPost_ret (v := pv e (.slice F2 e.par.length q2) p (.slice (some ⟨g2, 0, none⟩) L.length L.length) (.slice (some ⟨h2, 0, none⟩) Bk.length Bk.length)) (results_cell_row (P := Try.prog) Try.results40 _ _ (w.heap.size + 1) 37 _ (0, 0) _ rfl xa Try.underlying37 rfl pbox_size) rfl ?_
    exact ⟨_, _, _, _, _, _, _, _, _, rfl, xi.base (by omega), xs.scr.weak (by omega), xb⟩

set_option maxHeartbeats 4000000 in
theorem pnew_any (x0 y0 : Int) (w : World) : Calls Try.prog 21 #[.int .i64 x0, .int .i64 y0] w (PanePost w Esca.E.zero (newNm (sideF x0) (sideF y0)) (blankL (sideF x0) (sideF y0).toNat) []) := by
  have HG : Hid (∀ wx, Calls Try.prog 42 #[.int .i64 x0, .int .i64 y0] wx (GNewPost wx (newNm (sideF x0) (sideF y0)) (blankL (sideF x0) (sideF y0).toNat))) := fun wx => gnewO_any x0 y0 wx
  generalize newNm (sideF x0) (sideF y0) = p at *
  generalize blankL (sideF x0) (sideF y0).toNat = L at *
  go_enter Try.func21, Try.ntmps21
  go_upto_region 1 with fail
  have HA := Lib.hid (PBox.new w Esca.E.zero nilV zeroNm nilV nilV)
  have HB : Hid (Below w.heap.size w (w.alloc (.cells (pcs Esca.E.zero nilV zeroNm nilV nilV) 37))) := (Below.refl _ _).alloc (Nat.le_refl _) _
  refine wp_world (fun wq => PBox wq w.heap.size Esca.E.zero nilV zeroNm nilV nilV ∧ Below w.heap.size w wq) ⟨HA.out, HB.out⟩ ?_
  clear HA HB
  rintro w2 ⟨xa, b2⟩
  go_wp2_with (first
    | (go_at_call 42
       refine (HG.out _).mono ?_
       rintro e w3 ⟨g, rfl, t3, b3⟩
       unfold gv gcs
       have x3 := xa.below b3 xa.lt)
    | (with_reducible refine wpList_storeP x3 (x := .tmp 4) (y := .tmp 8) (e' := Esca.E.zero) (p' := p) (F := none) (f := 0) (q := 0) (D := some ⟨g, 0, none⟩) (E := none) (n := L.length) (c := L.length) (m := 0) (d := 0) ?_ ?_ ?_ ?_ ?_
       · with_reducible rfl
       · rfl
       · rfl
       · rfl))
  have hz := xa.lt
  refine bodyPost_ret (v := pv Esca.E.zero (.slice none 0 0) p (.slice (some ⟨g, 0, none⟩) L.length L.length) (.slice none 0 0)) (results_cell_row (P := Try.prog) Try.results21 _ _ w.heap.size 37 _ (0, 0) _ rfl (x3.setRow _ _ _ _ _) Try.underlying37 rfl pbox_size) rfl ?_
  refine ⟨_, _, _, _, _, _, _, _, _, rfl, Esca.ints_nil _ _, ?_, below_setRow (b2.trans (b3.mono b2.size)) (Nat.le_refl _) _⟩
  exact ((⟨t3.lines, Lines.nil _ _ _, rfl, rfl, Nat.le_refl _, Nat.le_refl _⟩ : Scr w2.heap.size w3 _ _ _ _ _ _ L []).put (by omega) _).weak (by omega)
end Go.Proofs.Ytpcpmeihebgncaa
