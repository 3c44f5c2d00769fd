/-
  What Resize of package pane answers. Conditions: at most fifty lines that went, of at most a thousand cells, at most a thousand parameters.
-/
import Derived.Test.YtpcpmeihebgncaaPFun
import Derived.Test.YtpcpmeihebgncaaGResz
namespace Go.Proofs.Ytpcpmeihebgncaa
open Go.RowKit
set_option maxRecDepth 100000

def QRes2 (w : World) (e : Esca.E) (p : Nm) (L Bk : List (List C)) (wx : World) : Prop := ∃ F2 q2 D4 E4 n4 c4 m4 d4, PBox wx (w.heap.size + 1) e (.slice F2 e.par.length q2) p (.slice D4 n4 c4) (.slice E4 m4 d4) ∧ Esca.Ints wx (w.heap.size + 2) (.slice F2 e.par.length q2) e.par ∧ Scr (w.heap.size + 2) wx D4 E4 n4 c4 m4 d4 L Bk ∧ Below w.heap.size w wx
set_option maxHeartbeats 4000000 in
theorem presize_any (e : Esca.E) (F : Option Addr) (f q B : Nat) (p : Nm) (D E : Option Addr) (n c m d : Nat) (L Bk : List (List C)) (x0 y0 : Int) (w : World) (hp : Esca.Ints w B (.slice F f q) e.par) (he : e.par.length ≤ 1000) (hs : Scr 0 w D E n c m d L Bk) (hm : m ≤ 50) (hlb : ∀ r ∈ Bk, r.length ≤ 1000) :
    Calls Try.prog 22 #[pv e (.slice F f q) p (.slice D n c) (.slice E m d), .int .i64 x0, .int .i64 y0] w (PanePost w e (sizedNm p (sideF x0) (sideF y0)) (fittedF L (sideF x0) (sideF y0).toNat) Bk) := by
  have HS := Lib.hid (QS.start w e (.slice F f q) p (.slice D n c) (.slice E m d))
  have HE : Hid (∀ wx, Below w.heap.size w wx → Calls Try.prog 43 #[Esca.escV e (.slice F f q)] wx (Esca.EscPost wx.heap.size wx e)) := fun wx hb => Esca.pownE_any e _ B wx (hp.below hb (Nat.le_refl _)) he
  have HG : Hid (∀ wx, Below w.heap.size w wx → Calls Try.prog 44 #[gv p (.slice D n c) (.slice E m d), .int .i64 x0, .int .i64 y0] wx (GridPost wx (sizedNm p (sideF x0) (sideF y0)) (fittedF L (sideF x0) (sideF y0).toNat) Bk)) := fun wx hb => gresize_any p D E n c m d L Bk x0 y0 wx (hs.below hb (Nat.le_refl _)) hm hlb
  generalize sizedNm p (sideF x0) (sideF y0) = p2 at *
  generalize fittedF L (sideF x0) (sideF y0).toNat = L2 at *
  clear hp he hs hm hlb
  unfold pv pcs
  go_enter Try.func22, Try.ntmps22
  go_upto_region 1 with fail
  refine wp_world (fun wq => QS w e (.slice F f q) p (.slice D n c) (.slice E m d) wq) HS.out ?_
  clear HS
  intro w2 rs
  have HR := Lib.hid rs.drew
  clear rs
  go_cut [] (QRes2 w e p2 L2 Bk)
  case first =>
    refine wp_region_held_drew (S := fun w' => PBox w' w.heap.size e (.slice F f q) p (.slice D n c) (.slice E m d)) (by kernel_rfl) (by exact HR.out.box) (fun hH0 => ?_)
    refine wpAnyH_take (i := 0) (oi := _) (v := .pointer (some ⟨w.heap.size, 0, none⟩)) rfl (by kernel_rfl) (by kernel_rfl) (by kernel_rfl) (fun _ _ _ h => h) (Or.inl ⟨by rfl, ?_⟩) hH0 ?_
    · intro wv hSw
      try dsimp only at hSw
      go_simp
    change wpAnyH _ _ _ _ _ _ _ (Act.put _ (some 7) (.pointer (some ⟨w.heap.size, 0, none⟩))) _
    simp only [Act.put, List.setIfInBounds_toArray, List.set_cons_zero, List.set_cons_succ]
    refine wpAnyH_take (i := 1) (oi := _) (v := Esca.escV e (.slice F f q)) rfl (by kernel_rfl) (by kernel_rfl) (by kernel_rfl) (fun _ _ _ h => h) (yields_loadPE (by rfl) rfl (by rfl) (fun _ h => h)) hH0 ?_
    change wpAnyH _ _ _ _ _ _ _ (Act.put _ (some 8) (Esca.escV e (.slice F f q))) _
    simp only [Act.put, List.setIfInBounds_toArray, List.set_cons_zero, List.set_cons_succ]
    refine wpAnyH_take (i := 3) (oi := _) (v := .pointer (some ⟨w.heap.size, 8, none⟩)) rfl (by kernel_rfl) (by kernel_rfl) (by kernel_rfl) (fun _ _ _ h => h) (Or.inl ⟨by rfl, ?_⟩) hH0 ?_
    · intro wv hSw
      try dsimp only at hSw
      go_simp
    change wpAnyH _ _ _ _ _ _ _ (Act.put _ (some 10) (.pointer (some ⟨w.heap.size, 8, none⟩))) _
    simp only [Act.put, List.setIfInBounds_toArray, List.set_cons_zero, List.set_cons_succ]
    refine wpAnyH_take (i := 4) (oi := _) (v := gv p (.slice D n c) (.slice E m d)) rfl (by kernel_rfl) (by kernel_rfl) (by kernel_rfl) (fun _ _ _ h => h) (yields_loadPG (by rfl) rfl (by rfl) (fun _ h => h)) hH0 ?_
    change wpAnyH _ _ _ _ _ _ _ (Act.put _ (some 11) (gv p (.slice D n c) (.slice E m d))) _
    simp only [Act.put, List.setIfInBounds_toArray, List.set_cons_zero, List.set_cons_succ]
    refine wpAnyH_take (i := 5) (oi := _) (v := .int .i64 x0) rfl (by kernel_rfl) (by kernel_rfl) (by kernel_rfl) (fun _ _ _ h => h) (Or.inl ⟨by rfl, ?_⟩) hH0 ?_
    · intro wv hSw
      try dsimp only at hSw
      go_simp
    change wpAnyH _ _ _ _ _ _ _ (Act.put _ (some 12) (.int .i64 x0)) _
    simp only [Act.put, List.setIfInBounds_toArray, List.set_cons_zero, List.set_cons_succ]
    refine wpAnyH_take (i := 6) (oi := _) (v := .int .i64 y0) rfl (by kernel_rfl) (by kernel_rfl) (by kernel_rfl) (fun _ _ _ h => h) (Or.inl ⟨by rfl, ?_⟩) hH0 ?_
    · intro wv hSw
      try dsimp only at hSw
      go_simp
    change wpAnyH _ _ _ _ _ _ _ (Act.put _ (some 13) (.int .i64 y0)) _
    simp only [Act.put, List.setIfInBounds_toArray, List.set_cons_zero, List.set_cons_succ]
    refine wpAnyH_ready (rs := [2]) (by kernel_rfl) (by simp) ?_
    refine AllReadyH.cons (o := _) rfl (fun K hK => ?_) AllReadyH.nil
    go_simp
    refine (HE.out _ (by exact HR.out.below)).mono ?_
    rintro x w3 ⟨P2, rfl, i3, b3⟩
    obtain ⟨F2, q2, rfl⟩ := Esca.ints_form i3
    have r3 := HR.out.next b3
    refine hK.out _ _ (by exact r3.box) (fun hH1 => ?_)
    clear hK K
    try simp only [Act.put, List.setIfInBounds_toArray, List.set_cons_zero, List.set_cons_succ]
    refine wpAnyH_ready (rs := [7]) (by kernel_rfl) (by simp) ?_
    refine AllReadyH.cons (o := _) rfl (fun K hK => ?_) AllReadyH.nil
    go_simp
    refine (HG.out w3 (by exact r3.below)).mono ?_
    rintro x w4 ⟨D4, E4, n4, c4, m4, d4, rfl, s4, b4⟩
    have r4 := r3.next b4
    refine hK.out _ _ (by exact r4.box) (fun hH2 => ?_)
    clear hK K
    try simp only [Act.put, List.setIfInBounds_toArray, List.set_cons_zero, List.set_cons_succ]
    refine wpAnyH_take (i := 8) (oi := _) (v := pv e (.slice F2 e.par.length q2) p2 (.slice D4 n4 c4) (.slice E4 m4 d4)) rfl (by kernel_rfl) (by kernel_rfl) (by kernel_rfl) (fun _ _ _ h => h) (Or.inl ⟨by rfl, ?_⟩) hH2 ?_
    · intro wv hSw
      simp [execOp, go_sem, pv, pcs, Esca.escV, gv, gcs]
    change wpAnyH _ _ _ _ _ _ _ (Act.put _ (some 15) (pv e (.slice F2 e.par.length q2) p2 (.slice D4 n4 c4) (.slice E4 m4 d4))) _
    simp only [Act.put, List.setIfInBounds_toArray, List.set_cons_zero, List.set_cons_succ]
    refine wpAnyH_ready (rs := [9]) (by kernel_rfl) (by simp) ?_
    refine AllReadyH.cons (o := _) rfl (fun K hK => ?_) AllReadyH.nil
    rw [if_pos (by rfl)]
    refine wp_storeP r4.ans (x := .tmp 6) (y := .tmp 15) (e' := e) (p' := p2) (F := F2) (f := e.par.length) (q := q2) (D := D4) (E := E4) (n := n4) (c := c4) (m := m4) (d := d4) rfl rfl rfl ?_
    refine hK.out _ _ (by exact r4.box.other (by omega) _) (fun hH3 => ?_)
    clear hK K
    dsimp only [Act.put]
    refine wpAnyH_done (by kernel_rfl) ?_ _
    clear hH0 hH1 hH2 hH3
    go_wp2_with fail
    go_meet
    have h3z := b3.size
    have rz := HR.out.ans.lt
    have rz2 : w2.heap.size ≤ w2.drew.heap.size := Nat.le_refl _
    exact ⟨F2, q2, D4, E4, n4, c4, m4, d4, r4.ans.setRow _ _ _ _ _, ints_put (Esca.Ints.base (i3.below b4 (Nat.le_refl _)) (C := w.heap.size + 2) (by omega)) (by omega) _, (s4.weak (A := w.heap.size + 2) (by omega)).put (by omega) _, below_setRow r4.below (Nat.le_succ _) _⟩
  case rest =>
    obtain ⟨F2, q2, D4, E4, n4, c4, m4, d4, xa, xi, xs, xb⟩ := hcut
    clear HR HE HG
    go_wp2_with fail
    refine bodyPost_ret (v := pv e (.slice F2 e.par.length q2) p2 (.slice D4 n4 c4) (.slice E4 m4 d4)) (results_cell_row (P := Try.prog) Try.results22 _ _ (w.heap.size + 1) 37 _ (0, 0) _ rfl xa Try.underlying37 rfl pbox_size) rfl ?_
    exact ⟨_, _, _, _, _, _, _, _, _, rfl, xi.base (by omega), xs.weak (by omega), xb⟩
end Go.Proofs.Ytpcpmeihebgncaa
