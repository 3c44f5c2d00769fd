/-
  What lineBack of package acts answers at the region's first row, what escaped answers for M there, what bounded answers where two rows or more scroll, and sequenced for r. Conditions: at most a thousand rows of at most a thousand cells, at most fifty lines that went; the screen's sides lie between 1 and 1,000, the cursor is on it.
-/
import Derived.Test.YtpcpmeihebgncaaLineUp
namespace Go.Proofs.Ytpcpmeihebgncaa
open Go.RowKit
set_option maxRecDepth 100000

set_option maxHeartbeats 4000000 in
theorem lineBack_any (B : Nat) (p : Nm) (g h : Nat) (L Bk : List (List C)) (w : World) (hs : OScr B w g h L Bk) (hq : On p) (hy : p.y = p.top) (h0 : 1 ≤ L.length) (hn : L.length ≤ 1000) (hm : Bk.length ≤ 50) (hl : ∀ r ∈ L, r.length ≤ 1000) (hlb : ∀ r ∈ Bk, r.length ≤ 1000) :
    Calls Try.prog 55 #[ov p g h L Bk] w (LinePost B g w (movedNm p p.x p.y) (downG p L) Bk) := by
  have HS := Lib.hid (MS.start w p (.slice (some ⟨g, 0, none⟩) L.length L.length) (.slice (some ⟨h, 0, none⟩) Bk.length Bk.length))
  have hB : B ≤ w.heap.size := by have := hs.rows.low; have := hs.rows.lt; omega
  have HU : Hid (∀ wx, Below w.heap.size w wx → Calls Try.prog 100 #[gv p (.slice (some ⟨g, 0, none⟩) L.length L.length) (.slice (some ⟨h, 0, none⟩) Bk.length Bk.length), .int .i64 p.top, .int .i64 p.bottom, .int .i64 1] wx (OwnPost wx p (downG p L) Bk)) := fun wx hb => downO_any p _ _ L.length L.length Bk.length Bk.length L Bk p.top p.bottom 1 wx ((hs.below hb (Nat.le_refl _)).weak (Nat.zero_le _)).scr h0 hn hm hl hlb
  have HM := Lib.hid (fun D E n c m d w => moved_any p D E n c m d p.x p.y w hq.w0 hq.w1 hq.h0 hq.h1)
  clear hs hl hlb hn hm h0 hq
  generalize downG p L = L2 at *
  have HY := Lib.hid hy
  clear hy
  unfold ov gv gcs
  go_enter Try.func55, Try.ntmps55
  go_upto_region 1 with fail
  refine wp_world (fun wq => MS w p (.slice (some ⟨g, 0, none⟩) L.length L.length) (.slice (some ⟨h, 0, none⟩) Bk.length Bk.length) wq) HS.out ?_
  clear HS
  intro w2 ms
  have xg := ms.box
  have u3 := xg.cells.c3
  have u6 := xg.cells.c6
  have u7 := xg.cells.c7
  rw [HY.out] at u3
  go_upto_region 3 with (first
    | (with_reducible refine wpList_loadB xg (x := .tmp 1) ?_ ?_ ?_ ?_
       · with_reducible rfl
       · rfl
       · rfl)
    | (go_at_call 100
       refine (HU.out w2 ms.below).mono ?_
       clear HU
       rintro e w3 ⟨g3, h3, rfl, s3, b3⟩
       have x3 := ms.box.below b3 ms.box.lt)
    | (with_reducible refine wpList_storeA x3 (x := .tmp 1) (y := .tmp 13) (p := p) (D := some ⟨g3, 0, none⟩) (E := some ⟨h3, 0, none⟩) (n := L2.length) (c := L2.length) (m := Bk.length) (d := Bk.length) ?_ ?_ ?_ ?_ ?_
       · with_reducible rfl
       · rfl
       · rfl
       · rfl))
  have hz := ms.below.size
  have hlow := s3.rows.low
  have hfree : w.heap.size ≤ g3 := by omega
  refine wp_world (fun wq => Box wq w.heap.size p (.slice (some ⟨g3, 0, none⟩) L2.length L2.length) (.slice (some ⟨h3, 0, none⟩) Bk.length Bk.length) ∧ Box wq (w.heap.size + 1) zeroNm nilV nilV ∧ OScr B wq g3 h3 L2 Bk ∧ Below w.heap.size w wq)
    ⟨x3.setRow _ _ _, (setRow_other _ _ _ _ (by omega)).trans (ms.ans.below b3 ms.ans.lt), (s3.bput x3 _).weak (by omega), below_setRow (ms.below.trans (b3.mono ms.below.size)) (Nat.le_refl _) _⟩ ?_
  clear xg x3 ms s3 b3 u3 u6 u7 hlow hz
  rintro w4 ⟨x4, a4, s4, b4⟩
  have u2 := x4.cells.c2
  have u3 := x4.cells.c3
  go_wp2_with (first
    | (with_reducible refine wpList_loadB x4 (x := .tmp 1) ?_ ?_ ?_ ?_
       · with_reducible rfl
       · rfl
       · rfl)
    | (go_at_call 54
       refine (HM.out _ _ _ _ _ _ w4).mono ?_
       clear HM
       rintro e w5 ⟨rfl, b5⟩
       have a5 := a4.below b5 a4.lt
       generalize hz : movedNm p p.x p.y = z at *)
    | (with_reducible refine wpList_storeA a5 (x := .tmp 2) (y := .tmp 19) (p := z) (D := some ⟨g3, 0, none⟩) (E := some ⟨h3, 0, none⟩) (n := L2.length) (c := L2.length) (m := Bk.length) (d := Bk.length) ?_ ?_ ?_ ?_ ?_
       · with_reducible rfl
       · rfl
       · rfl
       · rfl))
  refine bodyPost_ret (v := gv z (.slice (some ⟨g3, 0, none⟩) L2.length L2.length) (.slice (some ⟨h3, 0, none⟩) Bk.length Bk.length)) (results_cell_row (P := Try.prog) Try.results55 _ _ (w.heap.size + 1) 35 _ (0, 0) _ rfl (a5.setRow _ _ _) Try.underlying35 rfl box_size) rfl ?_
  exact ⟨g3, h3, rfl, (s4.below b5 (Nat.le_refl _)).bput a5 _, .inr hfree, below_setRow (b4.trans (b5.mono b4.size)) (Nat.le_succ _) _⟩

set_option maxHeartbeats 4000000 in
theorem escM_any (B : Nat) (p q : Nm) (g h : Nat) (L Bk L1 Bk1 : List (List C)) (w : World) (hs : OScr B w g h L Bk)
    (hT : ∀ wx, Below w.heap.size w wx → Calls Try.prog 55 #[ov p g h L Bk] wx (LinePost B g wx q L1 Bk1)) :
    Calls Try.prog 29 #[ov p g h L Bk, .int .i32 77] w (InPost B g w q L1 Bk1) := by
  have HS := Lib.hid (MS.start w p (.slice (some ⟨g, 0, none⟩) L.length L.length) (.slice (some ⟨h, 0, none⟩) Bk.length Bk.length))
  have T : Hid (∀ wx, Below w.heap.size w wx → Calls Try.prog 55 #[gv p (.slice (some ⟨g, 0, none⟩) L.length L.length) (.slice (some ⟨h, 0, none⟩) Bk.length Bk.length)] wx (LinePost B g wx q L1 Bk1)) := hT
  have hgl := hs.rows.lt
  clear hT hs
  unfold ov gv gcs
  go_enter Try.func29, Try.ntmps29
  go_upto_region 1 with fail
  refine wp_world (fun wq => MS w p (.slice (some ⟨g, 0, none⟩) L.length L.length) (.slice (some ⟨h, 0, none⟩) Bk.length Bk.length) wq) HS.out ?_
  clear HS
  intro w2 ms
  have xg := ms.box
  go_wp2_with (first
    | (with_reducible refine wpList_loadB xg (x := .tmp 2) ?_ ?_ ?_ ?_
       · with_reducible rfl
       · rfl
       · rfl)
    | (go_at_call 55
       refine (T.out w2 ms.below).mono ?_
       clear T
       rintro e w3 ⟨g3, h3, rfl, s3, e3, b3⟩
       have a3 := ms.ans.below b3 ms.ans.lt)
    | (with_reducible refine wpList_storeA a3 (x := .tmp 4) (y := .tmp 20) (p := q) (D := some ⟨g3, 0, none⟩) (E := some ⟨h3, 0, none⟩) (n := L1.length) (c := L1.length) (m := Bk1.length) (d := Bk1.length) ?_ ?_ ?_ ?_ ?_
       · with_reducible rfl
       · rfl
       · rfl
       · rfl))
  refine bodyPost_ret (v := gv q (.slice (some ⟨g3, 0, none⟩) L1.length L1.length) (.slice (some ⟨h3, 0, none⟩) Bk1.length Bk1.length)) (results_cell_row (P := Try.prog) Try.results29 _ _ (w.heap.size + 1) 35 _ (0, 0) _ rfl (a3.setRow _ _ _) Try.underlying35 rfl box_size) rfl ?_
  exact ⟨g3, h3, rfl, s3.bput a3 _, Chg.of (below_setRow (ms.below.trans (b3.mono ms.below.size)) (Nat.le_succ _) _) hgl⟩

set_option maxHeartbeats 4000000 in
theorem bounded_any (p : Nm) (D E : Option Addr) (n c m d : Nat) (a b t u : Int) (w : World) (hq : On p) (ht : withinF a (p.h - 1) = t) (hu : withinF b (p.h - 1) = u) (htu : t < u) :
    Calls Try.prog 57 #[gv p (.slice D n c) (.slice E m d), .int .i64 a, .int .i64 b] w (ValPost (gv (movedNm { p with top := t, bottom := u } 0 0) (.slice D n c) (.slice E m d)) w) := by
  have HS := Lib.hid (MS.start w p (.slice D n c) (.slice E m d))
  obtain ⟨q, hq0⟩ : ∃ q : Nm, { p with top := t, bottom := u } = q := ⟨_, rfl⟩
  have HM : Hid (∀ w, Calls Try.prog 54 #[gv q (.slice D n c) (.slice E m d), .int .i64 0, .int .i64 0] w (ValPost (gv (movedNm q 0 0) (.slice D n c) (.slice E m d)) w)) := fun w => by
    rw [← hq0]
    exact moved_any { p with top := t, bottom := u } D E n c m d 0 0 w hq.w0 hq.w1 hq.h0 hq.h1
  rw [hq0]
  have HQ0 := Lib.hid hq0
  clear hq0
  have HA : Hid (∀ w, Calls Try.prog 99 #[.int .i64 a, .int .i64 (p.h - 1)] w fun e w' => e = .returned (.int .i64 t) ∧ w = w') := fun w => by rw [← ht]; exact awithin_any a _ w
  have HB : Hid (∀ w, Calls Try.prog 99 #[.int .i64 b, .int .i64 (p.h - 1)] w fun e w' => e = .returned (.int .i64 u) ∧ w = w') := fun w => by rw [← hu]; exact awithin_any b _ w
  have s1 : IntKind.i64.wrap (p.h - 1) = p.h - 1 := IntWalk.i64_in _ (by have := hq.h0; have := hq.h1; omega)
  clear hq ht hu
  unfold gv gcs
  go_enter Try.func57, Try.ntmps57
  go_upto_region 1 with fail
  refine wp_world (fun wq => MS w p (.slice D n c) (.slice E m d) wq) HS.out ?_
  clear HS
  intro w2 ms
  have msd := ms.drew
  have u1 := msd.box.cells.c1
  go_cut [1, 2] (fun x y wx => x = .int .i64 t ∧ y = .int .i64 u ∧ wx = w2.drew)
  case first =>
    go_region_held3 (fun w' => w'.cell? ⟨w.heap.size, 1, none⟩ = some (.int .i64 p.h))
      (first | with_reducible exact u1 | fail)
      (first
        | (go_at_call 99
           (with_reducible refine (HA.out _).mono ?_)
           rintro e w' ⟨rfl, rfl⟩)
        | (go_at_call 99
           (with_reducible refine (HB.out _).mono ?_)
           rintro e w' ⟨rfl, rfl⟩))
    all_goals go_wp2_with fail
    all_goals go_meet
    all_goals exact ⟨rfl, rfl, rfl⟩
  case rest =>
    obtain ⟨rfl, rfl, rfl⟩ := hcut
    clear ms u1 HA HB s1
    generalize w2.drew = wd at *
    have htu' : ¬ t ≥ u := by omega
    have v6 := msd.box.cells.c6
    have v7 := msd.box.cells.c7
    have vf := msd.box.cells.free
    have hz1 := msd.box.lt
    go_upto_region 5 with fail
    have m1 := msd.far (msd.box.set_top t)
    have m2 : MS w q (.slice D n c) (.slice E m d) ((wd.setCell ⟨w.heap.size, 6, none⟩ (.int .i64 t)).setCell ⟨w.heap.size, 7, none⟩ (.int .i64 u)) := by rw [← HQ0.out]; exact m1.far (m1.box.set_bottom u)
    clear v6 v7 vf hz1 m1 msd
    generalize ((wd.setCell ⟨w.heap.size, 6, none⟩ (.int .i64 t)).setCell ⟨w.heap.size, 7, none⟩ (.int .i64 u)) = w3 at *
    have xg := m2.box
    go_wp2_with (first
      | (with_reducible refine wpList_loadB xg (x := .tmp 3) ?_ ?_ ?_ ?_
         · with_reducible rfl
         · rfl
         · rfl)
      | (go_at_call 54
         with_reducible refine (HM.out w3).mono ?_
         clear HM
         rintro e w5 ⟨rfl, b5⟩
         have a5 := m2.ans.below b5 m2.ans.lt
         generalize hz : movedNm q 0 0 = z at *)
      | (with_reducible refine wpList_storeA a5 (x := .tmp 6) (y := .tmp 26) (p := z) (D := D) (E := E) (n := n) (c := c) (m := m) (d := d) ?_ ?_ ?_ ?_ ?_
         · with_reducible rfl
         · rfl
         · rfl
         · rfl))
    refine bodyPost_ret (v := gv z (.slice D n c) (.slice E m d)) (results_cell_row (P := Try.prog) Try.results57 _ _ (w.heap.size + 1) 35 _ (0, 0) _ rfl (a5.setRow _ _ _) Try.underlying35 rfl box_size) rfl ?_
    exact ⟨rfl, below_setRow (m2.below.trans (b5.mono m2.below.size)) (Nat.le_succ _) _⟩

set_option maxHeartbeats 4000000 in
theorem seq_r (p : Nm) (D E PD : Option Addr) (n c m d pc : Nat) (xs : List Int) (t u : Int) (w : World) (hr : ReadI w (.slice PD xs.length pc) xs) (hp : On p) (ht : withinF (toldF xs 0 1 - 1) (p.h - 1) = t) (hu : withinF (toldF xs 1 p.h - 1) (p.h - 1) = u) (htu : t < u) :
    Calls Try.prog 30 #[gv p (.slice D n c) (.slice E m d), .int .i32 114, .slice PD xs.length pc] w (ValPost (gv (movedNm { p with top := t, bottom := u } 0 0) (.slice D n c) (.slice E m d)) w) := by
  have HS := Lib.hid (MS.start w p (.slice D n c) (.slice E m d))
  have HT : Hid (∀ wx, Below w.heap.size w wx → Calls Try.prog 56 #[.slice PD xs.length pc, .int .i64 0, .int .i64 1] wx fun e w' => e = .returned (.int .i64 (toldF xs 0 1)) ∧ wx = w') := fun wx hb => told_any PD pc xs 0 1 wx (hr.below hb (Nat.le_refl _))
  have HT1 : Hid (∀ wx, Below w.heap.size w wx → Calls Try.prog 56 #[.slice PD xs.length pc, .int .i64 1, .int .i64 p.h] wx fun e w' => e = .returned (.int .i64 (toldF xs 1 p.h)) ∧ wx = w') := fun wx hb => told_any PD pc xs 1 p.h wx (hr.below hb (Nat.le_refl _))
  obtain ⟨k0, k1⟩ := told_le (xs := xs) (i := 0) (o := 1) (by omega) (by omega)
  obtain ⟨j0, j1⟩ := told_le (xs := xs) (i := 1) (o := p.h) hp.h0 (by have := hp.h1; omega)
  generalize toldF xs 0 1 = k at *
  generalize toldF xs 1 p.h = j at *
  have HBD := Lib.hid (fun w => bounded_any p D E n c m d (k - 1) (j - 1) t u w hp ht hu htu)
  have s1 : IntKind.i64.wrap (k - 1) = k - 1 := IntWalk.i64_in _ (by omega)
  have s2 : IntKind.i64.wrap (j - 1) = j - 1 := IntWalk.i64_in _ (by omega)
  clear hr hp ht hu htu
  unfold gv gcs
  go_enter Try.func30, Try.ntmps30
  go_upto_region 1 with fail
  refine wp_world (fun wq => MS w p (.slice D n c) (.slice E m d) wq) HS.out ?_
  clear HS
  intro w2 rs
  have HR0 := Lib.hid rs
  clear rs
  go_upto_region 19 with (
    go_at_call 56
    refine (HT.out _ HR0.out.below).mono ?_
    rintro e w' ⟨rfl, rfl⟩)
  have HR := Lib.hid HR0.out.drew
  clear HR0 HT
  refine wp_region_held_drew (S := fun w' => Box w' w.heap.size p (.slice D n c) (.slice E m d) ∧ w'.cell? ⟨w.heap.size, 1, none⟩ = some (.int .i64 p.h)) (by kernel_rfl) (by exact ⟨HR.out.box, HR.out.box.cells.c1⟩) (fun hH0 => ?_)
  refine wpAnyH_take (i := 0) (oi := _) (v := gv p (.slice D n c) (.slice E m d)) rfl (by kernel_rfl) (by kernel_rfl) (by kernel_rfl) (fun _ _ _ h => h) (yields_loadB (by rfl) rfl (by rfl) (fun _ h => h.1)) hH0 ?_
  change wpAnyH _ _ _ _ _ _ _ (Act.put _ (some 79) (gv p (.slice D n c) (.slice E m d))) _
  simp only [Act.put, List.setIfInBounds_toArray, List.set_cons_zero, List.set_cons_succ]
  refine wpAnyH_take (i := 1) (oi := _) (v := .int .i64 k) rfl (by kernel_rfl) (by kernel_rfl) (by kernel_rfl) (fun _ _ _ h => h) (Or.inl ⟨by rfl, ?_⟩) hH0 ?_
  · intro wv hSw
    try dsimp only at hSw
    go_simp
  change wpAnyH _ _ _ _ _ _ _ (Act.put _ (some 80) (.int .i64 k)) _
  simp only [Act.put, List.setIfInBounds_toArray, List.set_cons_zero, List.set_cons_succ]
  refine wpAnyH_take (i := 2) (oi := _) (v := .int .i64 (k - 1)) rfl (by kernel_rfl) (by kernel_rfl) (by kernel_rfl) (fun _ _ _ h => h) (Or.inl ⟨by rfl, ?_⟩) hH0 ?_
  · intro wv hSw
    try dsimp only at hSw
    go_simp
  change wpAnyH _ _ _ _ _ _ _ (Act.put _ (some 81) (.int .i64 (k - 1))) _
  simp only [Act.put, List.setIfInBounds_toArray, List.set_cons_zero, List.set_cons_succ]
  refine wpAnyH_take (i := 3) (oi := _) (v := .slice PD xs.length pc) rfl (by kernel_rfl) (by kernel_rfl) (by kernel_rfl) (fun _ _ _ h => h) (Or.inl ⟨by rfl, ?_⟩) hH0 ?_
  · intro wv hSw
    try dsimp only at hSw
    go_simp
  change wpAnyH _ _ _ _ _ _ _ (Act.put _ (some 82) (.slice PD xs.length pc)) _
  simp only [Act.put, List.setIfInBounds_toArray, List.set_cons_zero, List.set_cons_succ]
  refine wpAnyH_take (i := 4) (oi := _) (v := .pointer (some ⟨w.heap.size, 1, none⟩)) rfl (by kernel_rfl) (by kernel_rfl) (by kernel_rfl) (fun _ _ _ h => h) (Or.inl ⟨by rfl, ?_⟩) hH0 ?_
  · intro wv hSw
    try dsimp only at hSw
    go_simp
  change wpAnyH _ _ _ _ _ _ _ (Act.put _ (some 83) (.pointer (some ⟨w.heap.size, 1, none⟩))) _
  simp only [Act.put, List.setIfInBounds_toArray, List.set_cons_zero, List.set_cons_succ]
  refine wpAnyH_take (i := 5) (oi := _) (v := .int .i64 p.h) rfl (by kernel_rfl) (by kernel_rfl) (by kernel_rfl) (fun _ _ _ h => h) (Or.inl ⟨by rfl, ?_⟩) hH0 ?_
  · intro wv hSw
    try dsimp only at hSw
    go_simp
  change wpAnyH _ _ _ _ _ _ _ (Act.put _ (some 84) (.int .i64 p.h)) _
  simp only [Act.put, List.setIfInBounds_toArray, List.set_cons_zero, List.set_cons_succ]
  refine wpAnyH_ready (rs := [6]) (by kernel_rfl) (by simp) ?_
  refine AllReadyH.cons (o := _) rfl (fun K hK => ?_) AllReadyH.nil
  go_simp
  refine (HT1.out _ HR.out.below).mono ?_
  rintro e w' ⟨rfl, rfl⟩
  go_wp2_with fail
  refine hK.out _ _ (by exact ⟨HR.out.box, HR.out.box.cells.c1⟩) (fun hH1 => ?_)
  clear hK K
  try simp only [Act.put, List.setIfInBounds_toArray, List.set_cons_zero, List.set_cons_succ]
  refine wpAnyH_take (i := 7) (oi := _) (v := .int .i64 (j - 1)) rfl (by kernel_rfl) (by kernel_rfl) (by kernel_rfl) (fun _ _ _ h => h) (Or.inl ⟨by rfl, ?_⟩) hH1 ?_
  · intro wv hSw
    try dsimp only at hSw
    go_simp
  change wpAnyH _ _ _ _ _ _ _ (Act.put _ (some 86) (.int .i64 (j - 1))) _
  simp only [Act.put, List.setIfInBounds_toArray, List.set_cons_zero, List.set_cons_succ]
  refine wpAnyH_ready (rs := [8]) (by kernel_rfl) (by simp) ?_
  refine AllReadyH.cons (o := _) rfl (fun K hK => ?_) AllReadyH.nil
  go_simp
  refine (HBD.out w2.drew).mono ?_
  rintro e w5 ⟨rfl, b5⟩
  have x5 := HR.out.box.below b5 HR.out.box.lt
  have a5 := HR.out.ans.below b5 HR.out.ans.lt
  generalize hz : movedNm { p with top := t, bottom := u } 0 0 = z at *
  go_wp2_with fail
  refine hK.out _ _ (by exact ⟨x5, x5.cells.c1⟩) (fun hH2 => ?_)
  clear hK K
  try simp only [Act.put, List.setIfInBounds_toArray, List.set_cons_zero, List.set_cons_succ]
  refine wpAnyH_ready (rs := [9]) (by kernel_rfl) (by simp) ?_
  refine AllReadyH.cons (o := _) rfl (fun K hK => ?_) AllReadyH.nil
  rw [if_pos (by rfl)]
  refine wp_storeA a5 (x := .tmp 6) (y := .tmp 87) (p := z) (D := D) (E := E) (n := n) (c := c) (m := m) (d := d) rfl rfl rfl ?_
  have x6 : Box (w5.setRow (w.heap.size + 1) (gcs z (.slice D n c) (.slice E m d))) w.heap.size p (.slice D n c) (.slice E m d) := (setRow_other _ _ _ _ (by omega)).trans x5
  refine hK.out _ _ (by exact ⟨x6, x6.cells.c1⟩) (fun hH3 => ?_)
  clear hK K
  dsimp only [Act.put]
  refine wpAnyH_done (by kernel_rfl) ?_ _
  clear hH0 hH1 hH2 hH3
  go_wp2_with fail
  refine bodyPost_ret (v := gv z (.slice D n c) (.slice E m d)) (results_cell_row (P := Try.prog) Try.results30 _ _ (w.heap.size + 1) 35 _ (0, 0) _ rfl (a5.setRow _ _ _) Try.underlying35 rfl box_size) rfl ?_
  exact ⟨rfl, below_setRow (HR.out.below.trans (b5.mono HR.out.below.size)) (Nat.le_succ _) _⟩
end Go.Proofs.Ytpcpmeihebgncaa
