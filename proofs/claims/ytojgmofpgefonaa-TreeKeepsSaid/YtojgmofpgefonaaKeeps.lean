/-
  The walk of TreeKeeps. No condition but that a row of numbers came in.
-/
import Derived.Test.YtojgmofpgefonaaPlain6
import Derived.Test.YtojgmofpgefonaaB7
namespace Go.Proofs.Ytojgmofpgefonaa
open Go.RowKit
set_option linter.unusedSimpArgs false
set_option linter.unusedVariables false
set_option maxRecDepth 100000

set_option maxHeartbeats 16000000 in
theorem keeps_any (l : List Int) (D0 : Option Addr) (c0 : Nat) (a0 b0 : Int) (w : World) (h : RdI w D0 l) :
    Calls Try.prog 6 #[.slice D0 l.length c0, .int .i64 a0, .int .i64 b0] w (TrueB w) := by
  have HT := Lib.hid (tree_any l D0 c0 w h)
  clear h
  go_enter Try.func6, Try.ntmps6
  go_wp2_with fail
  refine HT.out.mono ?_
  rintro x w1 ⟨t, D, c, rfl, hc, hg, ht, h1⟩
  have is := hg.is (Nat.le_refl _)
  have hnt : (t.flat 0).length = t.size := T.flat_len _ _
  rw [hnt] at hc ⊢
  have v1 := VT.new (n := t.size) (c := c) (ht.weak (Nat.zero_le _))
  have b1 := Lib.hid (h1.trans ((below_new w1 (.cells #[.slice D t.size c] 30)).mono h1.size))
  have q0 := v1.1.cell
  obtain ⟨a1, ha1, hA1⟩ := gmask255 a0
  obtain ⟨a2, ha2, hA2⟩ := gmask255 b0
  have lw1 := t.lw_ok
  have lh1 := t.lh_ok
  have hsz := hg.size
  have low := T.fits_low (r := win 30 20) hg.ok hg.fits (by simp [win]) (by simp [win])
  have fself := T.fit_self (r := win 30 20) hg.ok hg.fits (by simp [win]) (by simp [win])
  have HLow := Lib.hid low
  have hlo1 : t.lw ≤ 30 := low.1
  have hlo2 : t.lh ≤ 20 := low.2
  have HL := Lib.hid (fun w' h => least_any (t.flat 0) t D c 0 w' h is)
  have H1 := Lib.hid (fun w' h => fitT_any (t.flat 0) t D c 0 30 20 w' h is win_in low.1 low.2)
  have HPn := Lib.hid (fun w' h => panesT (t.flat 0) t is D c 0 w' h)
  have HS := Lib.hid (fun D' c' w' h h' => sameTree_any (t.flat 0) D' D c' c 0 0 w' h h' (by omega))
  rw [fself] at H1
  have HI := Lib.hid is
  have HN := Lib.hid hnt
  rw [hnt] at HL H1 HPn HS
  clear ht h1 hg is hnt low fself lw1 lh1
  go_wp2_with fail
  refine (H1.out _ v1.2).mono ?_
  intro x w2 h2
  obtain ⟨D2, c2, rfl, hc2, t2, h2⟩ := TrP.lit h2 HN.out
  have u2 := VT.new (n := t.size) (c := c2) t2
  have v2 := (v1.below h2).alloc (.cells #[.slice D2 t.size c2] 30)
  have z2 := h2.trans ((below_new w2 (.cells #[.slice D2 t.size c2] 30)).mono h2.size)
  have b2 := Lib.hid (b1.out.trans (z2.mono b1.out.size))
  clear v1 h2 q0 z2 t2 H1
  have q0 := v2.1.cell
  go_wp2_with fail
  generalize (w2.alloc (.cells #[.slice D2 t.size c2] 30)) = w2' at *
  refine (HL.out _ v2.2).mono ?_
  rintro x w3 ⟨rfl, h3⟩
  have v3 := v2.below h3
  have u3 := u2.below h3
  have b3 := Lib.hid (b2.out.trans (h3.mono b2.out.size))
  clear v2 u2 h3 q0 HL
  have q0 := v3.1.cell
  have lb1 := t.lw_ok.1
  have lb2 := t.lh_ok.1
  have e1 : IntKind.i64.wrap (31 - t.lw) = ((31 - t.lw).toNat : Int) := by rw [wrap_i64_t _ (by omega) (by omega)]; omega
  have e2 : IntKind.i64.wrap (21 - t.lh) = ((21 - t.lh).toNat : Int) := by rw [wrap_i64_t _ (by omega) (by omega)]; omega
  have n1 : ¬ ((31 - t.lw).toNat : Int) = 0 := by omega
  have n2 : ¬ ((21 - t.lh).toNat : Int) = 0 := by omega
  have p1 : 0 < (31 - t.lw).toNat := by omega
  have p2 : 0 < (21 - t.lh).toNat := by omega
  have r1 := tmod_nat a1 (31 - t.lw).toNat
  have r2 := tmod_nat a2 (21 - t.lh).toNat
  have l1 := Nat.mod_lt a1 p1
  have l2 := Nat.mod_lt a2 p2
  have l1' : ((a1 % (31 - t.lw).toNat : Nat) : Int) ≤ 30 - t.lw := by omega
  have l2' : ((a2 % (21 - t.lh).toNat : Nat) : Int) ≤ 20 - t.lh := by omega
  clear l1 l2
  generalize (31 - t.lw).toNat = m1 at *
  generalize (21 - t.lh).toNat = m2 at *
  generalize a1 % m1 = k1 at *
  generalize a2 % m2 = k2 at *
  have f1 : IntKind.i64.wrap (t.lw + (k1 : Int)) = t.lw + (k1 : Int) := wrap_i64_t _ (by omega) (by omega)
  have f2 : IntKind.i64.wrap (t.lh + (k2 : Int)) = t.lh + (k2 : Int) := wrap_i64_t _ (by omega) (by omega)
  go_upto_region 4 with fail
  go_quiet (fail)
  have hW : t.lw ≤ t.lw + (k1 : Int) := by omega
  have hH : t.lh ≤ t.lh + (k2 : Int) := by omega
  have hWin : (win (t.lw + (k1 : Int)) (t.lh + (k2 : Int))).in := by simp [win, R.in]; omega
  have fo := T.fit_ok HI.out.ok hWin hW hH
  have isF := Is.fit HI.out hWin hW hH
  have lowF := T.fits_low fo.1 fo.2.1 (by simp [win]; omega) (by simp [win]; omega)
  have lF1 : (t.fit (win (t.lw + (k1 : Int)) (t.lh + (k2 : Int)))).lw ≤ 30 := by have h9 : (t.fit (win (t.lw + (k1 : Int)) (t.lh + (k2 : Int)))).lw ≤ t.lw + (k1 : Int) := lowF.1; omega
  have lF2 : (t.fit (win (t.lw + (k1 : Int)) (t.lh + (k2 : Int)))).lh ≤ 20 := by have h9 : (t.fit (win (t.lw + (k1 : Int)) (t.lh + (k2 : Int)))).lh ≤ t.lh + (k2 : Int) := lowF.2; omega
  have H1 := Lib.hid (fun w' h => fitT_any (t.flat 0) t D c 0 (t.lw + (k1 : Int)) (t.lh + (k2 : Int)) w' h HI.out hWin hW hH)
  have hnF : ((t.fit (win (t.lw + (k1 : Int)) (t.lh + (k2 : Int)))).flat 0).length = t.size := by rw [T.flat_len, T.fit_size]
  have H2 := Lib.hid (fun w' D c h => fitT_any ((t.fit (win (t.lw + (k1 : Int)) (t.lh + (k2 : Int)))).flat 0) (t.fit (win (t.lw + (k1 : Int)) (t.lh + (k2 : Int)))) D c 0 30 20 w' h isF win_in lF1 lF2)
  have H3 := Lib.hid (fun w' D c h => ok_any ((t.fit (win (t.lw + (k1 : Int)) (t.lh + (k2 : Int)))).flat 0) D c 0 w' h (by rw [hnF]; omega))
  have H4 := Lib.hid (fun w' D c h => panesT ((t.fit (win (t.lw + (k1 : Int)) (t.lh + (k2 : Int)))).flat 0) (t.fit (win (t.lw + (k1 : Int)) (t.lh + (k2 : Int)))) isF D c 0 w' h)
  rw [isF.treeF] at H3
  rw [fo.2.2] at H4
  rw [hnF] at H2 H3 H4
  rw [HN.out] at H1
  have hn2 : (((t.fit (win (t.lw + (k1 : Int)) (t.lh + (k2 : Int)))).fit (win 30 20)).flat 0).length = t.size := by rw [T.flat_len, T.fit_size, T.fit_size]
  have lps : t.panes.length ≤ 64 := by have := t.panes_size; omega
  clear fo isF lowF lF1 lF2
  generalize t.fit (win (t.lw + (k1 : Int)) (t.lh + (k2 : Int))) = T' at *
  generalize (T'.fit (win 30 20)).flat 0 = L2 at *
  have HnF := Lib.hid hnF
  have Hn2 := Lib.hid hn2
  clear hnF hn2 hWin hW hH
  have d4 : Below w3.heap.size w3 (w3.drewN nq) := below_drewN (Below.refl _ _) nq
  have v4 := v3.below d4
  have u4 := u3.below d4
  have b4 := Lib.hid (b3.out.trans (d4.mono b3.out.size))
  clear d4 v3 u3 q0 hA1 hA2 r1 r2 n1 n2 p1 p2 e1 e2 f1 f2 ha1 ha2
  generalize w3.drewN nq = w4 at *
  generalize t.lw + (k1 : Int) = W at *
  generalize t.lh + (k2 : Int) = H at *
  clear l1' l2' hlo1 hlo2 lb1 lb2 HLow
  have q0 := v4.1.cell
  go_wp2_with fail
  refine (H1.out _ v4.2).mono ?_
  intro x w5 h5
  obtain ⟨D5, c5, rfl, hc5, t5, h5⟩ := TrP.lit h5 HnF.out
  have vF := VT.new (n := t.size) (c := c5) t5
  have v5 := (v4.below h5).alloc (.cells #[.slice D5 t.size c5] 30)
  have u5 := (u4.below h5).alloc (.cells #[.slice D5 t.size c5] 30)
  have gt5 : w4.heap.size ≤ w5.heap.size := h5.size
  have z5 := h5.trans ((below_new w5 (.cells #[.slice D5 t.size c5] 30)).mono h5.size)
  have b5 := Lib.hid (b4.out.trans (z5.mono b4.out.size))
  clear v4 u4 h5 q0 z5 t5 H1
  have q0 := vF.1.cell
  go_wp2_with fail
  generalize (w5.alloc (.cells #[.slice D5 t.size c5] 30)) = w5' at *
  refine (H2.out _ D5 c5 vF.2).mono ?_
  intro x w6 h6
  obtain ⟨D6, c6, rfl, hc6, t6, h6⟩ := TrP.lit h6 Hn2.out
  have vX := VT.new (n := t.size) (c := c6) t6
  have v6 := (v5.below h6).alloc (.cells #[.slice D6 t.size c6] 30)
  have u6 := (u5.below h6).alloc (.cells #[.slice D6 t.size c6] 30)
  have vF6 := (vF.below h6).alloc (.cells #[.slice D6 t.size c6] 30)
  have z6 := h6.trans ((below_new w6 (.cells #[.slice D6 t.size c6] 30)).mono h6.size)
  have b6 := Lib.hid (b5.out.trans (z6.mono b5.out.size))
  clear v5 u5 vF h6 q0 z6 t6 H2
  go_upto_region 7 with fail
  have vX6 := vX
  generalize (w6.alloc (.cells #[.slice D6 t.size c6] 30)) = wq at *
  generalize w1.heap.size = g1 at *
  generalize w2.heap.size = g2 at *
  generalize w5.heap.size = g5 at *
  generalize w6.heap.size = g6 at *
  have KT := Lib.hid (And.intro v6 (And.intro u6 (And.intro vF6 vX6)))
  have k1 := v6.1.cell
  have k2 := u6.1.cell
  have k5 := vF6.1.cell
  have k6 := vX6.1.cell
  have j1 := v6.1.lt
  have j2 := u6.1.lt
  have j5 := vF6.1.lt
  have j6 := vX6.1.lt
  clear v6 u6 vF6 vX6 vX
  refine wp_region_held_drew (S := fun wv => Below wq.heap.size wq.drew wv) (by kernel_rfl) (by exact Below.refl _ _) (fun hH0 => ?_)
  have kz : wq.heap.size ≤ wq.drew.heap.size ∧ wq.drew.heap.size ≤ wq.heap.size := ⟨Nat.le_refl _, Nat.le_refl _⟩
  have KQ := Lib.hid ((Below.refl wq.heap.size wq).drew)
  have k1 : wq.drew.cell? ⟨g1, 0, none⟩ = some (.slice D t.size c) := k1
  have k2 : wq.drew.cell? ⟨g2, 0, none⟩ = some (.slice D2 t.size c2) := k2
  have k5 : wq.drew.cell? ⟨g5, 0, none⟩ = some (.slice D5 t.size c5) := k5
  have k6 : wq.drew.cell? ⟨g6, 0, none⟩ = some (.slice D6 t.size c6) := k6
  generalize wq.drew = wy at *
  refine wpAnyH_take (i := 0) (oi := _) (v := .bool true) rfl (by kernel_rfl) (by kernel_rfl) (by kernel_rfl) (fun _ _ _ h => h) (Or.inl ⟨by rfl, ?_⟩) hH0 ?_
  · intro wv hSw
    try dsimp only at hSw
    go_simp
  change wpAnyH _ _ _ _ _ _ _ (Act.put _ (some 54) (.bool true)) _
  simp only [Act.put, List.setIfInBounds_toArray, List.set_cons_zero, List.set_cons_succ]
  refine wpAnyH_take (i := 1) (oi := _) (v := .bool true) rfl (by kernel_rfl) (by kernel_rfl) (by kernel_rfl) (fun _ _ _ h => h) (Or.inl ⟨by rfl, ?_⟩) hH0 ?_
  · intro wv hSw
    try dsimp only at hSw
    go_simp
  change wpAnyH _ _ _ _ _ _ _ (Act.put _ (some 55) (.bool true)) _
  simp only [Act.put, List.setIfInBounds_toArray, List.set_cons_zero, List.set_cons_succ]
  refine wpAnyH_take (i := 2) (oi := _) (v := .bool true) rfl (by kernel_rfl) (by kernel_rfl) (by kernel_rfl) (fun _ _ _ h => h) (Or.inl ⟨by rfl, ?_⟩) hH0 ?_
  · intro wv hSw
    try dsimp only at hSw
    go_simp
  change wpAnyH _ _ _ _ _ _ _ (Act.put _ (some 56) (.bool true)) _
  simp only [Act.put, List.setIfInBounds_toArray, List.set_cons_zero, List.set_cons_succ]
  refine wpAnyH_take (i := 3) (oi := _) (v := .bool true) rfl (by kernel_rfl) (by kernel_rfl) (by kernel_rfl) (fun _ _ _ h => h) (Or.inl ⟨by rfl, ?_⟩) hH0 ?_
  · intro wv hSw
    try dsimp only at hSw
    go_simp
  change wpAnyH _ _ _ _ _ _ _ (Act.put _ (some 57) (.bool true)) _
  simp only [Act.put, List.setIfInBounds_toArray, List.set_cons_zero, List.set_cons_succ]
  refine wpAnyH_take (i := 4) (oi := _) (v := .bool true) rfl (by kernel_rfl) (by kernel_rfl) (by kernel_rfl) (fun _ _ _ h => h) (Or.inl ⟨by rfl, ?_⟩) hH0 ?_
  · intro wv hSw
    try dsimp only at hSw
    go_simp
  change wpAnyH _ _ _ _ _ _ _ (Act.put _ (some 58) (.bool true)) _
  simp only [Act.put, List.setIfInBounds_toArray, List.set_cons_zero, List.set_cons_succ]
  refine wpAnyH_take (i := 5) (oi := _) (v := .bool true) rfl (by kernel_rfl) (by kernel_rfl) (by kernel_rfl) (fun _ _ _ h => h) (Or.inl ⟨by rfl, ?_⟩) hH0 ?_
  · intro wv hSw
    try dsimp only at hSw
    go_simp
  change wpAnyH _ _ _ _ _ _ _ (Act.put _ (some 59) (.bool true)) _
  simp only [Act.put, List.setIfInBounds_toArray, List.set_cons_zero, List.set_cons_succ]
  refine wpAnyH_take (i := 6) (oi := _) (v := .bool true) rfl (by kernel_rfl) (by kernel_rfl) (by kernel_rfl) (fun _ _ _ h => h) (Or.inl ⟨by rfl, ?_⟩) hH0 ?_
  · intro wv hSw
    try dsimp only at hSw
    go_simp
  change wpAnyH _ _ _ _ _ _ _ (Act.put _ (some 60) (.bool true)) _
  simp only [Act.put, List.setIfInBounds_toArray, List.set_cons_zero, List.set_cons_succ]
  refine wpAnyH_take (i := 7) (oi := _) (v := .bool true) rfl (by kernel_rfl) (by kernel_rfl) (by kernel_rfl) (fun _ _ _ h => h) (Or.inl ⟨by rfl, ?_⟩) hH0 ?_
  · intro wv hSw
    try dsimp only at hSw
    go_simp
  change wpAnyH _ _ _ _ _ _ _ (Act.put _ (some 61) (.bool true)) _
  simp only [Act.put, List.setIfInBounds_toArray, List.set_cons_zero, List.set_cons_succ]
  refine wpAnyH_take (i := 8) (oi := _) (v := .agg #[.slice D2 t.size c2]) rfl (by kernel_rfl) (by kernel_rfl) (by kernel_rfl) (fun _ _ _ h => h) (Or.inl ⟨by rfl, ?_⟩) hH0 ?_
  · intro wv hSw
    replace hSw : Below wq.heap.size wy wv := hSw
    have q := (hSw.cell (p := ⟨g2, 0, none⟩) (by simp; omega)).trans k2
    go_simp
  change wpAnyH _ _ _ _ _ _ _ (Act.put _ (some 62) (.agg #[.slice D2 t.size c2])) _
  simp only [Act.put, List.setIfInBounds_toArray, List.set_cons_zero, List.set_cons_succ]
  refine wpAnyH_take (i := 9) (oi := _) (v := .agg #[.slice D t.size c]) rfl (by kernel_rfl) (by kernel_rfl) (by kernel_rfl) (fun _ _ _ h => h) (Or.inl ⟨by rfl, ?_⟩) hH0 ?_
  · intro wv hSw
    replace hSw : Below wq.heap.size wy wv := hSw
    have q := (hSw.cell (p := ⟨g1, 0, none⟩) (by simp; omega)).trans k1
    go_simp
  change wpAnyH _ _ _ _ _ _ _ (Act.put _ (some 63) (.agg #[.slice D t.size c])) _
  simp only [Act.put, List.setIfInBounds_toArray, List.set_cons_zero, List.set_cons_succ]
  have kw0 := KQ.out
  refine wpAnyH_ready (rs := [10]) (by kernel_rfl) (by simp) ?_
  refine AllReadyH.cons (o := _) rfl (fun K hK => ?_) AllReadyH.nil
  go_simp
  refine (HS.out D2 c2 wy (KT.out.2.1.2.below KQ.out (Nat.le_refl _)) (KT.out.1.2.below KQ.out (Nat.le_refl _))).mono ?_
  rintro e wa ⟨rfl, hb⟩
  have ba : Below wq.heap.size wy wa := hb.mono kz.1
  clear hb
  refine hK.out _ _ (by exact ba) (fun hH1 => ?_)
  clear hK K
  try simp only [Act.put, List.setIfInBounds_toArray, List.set_cons_zero, List.set_cons_succ]
  refine wpAnyH_take (i := 11) (oi := _) (v := .bool true) rfl (by kernel_rfl) (by kernel_rfl) (by kernel_rfl) (fun _ _ _ h => h) (Or.inl ⟨by rfl, ?_⟩) hH1 ?_
  · intro wv hSw
    try dsimp only at hSw
    go_simp
  change wpAnyH _ _ _ _ _ _ _ (Act.put _ (some 65) (.bool true)) _
  simp only [Act.put, List.setIfInBounds_toArray, List.set_cons_zero, List.set_cons_succ]
  refine wpAnyH_take (i := 12) (oi := _) (v := .bool true) rfl (by kernel_rfl) (by kernel_rfl) (by kernel_rfl) (fun _ _ _ h => h) (Or.inl ⟨by rfl, ?_⟩) hH1 ?_
  · intro wv hSw
    try dsimp only at hSw
    go_simp
  change wpAnyH _ _ _ _ _ _ _ (Act.put _ (some 66) (.bool true)) _
  simp only [Act.put, List.setIfInBounds_toArray, List.set_cons_zero, List.set_cons_succ]
  refine wpAnyH_take (i := 13) (oi := _) (v := .agg #[.slice D5 t.size c5]) rfl (by kernel_rfl) (by kernel_rfl) (by kernel_rfl) (fun _ _ _ h => h) (Or.inl ⟨by rfl, ?_⟩) hH1 ?_
  · intro wv hSw
    replace hSw : Below wq.heap.size wy wv := hSw
    have q := (hSw.cell (p := ⟨g5, 0, none⟩) (by simp; omega)).trans k5
    go_simp
  change wpAnyH _ _ _ _ _ _ _ (Act.put _ (some 67) (.agg #[.slice D5 t.size c5])) _
  simp only [Act.put, List.setIfInBounds_toArray, List.set_cons_zero, List.set_cons_succ]
  refine wpAnyH_ready (rs := [14]) (by kernel_rfl) (by simp) ?_
  refine AllReadyH.cons (o := _) rfl (fun K hK => ?_) AllReadyH.nil
  go_simp
  refine (H3.out wa D5 c5 (KT.out.2.2.1.2.below (KQ.out.trans ba) (Nat.le_refl _))).mono ?_
  rintro e wb ⟨rfl, hb⟩
  have bb : Below wq.heap.size wy wb := ba.trans (hb.mono (Nat.le_trans kz.1 ba.size))
  clear hb
  refine hK.out _ _ (by exact bb) (fun hH2 => ?_)
  clear hK K
  try simp only [Act.put, List.setIfInBounds_toArray, List.set_cons_zero, List.set_cons_succ]
  refine wpAnyH_take (i := 15) (oi := _) (v := .bool true) rfl (by kernel_rfl) (by kernel_rfl) (by kernel_rfl) (fun _ _ _ h => h) (Or.inl ⟨by rfl, ?_⟩) hH2 ?_
  · intro wv hSw
    try dsimp only at hSw
    go_simp
  change wpAnyH _ _ _ _ _ _ _ (Act.put _ (some 69) (.bool true)) _
  simp only [Act.put, List.setIfInBounds_toArray, List.set_cons_zero, List.set_cons_succ]
  refine wpAnyH_take (i := 16) (oi := _) (v := .bool true) rfl (by kernel_rfl) (by kernel_rfl) (by kernel_rfl) (fun _ _ _ h => h) (Or.inl ⟨by rfl, ?_⟩) hH2 ?_
  · intro wv hSw
    try dsimp only at hSw
    go_simp
  change wpAnyH _ _ _ _ _ _ _ (Act.put _ (some 70) (.bool true)) _
  simp only [Act.put, List.setIfInBounds_toArray, List.set_cons_zero, List.set_cons_succ]
  refine wpAnyH_take (i := 17) (oi := _) (v := .agg #[.slice D5 t.size c5]) rfl (by kernel_rfl) (by kernel_rfl) (by kernel_rfl) (fun _ _ _ h => h) (Or.inl ⟨by rfl, ?_⟩) hH2 ?_
  · intro wv hSw
    replace hSw : Below wq.heap.size wy wv := hSw
    have q := (hSw.cell (p := ⟨g5, 0, none⟩) (by simp; omega)).trans k5
    go_simp
  change wpAnyH _ _ _ _ _ _ _ (Act.put _ (some 71) (.agg #[.slice D5 t.size c5])) _
  simp only [Act.put, List.setIfInBounds_toArray, List.set_cons_zero, List.set_cons_succ]
  refine wpAnyH_take (i := 19) (oi := _) (v := .agg #[.slice D t.size c]) rfl (by kernel_rfl) (by kernel_rfl) (by kernel_rfl) (fun _ _ _ h => h) (Or.inl ⟨by rfl, ?_⟩) hH2 ?_
  · intro wv hSw
    replace hSw : Below wq.heap.size wy wv := hSw
    have q := (hSw.cell (p := ⟨g1, 0, none⟩) (by simp; omega)).trans k1
    go_simp
  change wpAnyH _ _ _ _ _ _ _ (Act.put _ (some 73) (.agg #[.slice D t.size c])) _
  simp only [Act.put, List.setIfInBounds_toArray, List.set_cons_zero, List.set_cons_succ]
  refine wpAnyH_ready (rs := [18]) (by kernel_rfl) (by simp) ?_
  refine AllReadyH.cons (o := _) rfl (fun K hK => ?_) AllReadyH.nil
  go_simp
  refine (H4.out wb D5 c5 (KT.out.2.2.1.2.below (KQ.out.trans bb) (Nat.le_refl _))).mono ?_
  intro e wc hc9
  obtain ⟨E1, e1, rfl, tE1, hb⟩ := OwnP.lit hc9 (n := t.panes.length) rfl
  clear hc9
  have bc : Below wq.heap.size wy wc := bb.trans (hb.mono (Nat.le_trans kz.1 bb.size))
  clear hb
  have HE1 := Lib.hid tE1
  clear tE1
  refine hK.out _ _ (by exact bc) (fun hH3 => ?_)
  clear hK K
  try simp only [Act.put, List.setIfInBounds_toArray, List.set_cons_zero, List.set_cons_succ]
  refine wpAnyH_ready (rs := [20]) (by kernel_rfl) (by simp) ?_
  refine AllReadyH.cons (o := _) rfl (fun K hK => ?_) AllReadyH.nil
  go_simp
  refine (HPn.out wc (KT.out.1.2.below (KQ.out.trans bc) (Nat.le_refl _))).mono ?_
  intro e wd hc9
  obtain ⟨E2, e2, rfl, tE2, hb⟩ := OwnP.lit hc9 (n := t.panes.length) rfl
  clear hc9
  have bd : Below wq.heap.size wy wd := bc.trans (hb.mono (Nat.le_trans kz.1 bc.size))
  have HE1d := Lib.hid (HE1.out.below hb (Nat.le_refl _))
  clear hb
  have HE2 := Lib.hid tE2
  clear tE2
  refine hK.out _ _ (by exact bd) (fun hH4 => ?_)
  clear hK K
  try simp only [Act.put, List.setIfInBounds_toArray, List.set_cons_zero, List.set_cons_succ]
  refine wpAnyH_ready (rs := [21]) (by kernel_rfl) (by simp) ?_
  refine AllReadyH.cons (o := _) rfl (fun K hK => ?_) AllReadyH.nil
  go_simp
  refine (sameInts_any t.panes E1 E2 e1 e2 0 0 wd HE1d.out HE2.out (by omega)).mono ?_
  intro e we hc9
  have hb := hc9.below
  obtain ⟨rfl, _⟩ := hc9
  have be : Below wq.heap.size wy we := bd.trans (hb.mono (Nat.le_trans kz.1 bd.size))
  clear hb
  refine hK.out _ _ (by exact be) (fun hH5 => ?_)
  clear hK K
  try simp only [Act.put, List.setIfInBounds_toArray, List.set_cons_zero, List.set_cons_succ]
  refine wpAnyH_take (i := 22) (oi := _) (v := .bool true) rfl (by kernel_rfl) (by kernel_rfl) (by kernel_rfl) (fun _ _ _ h => h) (Or.inl ⟨by rfl, ?_⟩) hH5 ?_
  · intro wv hSw
    try dsimp only at hSw
    go_simp
  change wpAnyH _ _ _ _ _ _ _ (Act.put _ (some 76) (.bool true)) _
  simp only [Act.put, List.setIfInBounds_toArray, List.set_cons_zero, List.set_cons_succ]
  refine wpAnyH_take (i := 23) (oi := _) (v := .bool true) rfl (by kernel_rfl) (by kernel_rfl) (by kernel_rfl) (fun _ _ _ h => h) (Or.inl ⟨by rfl, ?_⟩) hH5 ?_
  · intro wv hSw
    try dsimp only at hSw
    go_simp
  change wpAnyH _ _ _ _ _ _ _ (Act.put _ (some 77) (.bool true)) _
  simp only [Act.put, List.setIfInBounds_toArray, List.set_cons_zero, List.set_cons_succ]
  refine wpAnyH_take (i := 24) (oi := _) (v := .pointer (some ⟨g6, 0, none⟩)) rfl (by kernel_rfl) (by kernel_rfl) (by kernel_rfl) (fun _ _ _ h => h) (Or.inl ⟨by rfl, ?_⟩) hH5 ?_
  · intro wv hSw
    try dsimp only at hSw
    go_simp
  change wpAnyH _ _ _ _ _ _ _ (Act.put _ (some 78) (.pointer (some ⟨g6, 0, none⟩))) _
  simp only [Act.put, List.setIfInBounds_toArray, List.set_cons_zero, List.set_cons_succ]
  refine wpAnyH_take (i := 25) (oi := _) (v := .slice D6 t.size c6) rfl (by kernel_rfl) (by kernel_rfl) (by kernel_rfl) (fun _ _ _ h => h) (Or.inl ⟨by rfl, ?_⟩) hH5 ?_
  · intro wv hSw
    replace hSw : Below wq.heap.size wy wv := hSw
    have q := (hSw.cell (p := ⟨g6, 0, none⟩) (by simp; omega)).trans k6
    go_simp
  change wpAnyH _ _ _ _ _ _ _ (Act.put _ (some 79) (.slice D6 t.size c6)) _
  simp only [Act.put, List.setIfInBounds_toArray, List.set_cons_zero, List.set_cons_succ]
  refine wpAnyH_take (i := 26) (oi := _) (v := .int .i64 (t.size : Int)) rfl (by kernel_rfl) (by kernel_rfl) (by kernel_rfl) (fun _ _ _ h => h) (Or.inl ⟨by rfl, ?_⟩) hH5 ?_
  · intro wv hSw
    try dsimp only at hSw
    go_simp
  change wpAnyH _ _ _ _ _ _ _ (Act.put _ (some 80) (.int .i64 (t.size : Int))) _
  simp only [Act.put, List.setIfInBounds_toArray, List.set_cons_zero, List.set_cons_succ]
  refine wpAnyH_take (i := 27) (oi := _) (v := .pointer (some ⟨g1, 0, none⟩)) rfl (by kernel_rfl) (by kernel_rfl) (by kernel_rfl) (fun _ _ _ h => h) (Or.inl ⟨by rfl, ?_⟩) hH5 ?_
  · intro wv hSw
    try dsimp only at hSw
    go_simp
  change wpAnyH _ _ _ _ _ _ _ (Act.put _ (some 81) (.pointer (some ⟨g1, 0, none⟩))) _
  simp only [Act.put, List.setIfInBounds_toArray, List.set_cons_zero, List.set_cons_succ]
  refine wpAnyH_take (i := 28) (oi := _) (v := .slice D t.size c) rfl (by kernel_rfl) (by kernel_rfl) (by kernel_rfl) (fun _ _ _ h => h) (Or.inl ⟨by rfl, ?_⟩) hH5 ?_
  · intro wv hSw
    replace hSw : Below wq.heap.size wy wv := hSw
    have q := (hSw.cell (p := ⟨g1, 0, none⟩) (by simp; omega)).trans k1
    go_simp
  change wpAnyH _ _ _ _ _ _ _ (Act.put _ (some 82) (.slice D t.size c)) _
  simp only [Act.put, List.setIfInBounds_toArray, List.set_cons_zero, List.set_cons_succ]
  refine wpAnyH_take (i := 29) (oi := _) (v := .int .i64 (t.size : Int)) rfl (by kernel_rfl) (by kernel_rfl) (by kernel_rfl) (fun _ _ _ h => h) (Or.inl ⟨by rfl, ?_⟩) hH5 ?_
  · intro wv hSw
    try dsimp only at hSw
    go_simp
  change wpAnyH _ _ _ _ _ _ _ (Act.put _ (some 83) (.int .i64 (t.size : Int))) _
  simp only [Act.put, List.setIfInBounds_toArray, List.set_cons_zero, List.set_cons_succ]
  refine wpAnyH_take (i := 30) (oi := _) (v := .bool true) rfl (by kernel_rfl) (by kernel_rfl) (by kernel_rfl) (fun _ _ _ h => h) (Or.inl ⟨by rfl, ?_⟩) hH5 ?_
  · intro wv hSw
    try dsimp only at hSw
    go_simp
  change wpAnyH _ _ _ _ _ _ _ (Act.put _ (some 84) (.bool true)) _
  simp only [Act.put, List.setIfInBounds_toArray, List.set_cons_zero, List.set_cons_succ]
  refine wpAnyH_take (i := 31) (oi := _) (v := .bool true) rfl (by kernel_rfl) (by kernel_rfl) (by kernel_rfl) (fun _ _ _ h => h) (Or.inl ⟨by rfl, ?_⟩) hH5 ?_
  · intro wv hSw
    try dsimp only at hSw
    go_simp
  change wpAnyH _ _ _ _ _ _ _ (Act.put _ (some 85) (.bool true)) _
  simp only [Act.put, List.setIfInBounds_toArray, List.set_cons_zero, List.set_cons_succ]
  refine wpAnyH_take (i := 32) (oi := _) (v := .bool true) rfl (by kernel_rfl) (by kernel_rfl) (by kernel_rfl) (fun _ _ _ h => h) (Or.inl ⟨by rfl, ?_⟩) hH5 ?_
  · intro wv hSw
    try dsimp only at hSw
    go_simp
  change wpAnyH _ _ _ _ _ _ _ (Act.put _ (some 86) (.bool true)) _
  simp only [Act.put, List.setIfInBounds_toArray, List.set_cons_zero, List.set_cons_succ]
  refine wpAnyH_ready (rs := [33]) (by kernel_rfl) (by simp) ?_
  refine AllReadyH.cons (o := _) rfl (fun K hK => ?_) AllReadyH.nil
  go_simp
  refine (awake_any _).mono ?_
  rintro e wf ⟨rfl, hb⟩
  have bf : Below wq.heap.size wy wf := be.trans (hb.mono (Nat.le_trans kz.1 be.size))
  clear hb
  refine hK.out _ _ (by exact bf) (fun hH6 => ?_)
  clear hK K
  try simp only [Act.put, List.setIfInBounds_toArray, List.set_cons_zero, List.set_cons_succ]
  refine wpAnyH_take (i := 34) (oi := _) (v := .bool true) rfl (by kernel_rfl) (by kernel_rfl) (by kernel_rfl) (fun _ _ _ h => h) (Or.inl ⟨by rfl, ?_⟩) hH6 ?_
  · intro wv hSw
    try dsimp only at hSw
    go_simp
  change wpAnyH _ _ _ _ _ _ _ (Act.put _ (some 88) (.bool true)) _
  simp only [Act.put, List.setIfInBounds_toArray, List.set_cons_zero, List.set_cons_succ]
  refine wpAnyH_take (i := 35) (oi := _) (v := .bool true) rfl (by kernel_rfl) (by kernel_rfl) (by kernel_rfl) (fun _ _ _ h => h) (Or.inl ⟨by rfl, ?_⟩) hH6 ?_
  · intro wv hSw
    try dsimp only at hSw
    go_simp
  change wpAnyH _ _ _ _ _ _ _ (Act.put _ (some 6) (.bool true)) _
  simp only [Act.put, List.setIfInBounds_toArray, List.set_cons_zero, List.set_cons_succ]
  refine wpAnyH_done (by kernel_rfl) ?_ _
  have bz := b6.out.trans ((KQ.out.trans bf).mono b6.out.size)
  go_wp2_with fail
  go_ret
  exact ⟨rfl, bz⟩
end Go.Proofs.Ytojgmofpgefonaa
