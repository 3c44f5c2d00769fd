/-
  The walk of TreeForms. No condition.
-/
import Derived.Test.YtojgmofpgefonaaFTab
import Derived.Test.YtojgmofpgefonaaB7
import Derived.Deep.DeepCutAuto
namespace Go.Proofs.Ytojgmofpgefonaa
open Go.RowKit
set_option linter.unusedSimpArgs false
set_option linter.unusedVariables false
set_option maxRecDepth 100000

theorem below_new2 (w : World) (o o' : Obj) : Below w.heap.size w ((w.alloc o).alloc o') := (below_new w o).alloc (by simp) o'
set_option maxHeartbeats 16000000 in
theorem forms_any (n : Int) (w : World) : Calls Try.prog 3 #[.int .i64 n] w (TrueB w) := by
  go_enter Try.func3, Try.ntmps3
  go_upto_region 3 with fail
  go_cut [5] (FTabRel w)
  case first =>
    go_wp2_with (first | (refine (cl_leaf _ _).mono ?_; rintro e w' ⟨rfl, rfl⟩) | (refine (cl_cut _ _ _ _ _).mono ?_; rintro e w' ⟨rfl, rfl⟩))
    go_meet
    exact ftab_mk w
  case rest =>
    obtain ⟨g, rfl, hb0, hall, hg, hfr⟩ := hcut
    have hmk := i64_and255 n
    obtain ⟨q, hq, q1⟩ := gmask255 n
    have r1 := tmod_nat q 21
    have q2 : q % 21 < 21 := Nat.mod_lt _ (by decide)
    obtain ⟨l, ok, D, c, c0, c1, htb, hl, hk⟩ := hall (q % 21) q2
    clear hall hmk
    generalize q % 21 = ix at *
    have HTb0 := Lib.hid htb
    have HB0 := Lib.hid hb0
    have HK := Lib.hid hk
    clear htb hb0 hk
    have r2 : Int.tmod (q : Int) 21 = (ix : Int) := r1
    clear r1
    go_upto_region 6 with (first | rw [q1] | rw [r2])
    clear c0 c1 hg hfr q1 r2
    rcases HK.out with ⟨rfl, t, ht⟩ | ⟨rfl, ht⟩
    · skip
      have HL := Lib.hid (fun w' h => least_any l t D c 0 w' h ht)
      have HP := Lib.hid (fun w' h => panesT l t ht D c 0 w' h)
      have HO := Lib.hid (fun w' h => ok_any l D c 0 w' h (by omega))
      rw [ht.treeF] at HO
      obtain ⟨np, hnp⟩ : ∃ np, t.panes.length = np := ⟨_, rfl⟩
      have hnp0 : 0 < np := by have := t.panes_size; have := t.size_pos; omega
      have hgt : decide ((np : Int) > 0) = true := by simp; omega
      obtain ⟨lw, hlw⟩ : ∃ lw, t.lw = lw := ⟨_, rfl⟩
      obtain ⟨lh, hlh⟩ : ∃ lh, t.lh = lh := ⟨_, rfl⟩
      have hw1 : 0 < lw := by have := t.lw_ok.1; omega
      have hh1 : 0 < lh := by have := t.lh_ok.1; omega
      rw [hlw, hlh] at HL
      clear ht
      go_wp2_with fail
      refine (HL.out _ (HTb0.out.below (below_new2 wc _ _) (Nat.le_refl _))).mono ?_
      rintro x wq ⟨rfl, h3⟩
      have X0 := Held.alloc (Held.new wc 27 #[.slice D l.length c, .bool true]) (.cells #[.slice D l.length c] 30)
      have T0 : Held ((wc.alloc (.cells #[.slice D l.length c, .bool true] 27)).alloc (.cells #[.slice D l.length c] 30)) (wc.heap.size + 1) 30 #[.slice D l.length c] := by
        have := Held.new (wc.alloc (.cells #[.slice D l.length c, .bool true] 27)) 30 #[.slice D l.length c]
        rw [World.size_alloc] at this
        exact this
      have X3 := X0.below h3 X0.lt
      have T3 := T0.below h3 T0.lt
      have z3 := (below_new2 wc (.cells #[.slice D l.length c, .bool true] 27) (.cells #[.slice D l.length c] 30)).trans (h3.mono (by simp; omega))
      have b3 := Lib.hid (HB0.out.trans (z3.mono HB0.out.size))
      have HTb := Lib.hid (HTb0.out.below z3 (Nat.le_refl _))
      have k1 : wq.cell? ⟨wc.heap.size + 1, 0, none⟩ = some (.slice D l.length c) := T3.cell 0
      have k2 : wq.cell? ⟨wc.heap.size, 1, none⟩ = some (.bool true) := X3.cell 1
      have j1 := T3.lt
      have j2 := X3.lt
      clear X0 T0 X3 T3 z3 h3 HTb0
      go_upto_region 7 with fail
      generalize wc.heap.size + 1 = gt at *
      generalize wc.heap.size = gx at *
      refine wp_region_held_drew (S := fun wv => Below wq.heap.size wq.drew wv) (by kernel_rfl) (by exact Below.refl _ _) (fun hH0 => ?_)
      have kz : wq.heap.size ≤ wq.drew.heap.size ∧ wq.drew.heap.size ≤ wq.heap.size := ⟨Nat.le_refl _, Nat.le_refl _⟩
      have KQ := Lib.hid ((Below.refl wq.heap.size wq).drew)
      have k1 : wq.drew.cell? ⟨gt, 0, none⟩ = some (.slice D l.length c) := k1
      have k2 : wq.drew.cell? ⟨gx, 1, none⟩ = some (.bool true) := k2
      generalize wq.drew = wy at *
      refine wpAnyH_take (i := 0) (oi := _) (v := .agg #[.slice D l.length c]) rfl (by kernel_rfl) (by kernel_rfl) (by kernel_rfl) (fun _ _ _ h => h) (Or.inl ⟨by rfl, ?_⟩) hH0 ?_
      · intro wv hSw
        replace hSw : Below wq.heap.size wy wv := hSw
        have q := (hSw.cell (p := ⟨gt, 0, none⟩) (by simp; omega)).trans k1
        go_simp
      change wpAnyH _ _ _ _ _ _ _ (Act.put _ (some 174) (.agg #[.slice D l.length c])) _
      simp only [Act.put, List.setIfInBounds_toArray, List.set_cons_zero, List.set_cons_succ]
      refine wpAnyH_take (i := 2) (oi := _) (v := .pointer (some ⟨gx, 1, none⟩)) rfl (by kernel_rfl) (by kernel_rfl) (by kernel_rfl) (fun _ _ _ h => h) (Or.inl ⟨by rfl, ?_⟩) hH0 ?_
      · intro wv hSw
        try dsimp only at hSw
        go_simp
      change wpAnyH _ _ _ _ _ _ _ (Act.put _ (some 176) (.pointer (some ⟨gx, 1, none⟩))) _
      simp only [Act.put, List.setIfInBounds_toArray, List.set_cons_zero, List.set_cons_succ]
      refine wpAnyH_take (i := 3) (oi := _) (v := .bool true) rfl (by kernel_rfl) (by kernel_rfl) (by kernel_rfl) (fun _ _ _ h => h) (Or.inl ⟨by rfl, ?_⟩) hH0 ?_
      · intro wv hSw
        replace hSw : Below wq.heap.size wy wv := hSw
        have q := (hSw.cell (p := ⟨gx, 1, none⟩) (by simp; omega)).trans k2
        go_simp
      change wpAnyH _ _ _ _ _ _ _ (Act.put _ (some 177) (.bool true)) _
      simp only [Act.put, List.setIfInBounds_toArray, List.set_cons_zero, List.set_cons_succ]
      refine wpAnyH_ready (rs := [1]) (by kernel_rfl) (by simp) ?_
      refine AllReadyH.cons (o := _) rfl (fun K hK => ?_) AllReadyH.nil
      go_simp
      refine (HO.out wy (HTb.out.below KQ.out (Nat.le_refl _))).mono ?_
      rintro e wa ⟨rfl, hb⟩
      have ba : Below wq.heap.size wy wa := hb.mono kz.1
      clear hb
      refine hK.out _ _ (by exact ba) (fun hH1 => ?_)
      clear hK K
      try simp only [Act.put, List.setIfInBounds_toArray, List.set_cons_zero, List.set_cons_succ]
      refine wpAnyH_take (i := 4) (oi := _) (v := .bool true) rfl (by kernel_rfl) (by kernel_rfl) (by kernel_rfl) (fun _ _ _ h => h) (Or.inl ⟨by rfl, ?_⟩) hH1 ?_
      · intro wv hSw
        try dsimp only at hSw
        go_simp
      change wpAnyH _ _ _ _ _ _ _ (Act.put _ (some 178) (.bool true)) _
      simp only [Act.put, List.setIfInBounds_toArray, List.set_cons_zero, List.set_cons_succ]
      refine wpAnyH_take (i := 5) (oi := _) (v := .bool true) rfl (by kernel_rfl) (by kernel_rfl) (by kernel_rfl) (fun _ _ _ h => h) (Or.inl ⟨by rfl, ?_⟩) hH1 ?_
      · intro wv hSw
        try dsimp only at hSw
        go_simp
      change wpAnyH _ _ _ _ _ _ _ (Act.put _ (some 179) (.bool true)) _
      simp only [Act.put, List.setIfInBounds_toArray, List.set_cons_zero, List.set_cons_succ]
      refine wpAnyH_take (i := 6) (oi := _) (v := .agg #[.slice D l.length c]) rfl (by kernel_rfl) (by kernel_rfl) (by kernel_rfl) (fun _ _ _ h => h) (Or.inl ⟨by rfl, ?_⟩) hH1 ?_
      · intro wv hSw
        replace hSw : Below wq.heap.size wy wv := hSw
        have q := (hSw.cell (p := ⟨gt, 0, none⟩) (by simp; omega)).trans k1
        go_simp
      change wpAnyH _ _ _ _ _ _ _ (Act.put _ (some 180) (.agg #[.slice D l.length c])) _
      simp only [Act.put, List.setIfInBounds_toArray, List.set_cons_zero, List.set_cons_succ]
      refine wpAnyH_take (i := 10) (oi := _) (v := .pointer (some ⟨gx, 1, none⟩)) rfl (by kernel_rfl) (by kernel_rfl) (by kernel_rfl) (fun _ _ _ h => h) (Or.inl ⟨by rfl, ?_⟩) hH1 ?_
      · intro wv hSw
        try dsimp only at hSw
        go_simp
      change wpAnyH _ _ _ _ _ _ _ (Act.put _ (some 184) (.pointer (some ⟨gx, 1, none⟩))) _
      simp only [Act.put, List.setIfInBounds_toArray, List.set_cons_zero, List.set_cons_succ]
      refine wpAnyH_take (i := 11) (oi := _) (v := .bool true) rfl (by kernel_rfl) (by kernel_rfl) (by kernel_rfl) (fun _ _ _ h => h) (Or.inl ⟨by rfl, ?_⟩) hH1 ?_
      · intro wv hSw
        replace hSw : Below wq.heap.size wy wv := hSw
        have q := (hSw.cell (p := ⟨gx, 1, none⟩) (by simp; omega)).trans k2
        go_simp
      change wpAnyH _ _ _ _ _ _ _ (Act.put _ (some 185) (.bool true)) _
      simp only [Act.put, List.setIfInBounds_toArray, List.set_cons_zero, List.set_cons_succ]
      refine wpAnyH_ready (rs := [7]) (by kernel_rfl) (by simp) ?_
      refine AllReadyH.cons (o := _) rfl (fun K hK => ?_) AllReadyH.nil
      go_simp
      refine (HP.out wa (HTb.out.below (KQ.out.trans ba) (Nat.le_refl _))).mono ?_
      intro e wb hc9
      obtain ⟨E1, e1, rfl, tE1, hb⟩ := OwnP.lit hc9 (n := np) hnp
      clear hc9 tE1
      have bb : Below wq.heap.size wy wb := ba.trans (hb.mono (Nat.le_trans kz.1 ba.size))
      clear hb
      refine hK.out _ _ (by exact bb) (fun hH2 => ?_)
      clear hK K
      try simp only [Act.put, List.setIfInBounds_toArray, List.set_cons_zero, List.set_cons_succ]
      refine wpAnyH_take (i := 8) (oi := _) (v := .int .i64 (np : Int)) rfl (by kernel_rfl) (by kernel_rfl) (by kernel_rfl) (fun _ _ _ h => h) (Or.inl ⟨by rfl, ?_⟩) hH2 ?_
      · intro wv hSw
        try dsimp only at hSw
        go_simp
      change wpAnyH _ _ _ _ _ _ _ (Act.put _ (some 182) (.int .i64 (np : Int))) _
      simp only [Act.put, List.setIfInBounds_toArray, List.set_cons_zero, List.set_cons_succ]
      refine wpAnyH_take (i := 9) (oi := _) (v := .bool true) rfl (by kernel_rfl) (by kernel_rfl) (by kernel_rfl) (fun _ _ _ h => h) (Or.inl ⟨by rfl, ?_⟩) hH2 ?_
      · intro wv hSw
        try dsimp only at hSw
        go_simp
      change wpAnyH _ _ _ _ _ _ _ (Act.put _ (some 183) (.bool true)) _
      simp only [Act.put, List.setIfInBounds_toArray, List.set_cons_zero, List.set_cons_succ]
      refine wpAnyH_take (i := 12) (oi := _) (v := .bool true) rfl (by kernel_rfl) (by kernel_rfl) (by kernel_rfl) (fun _ _ _ h => h) (Or.inl ⟨by rfl, ?_⟩) hH2 ?_
      · intro wv hSw
        try dsimp only at hSw
        go_simp
      change wpAnyH _ _ _ _ _ _ _ (Act.put _ (some 186) (.bool true)) _
      simp only [Act.put, List.setIfInBounds_toArray, List.set_cons_zero, List.set_cons_succ]
      refine wpAnyH_take (i := 13) (oi := _) (v := .bool true) rfl (by kernel_rfl) (by kernel_rfl) (by kernel_rfl) (fun _ _ _ h => h) (Or.inl ⟨by rfl, ?_⟩) hH2 ?_
      · intro wv hSw
        try dsimp only at hSw
        go_simp
      change wpAnyH _ _ _ _ _ _ _ (Act.put _ (some 187) (.bool true)) _
      simp only [Act.put, List.setIfInBounds_toArray, List.set_cons_zero, List.set_cons_succ]
      refine wpAnyH_take (i := 14) (oi := _) (v := .bool true) rfl (by kernel_rfl) (by kernel_rfl) (by kernel_rfl) (fun _ _ _ h => h) (Or.inl ⟨by rfl, ?_⟩) hH2 ?_
      · intro wv hSw
        try dsimp only at hSw
        go_simp
      change wpAnyH _ _ _ _ _ _ _ (Act.put _ (some 188) (.bool true)) _
      simp only [Act.put, List.setIfInBounds_toArray, List.set_cons_zero, List.set_cons_succ]
      refine wpAnyH_take (i := 15) (oi := _) (v := .int .i64 lw) rfl (by kernel_rfl) (by kernel_rfl) (by kernel_rfl) (fun _ _ _ h => h) (Or.inl ⟨by rfl, ?_⟩) hH2 ?_
      · intro wv hSw
        try dsimp only at hSw
        go_simp
      change wpAnyH _ _ _ _ _ _ _ (Act.put _ (some 189) (.int .i64 lw)) _
      simp only [Act.put, List.setIfInBounds_toArray, List.set_cons_zero, List.set_cons_succ]
      refine wpAnyH_take (i := 16) (oi := _) (v := .bool true) rfl (by kernel_rfl) (by kernel_rfl) (by kernel_rfl) (fun _ _ _ h => h) (Or.inl ⟨by rfl, ?_⟩) hH2 ?_
      · intro wv hSw
        try dsimp only at hSw
        go_simp
      change wpAnyH _ _ _ _ _ _ _ (Act.put _ (some 190) (.bool true)) _
      simp only [Act.put, List.setIfInBounds_toArray, List.set_cons_zero, List.set_cons_succ]
      refine wpAnyH_take (i := 17) (oi := _) (v := .bool true) rfl (by kernel_rfl) (by kernel_rfl) (by kernel_rfl) (fun _ _ _ h => h) (Or.inl ⟨by rfl, ?_⟩) hH2 ?_
      · intro wv hSw
        try dsimp only at hSw
        go_simp
      change wpAnyH _ _ _ _ _ _ _ (Act.put _ (some 191) (.bool true)) _
      simp only [Act.put, List.setIfInBounds_toArray, List.set_cons_zero, List.set_cons_succ]
      refine wpAnyH_take (i := 18) (oi := _) (v := .int .i64 lh) rfl (by kernel_rfl) (by kernel_rfl) (by kernel_rfl) (fun _ _ _ h => h) (Or.inl ⟨by rfl, ?_⟩) hH2 ?_
      · intro wv hSw
        try dsimp only at hSw
        go_simp
      change wpAnyH _ _ _ _ _ _ _ (Act.put _ (some 192) (.int .i64 lh)) _
      simp only [Act.put, List.setIfInBounds_toArray, List.set_cons_zero, List.set_cons_succ]
      refine wpAnyH_take (i := 19) (oi := _) (v := .bool true) rfl (by kernel_rfl) (by kernel_rfl) (by kernel_rfl) (fun _ _ _ h => h) (Or.inl ⟨by rfl, ?_⟩) hH2 ?_
      · intro wv hSw
        try dsimp only at hSw
        go_simp
      change wpAnyH _ _ _ _ _ _ _ (Act.put _ (some 193) (.bool true)) _
      simp only [Act.put, List.setIfInBounds_toArray, List.set_cons_zero, List.set_cons_succ]
      refine wpAnyH_take (i := 20) (oi := _) (v := .bool true) rfl (by kernel_rfl) (by kernel_rfl) (by kernel_rfl) (fun _ _ _ h => h) (Or.inl ⟨by rfl, ?_⟩) hH2 ?_
      · intro wv hSw
        try dsimp only at hSw
        go_simp
      change wpAnyH _ _ _ _ _ _ _ (Act.put _ (some 194) (.bool true)) _
      simp only [Act.put, List.setIfInBounds_toArray, List.set_cons_zero, List.set_cons_succ]
      refine wpAnyH_take (i := 21) (oi := _) (v := .pointer (some ⟨gx, 1, none⟩)) rfl (by kernel_rfl) (by kernel_rfl) (by kernel_rfl) (fun _ _ _ h => h) (Or.inl ⟨by rfl, ?_⟩) hH2 ?_
      · intro wv hSw
        try dsimp only at hSw
        go_simp
      change wpAnyH _ _ _ _ _ _ _ (Act.put _ (some 195) (.pointer (some ⟨gx, 1, none⟩))) _
      simp only [Act.put, List.setIfInBounds_toArray, List.set_cons_zero, List.set_cons_succ]
      refine wpAnyH_take (i := 22) (oi := _) (v := .bool true) rfl (by kernel_rfl) (by kernel_rfl) (by kernel_rfl) (fun _ _ _ h => h) (Or.inl ⟨by rfl, ?_⟩) hH2 ?_
      · intro wv hSw
        replace hSw : Below wq.heap.size wy wv := hSw
        have q := (hSw.cell (p := ⟨gx, 1, none⟩) (by simp; omega)).trans k2
        go_simp
      change wpAnyH _ _ _ _ _ _ _ (Act.put _ (some 196) (.bool true)) _
      simp only [Act.put, List.setIfInBounds_toArray, List.set_cons_zero, List.set_cons_succ]
      refine wpAnyH_take (i := 23) (oi := _) (v := .bool true) rfl (by kernel_rfl) (by kernel_rfl) (by kernel_rfl) (fun _ _ _ h => h) (Or.inl ⟨by rfl, ?_⟩) hH2 ?_
      · intro wv hSw
        try dsimp only at hSw
        go_simp
      change wpAnyH _ _ _ _ _ _ _ (Act.put _ (some 197) (.bool true)) _
      simp only [Act.put, List.setIfInBounds_toArray, List.set_cons_zero, List.set_cons_succ]
      refine wpAnyH_take (i := 24) (oi := _) (v := .bool true) rfl (by kernel_rfl) (by kernel_rfl) (by kernel_rfl) (fun _ _ _ h => h) (Or.inl ⟨by rfl, ?_⟩) hH2 ?_
      · intro wv hSw
        try dsimp only at hSw
        go_simp
      change wpAnyH _ _ _ _ _ _ _ (Act.put _ (some 198) (.bool true)) _
      simp only [Act.put, List.setIfInBounds_toArray, List.set_cons_zero, List.set_cons_succ]
      refine wpAnyH_take (i := 25) (oi := _) (v := .bool true) rfl (by kernel_rfl) (by kernel_rfl) (by kernel_rfl) (fun _ _ _ h => h) (Or.inl ⟨by rfl, ?_⟩) hH2 ?_
      · intro wv hSw
        try dsimp only at hSw
        go_simp
      change wpAnyH _ _ _ _ _ _ _ (Act.put _ (some 199) (.bool true)) _
      simp only [Act.put, List.setIfInBounds_toArray, List.set_cons_zero, List.set_cons_succ]
      refine wpAnyH_ready (rs := [26]) (by kernel_rfl) (by simp) ?_
      refine AllReadyH.cons (o := _) rfl (fun K hK => ?_) AllReadyH.nil
      go_simp
      refine (awake_any _).mono ?_
      rintro e wf ⟨rfl, hb⟩
      have bf : Below wq.heap.size wy wf := bb.trans (hb.mono (Nat.le_trans kz.1 bb.size))
      clear hb
      refine hK.out _ _ (by exact bf) (fun hH3 => ?_)
      clear hK K
      try simp only [Act.put, List.setIfInBounds_toArray, List.set_cons_zero, List.set_cons_succ]
      refine wpAnyH_take (i := 27) (oi := _) (v := .bool true) rfl (by kernel_rfl) (by kernel_rfl) (by kernel_rfl) (fun _ _ _ h => h) (Or.inl ⟨by rfl, ?_⟩) hH3 ?_
      · intro wv hSw
        try dsimp only at hSw
        go_simp
      change wpAnyH _ _ _ _ _ _ _ (Act.put _ (some 201) (.bool true)) _
      simp only [Act.put, List.setIfInBounds_toArray, List.set_cons_zero, List.set_cons_succ]
      refine wpAnyH_take (i := 28) (oi := _) (v := .bool true) rfl (by kernel_rfl) (by kernel_rfl) (by kernel_rfl) (fun _ _ _ h => h) (Or.inl ⟨by rfl, ?_⟩) hH3 ?_
      · intro wv hSw
        try dsimp only at hSw
        go_simp
      change wpAnyH _ _ _ _ _ _ _ (Act.put _ (some 2) (.bool true)) _
      simp only [Act.put, List.setIfInBounds_toArray, List.set_cons_zero, List.set_cons_succ]
      refine wpAnyH_done (by kernel_rfl) ?_ _
      have bz := b3.out.trans ((KQ.out.trans bf).mono b3.out.size)
      go_wp2_with fail
      go_ret
      exact ⟨rfl, bz⟩
    · skip
      have HL := Lib.hid (fun w' h => least_no l D c 0 w' h (by omega) ht)
      have HP := Lib.hid (fun w' h => panes_any l D c 0 w' h (by omega))
      have HO := Lib.hid (fun w' h => ok_any l D c 0 w' h (by omega))
      rw [ht] at HO HP
      rw [if_neg (by decide)] at HP
      clear ht
      go_wp2_with fail
      refine (HL.out _ (HTb0.out.below (below_new2 wc _ _) (Nat.le_refl _))).mono ?_
      rintro x wq ⟨rfl, h3⟩
      have X0 := Held.alloc (Held.new wc 27 #[.slice D l.length c, .bool false]) (.cells #[.slice D l.length c] 30)
      have T0 : Held ((wc.alloc (.cells #[.slice D l.length c, .bool false] 27)).alloc (.cells #[.slice D l.length c] 30)) (wc.heap.size + 1) 30 #[.slice D l.length c] := by
        have := Held.new (wc.alloc (.cells #[.slice D l.length c, .bool false] 27)) 30 #[.slice D l.length c]
        rw [World.size_alloc] at this
        exact this
      have X3 := X0.below h3 X0.lt
      have T3 := T0.below h3 T0.lt
      have z3 := (below_new2 wc (.cells #[.slice D l.length c, .bool false] 27) (.cells #[.slice D l.length c] 30)).trans (h3.mono (by simp; omega))
      have b3 := Lib.hid (HB0.out.trans (z3.mono HB0.out.size))
      have HTb := Lib.hid (HTb0.out.below z3 (Nat.le_refl _))
      have k1 : wq.cell? ⟨wc.heap.size + 1, 0, none⟩ = some (.slice D l.length c) := T3.cell 0
      have k2 : wq.cell? ⟨wc.heap.size, 1, none⟩ = some (.bool false) := X3.cell 1
      have j1 := T3.lt
      have j2 := X3.lt
      clear X0 T0 X3 T3 z3 h3 HTb0
      go_upto_region 7 with fail
      generalize wc.heap.size + 1 = gt at *
      generalize wc.heap.size = gx at *
      refine wp_region_held_drew (S := fun wv => Below wq.heap.size wq.drew wv) (by kernel_rfl) (by exact Below.refl _ _) (fun hH0 => ?_)
      have kz : wq.heap.size ≤ wq.drew.heap.size ∧ wq.drew.heap.size ≤ wq.heap.size := ⟨Nat.le_refl _, Nat.le_refl _⟩
      have KQ := Lib.hid ((Below.refl wq.heap.size wq).drew)
      have k1 : wq.drew.cell? ⟨gt, 0, none⟩ = some (.slice D l.length c) := k1
      have k2 : wq.drew.cell? ⟨gx, 1, none⟩ = some (.bool false) := k2
      generalize wq.drew = wy at *
      refine wpAnyH_take (i := 0) (oi := _) (v := .agg #[.slice D l.length c]) rfl (by kernel_rfl) (by kernel_rfl) (by kernel_rfl) (fun _ _ _ h => h) (Or.inl ⟨by rfl, ?_⟩) hH0 ?_
      · intro wv hSw
        replace hSw : Below wq.heap.size wy wv := hSw
        have q := (hSw.cell (p := ⟨gt, 0, none⟩) (by simp; omega)).trans k1
        go_simp
      change wpAnyH _ _ _ _ _ _ _ (Act.put _ (some 174) (.agg #[.slice D l.length c])) _
      simp only [Act.put, List.setIfInBounds_toArray, List.set_cons_zero, List.set_cons_succ]
      refine wpAnyH_take (i := 2) (oi := _) (v := .pointer (some ⟨gx, 1, none⟩)) rfl (by kernel_rfl) (by kernel_rfl) (by kernel_rfl) (fun _ _ _ h => h) (Or.inl ⟨by rfl, ?_⟩) hH0 ?_
      · intro wv hSw
        try dsimp only at hSw
        go_simp
      change wpAnyH _ _ _ _ _ _ _ (Act.put _ (some 176) (.pointer (some ⟨gx, 1, none⟩))) _
      simp only [Act.put, List.setIfInBounds_toArray, List.set_cons_zero, List.set_cons_succ]
      refine wpAnyH_take (i := 3) (oi := _) (v := .bool false) rfl (by kernel_rfl) (by kernel_rfl) (by kernel_rfl) (fun _ _ _ h => h) (Or.inl ⟨by rfl, ?_⟩) hH0 ?_
      · intro wv hSw
        replace hSw : Below wq.heap.size wy wv := hSw
        have q := (hSw.cell (p := ⟨gx, 1, none⟩) (by simp; omega)).trans k2
        go_simp
      change wpAnyH _ _ _ _ _ _ _ (Act.put _ (some 177) (.bool false)) _
      simp only [Act.put, List.setIfInBounds_toArray, List.set_cons_zero, List.set_cons_succ]
      refine wpAnyH_ready (rs := [1]) (by kernel_rfl) (by simp) ?_
      refine AllReadyH.cons (o := _) rfl (fun K hK => ?_) AllReadyH.nil
      go_simp
      refine (HO.out wy (HTb.out.below KQ.out (Nat.le_refl _))).mono ?_
      rintro e wa ⟨rfl, hb⟩
      have ba : Below wq.heap.size wy wa := hb.mono kz.1
      clear hb
      refine hK.out _ _ (by exact ba) (fun hH1 => ?_)
      clear hK K
      try simp only [Act.put, List.setIfInBounds_toArray, List.set_cons_zero, List.set_cons_succ]
      refine wpAnyH_take (i := 4) (oi := _) (v := .bool true) rfl (by kernel_rfl) (by kernel_rfl) (by kernel_rfl) (fun _ _ _ h => h) (Or.inl ⟨by rfl, ?_⟩) hH1 ?_
      · intro wv hSw
        try dsimp only at hSw
        go_simp
      change wpAnyH _ _ _ _ _ _ _ (Act.put _ (some 178) (.bool true)) _
      simp only [Act.put, List.setIfInBounds_toArray, List.set_cons_zero, List.set_cons_succ]
      refine wpAnyH_take (i := 5) (oi := _) (v := .bool true) rfl (by kernel_rfl) (by kernel_rfl) (by kernel_rfl) (fun _ _ _ h => h) (Or.inl ⟨by rfl, ?_⟩) hH1 ?_
      · intro wv hSw
        try dsimp only at hSw
        go_simp
      change wpAnyH _ _ _ _ _ _ _ (Act.put _ (some 179) (.bool true)) _
      simp only [Act.put, List.setIfInBounds_toArray, List.set_cons_zero, List.set_cons_succ]
      refine wpAnyH_take (i := 6) (oi := _) (v := .agg #[.slice D l.length c]) rfl (by kernel_rfl) (by kernel_rfl) (by kernel_rfl) (fun _ _ _ h => h) (Or.inl ⟨by rfl, ?_⟩) hH1 ?_
      · intro wv hSw
        replace hSw : Below wq.heap.size wy wv := hSw
        have q := (hSw.cell (p := ⟨gt, 0, none⟩) (by simp; omega)).trans k1
        go_simp
      change wpAnyH _ _ _ _ _ _ _ (Act.put _ (some 180) (.agg #[.slice D l.length c])) _
      simp only [Act.put, List.setIfInBounds_toArray, List.set_cons_zero, List.set_cons_succ]
      refine wpAnyH_take (i := 10) (oi := _) (v := .pointer (some ⟨gx, 1, none⟩)) rfl (by kernel_rfl) (by kernel_rfl) (by kernel_rfl) (fun _ _ _ h => h) (Or.inl ⟨by rfl, ?_⟩) hH1 ?_
      · intro wv hSw
        try dsimp only at hSw
        go_simp
      change wpAnyH _ _ _ _ _ _ _ (Act.put _ (some 184) (.pointer (some ⟨gx, 1, none⟩))) _
      simp only [Act.put, List.setIfInBounds_toArray, List.set_cons_zero, List.set_cons_succ]
      refine wpAnyH_take (i := 11) (oi := _) (v := .bool false) rfl (by kernel_rfl) (by kernel_rfl) (by kernel_rfl) (fun _ _ _ h => h) (Or.inl ⟨by rfl, ?_⟩) hH1 ?_
      · intro wv hSw
        replace hSw : Below wq.heap.size wy wv := hSw
        have q := (hSw.cell (p := ⟨gx, 1, none⟩) (by simp; omega)).trans k2
        go_simp
      change wpAnyH _ _ _ _ _ _ _ (Act.put _ (some 185) (.bool false)) _
      simp only [Act.put, List.setIfInBounds_toArray, List.set_cons_zero, List.set_cons_succ]
      refine wpAnyH_ready (rs := [7]) (by kernel_rfl) (by simp) ?_
      refine AllReadyH.cons (o := _) rfl (fun K hK => ?_) AllReadyH.nil
      go_simp
      refine (HP.out wa (HTb.out.below (KQ.out.trans ba) (Nat.le_refl _))).mono ?_
      intro e wb hc9
      obtain ⟨E1, e1, rfl, tE1, hb⟩ := OwnP.lit hc9 (n := 0) rfl
      clear hc9 tE1
      have bb : Below wq.heap.size wy wb := ba.trans (hb.mono (Nat.le_trans kz.1 ba.size))
      clear hb
      refine hK.out _ _ (by exact bb) (fun hH2 => ?_)
      clear hK K
      try simp only [Act.put, List.setIfInBounds_toArray, List.set_cons_zero, List.set_cons_succ]
      refine wpAnyH_take (i := 8) (oi := _) (v := .int .i64 0) rfl (by kernel_rfl) (by kernel_rfl) (by kernel_rfl) (fun _ _ _ h => h) (Or.inl ⟨by rfl, ?_⟩) hH2 ?_
      · intro wv hSw
        try dsimp only at hSw
        go_simp
      change wpAnyH _ _ _ _ _ _ _ (Act.put _ (some 182) (.int .i64 0)) _
      simp only [Act.put, List.setIfInBounds_toArray, List.set_cons_zero, List.set_cons_succ]
      refine wpAnyH_take (i := 9) (oi := _) (v := .bool false) rfl (by kernel_rfl) (by kernel_rfl) (by kernel_rfl) (fun _ _ _ h => h) (Or.inl ⟨by rfl, ?_⟩) hH2 ?_
      · intro wv hSw
        try dsimp only at hSw
        go_simp
      change wpAnyH _ _ _ _ _ _ _ (Act.put _ (some 183) (.bool false)) _
      simp only [Act.put, List.setIfInBounds_toArray, List.set_cons_zero, List.set_cons_succ]
      refine wpAnyH_take (i := 12) (oi := _) (v := .bool true) rfl (by kernel_rfl) (by kernel_rfl) (by kernel_rfl) (fun _ _ _ h => h) (Or.inl ⟨by rfl, ?_⟩) hH2 ?_
      · intro wv hSw
        try dsimp only at hSw
        go_simp
      change wpAnyH _ _ _ _ _ _ _ (Act.put _ (some 186) (.bool true)) _
      simp only [Act.put, List.setIfInBounds_toArray, List.set_cons_zero, List.set_cons_succ]
      refine wpAnyH_take (i := 13) (oi := _) (v := .bool true) rfl (by kernel_rfl) (by kernel_rfl) (by kernel_rfl) (fun _ _ _ h => h) (Or.inl ⟨by rfl, ?_⟩) hH2 ?_
      · intro wv hSw
        try dsimp only at hSw
        go_simp
      change wpAnyH _ _ _ _ _ _ _ (Act.put _ (some 187) (.bool true)) _
      simp only [Act.put, List.setIfInBounds_toArray, List.set_cons_zero, List.set_cons_succ]
      refine wpAnyH_take (i := 14) (oi := _) (v := .bool true) rfl (by kernel_rfl) (by kernel_rfl) (by kernel_rfl) (fun _ _ _ h => h) (Or.inl ⟨by rfl, ?_⟩) hH2 ?_
      · intro wv hSw
        try dsimp only at hSw
        go_simp
      change wpAnyH _ _ _ _ _ _ _ (Act.put _ (some 188) (.bool true)) _
      simp only [Act.put, List.setIfInBounds_toArray, List.set_cons_zero, List.set_cons_succ]
      refine wpAnyH_take (i := 15) (oi := _) (v := .int .i64 0) rfl (by kernel_rfl) (by kernel_rfl) (by kernel_rfl) (fun _ _ _ h => h) (Or.inl ⟨by rfl, ?_⟩) hH2 ?_
      · intro wv hSw
        try dsimp only at hSw
        go_simp
      change wpAnyH _ _ _ _ _ _ _ (Act.put _ (some 189) (.int .i64 0)) _
      simp only [Act.put, List.setIfInBounds_toArray, List.set_cons_zero, List.set_cons_succ]
      refine wpAnyH_take (i := 16) (oi := _) (v := .bool false) rfl (by kernel_rfl) (by kernel_rfl) (by kernel_rfl) (fun _ _ _ h => h) (Or.inl ⟨by rfl, ?_⟩) hH2 ?_
      · intro wv hSw
        try dsimp only at hSw
        go_simp
      change wpAnyH _ _ _ _ _ _ _ (Act.put _ (some 190) (.bool false)) _
      simp only [Act.put, List.setIfInBounds_toArray, List.set_cons_zero, List.set_cons_succ]
      refine wpAnyH_take (i := 17) (oi := _) (v := .bool false) rfl (by kernel_rfl) (by kernel_rfl) (by kernel_rfl) (fun _ _ _ h => h) (Or.inl ⟨by rfl, ?_⟩) hH2 ?_
      · intro wv hSw
        try dsimp only at hSw
        go_simp
      change wpAnyH _ _ _ _ _ _ _ (Act.put _ (some 191) (.bool false)) _
      simp only [Act.put, List.setIfInBounds_toArray, List.set_cons_zero, List.set_cons_succ]
      refine wpAnyH_take (i := 18) (oi := _) (v := undef) rfl (by kernel_rfl) (by kernel_rfl) (by kernel_rfl) (fun _ _ _ h => h) (Or.inr ⟨by rfl, rfl⟩) hH2 ?_
      change wpAnyH _ _ _ _ _ _ _ (Act.put _ (some 192) undef) _
      simp only [Act.put, List.setIfInBounds_toArray, List.set_cons_zero, List.set_cons_succ]
      refine wpAnyH_take (i := 19) (oi := _) (v := undef) rfl (by kernel_rfl) (by kernel_rfl) (by kernel_rfl) (fun _ _ _ h => h) (Or.inr ⟨by rfl, rfl⟩) hH2 ?_
      change wpAnyH _ _ _ _ _ _ _ (Act.put _ (some 193) undef) _
      simp only [Act.put, List.setIfInBounds_toArray, List.set_cons_zero, List.set_cons_succ]
      refine wpAnyH_take (i := 20) (oi := _) (v := .bool false) rfl (by kernel_rfl) (by kernel_rfl) (by kernel_rfl) (fun _ _ _ h => h) (Or.inl ⟨by rfl, ?_⟩) hH2 ?_
      · intro wv hSw
        try dsimp only at hSw
        go_simp
      change wpAnyH _ _ _ _ _ _ _ (Act.put _ (some 194) (.bool false)) _
      simp only [Act.put, List.setIfInBounds_toArray, List.set_cons_zero, List.set_cons_succ]
      refine wpAnyH_take (i := 21) (oi := _) (v := .pointer (some ⟨gx, 1, none⟩)) rfl (by kernel_rfl) (by kernel_rfl) (by kernel_rfl) (fun _ _ _ h => h) (Or.inl ⟨by rfl, ?_⟩) hH2 ?_
      · intro wv hSw
        try dsimp only at hSw
        go_simp
      change wpAnyH _ _ _ _ _ _ _ (Act.put _ (some 195) (.pointer (some ⟨gx, 1, none⟩))) _
      simp only [Act.put, List.setIfInBounds_toArray, List.set_cons_zero, List.set_cons_succ]
      refine wpAnyH_take (i := 22) (oi := _) (v := .bool false) rfl (by kernel_rfl) (by kernel_rfl) (by kernel_rfl) (fun _ _ _ h => h) (Or.inl ⟨by rfl, ?_⟩) hH2 ?_
      · intro wv hSw
        replace hSw : Below wq.heap.size wy wv := hSw
        have q := (hSw.cell (p := ⟨gx, 1, none⟩) (by simp; omega)).trans k2
        go_simp
      change wpAnyH _ _ _ _ _ _ _ (Act.put _ (some 196) (.bool false)) _
      simp only [Act.put, List.setIfInBounds_toArray, List.set_cons_zero, List.set_cons_succ]
      refine wpAnyH_take (i := 23) (oi := _) (v := .bool true) rfl (by kernel_rfl) (by kernel_rfl) (by kernel_rfl) (fun _ _ _ h => h) (Or.inl ⟨by rfl, ?_⟩) hH2 ?_
      · intro wv hSw
        try dsimp only at hSw
        go_simp
      change wpAnyH _ _ _ _ _ _ _ (Act.put _ (some 197) (.bool true)) _
      simp only [Act.put, List.setIfInBounds_toArray, List.set_cons_zero, List.set_cons_succ]
      refine wpAnyH_take (i := 24) (oi := _) (v := .bool true) rfl (by kernel_rfl) (by kernel_rfl) (by kernel_rfl) (fun _ _ _ h => h) (Or.inl ⟨by rfl, ?_⟩) hH2 ?_
      · intro wv hSw
        try dsimp only at hSw
        go_simp
      change wpAnyH _ _ _ _ _ _ _ (Act.put _ (some 198) (.bool true)) _
      simp only [Act.put, List.setIfInBounds_toArray, List.set_cons_zero, List.set_cons_succ]
      refine wpAnyH_take (i := 25) (oi := _) (v := .bool true) rfl (by kernel_rfl) (by kernel_rfl) (by kernel_rfl) (fun _ _ _ h => h) (Or.inl ⟨by rfl, ?_⟩) hH2 ?_
      · intro wv hSw
        try dsimp only at hSw
        go_simp
      change wpAnyH _ _ _ _ _ _ _ (Act.put _ (some 199) (.bool true)) _
      simp only [Act.put, List.setIfInBounds_toArray, List.set_cons_zero, List.set_cons_succ]
      refine wpAnyH_ready (rs := [26]) (by kernel_rfl) (by simp) ?_
      refine AllReadyH.cons (o := _) rfl (fun K hK => ?_) AllReadyH.nil
      go_simp
      refine (awake_any _).mono ?_
      rintro e wf ⟨rfl, hb⟩
      have bf : Below wq.heap.size wy wf := bb.trans (hb.mono (Nat.le_trans kz.1 bb.size))
      clear hb
      refine hK.out _ _ (by exact bf) (fun hH3 => ?_)
      clear hK K
      try simp only [Act.put, List.setIfInBounds_toArray, List.set_cons_zero, List.set_cons_succ]
      refine wpAnyH_take (i := 27) (oi := _) (v := .bool true) rfl (by kernel_rfl) (by kernel_rfl) (by kernel_rfl) (fun _ _ _ h => h) (Or.inl ⟨by rfl, ?_⟩) hH3 ?_
      · intro wv hSw
        try dsimp only at hSw
        go_simp
      change wpAnyH _ _ _ _ _ _ _ (Act.put _ (some 201) (.bool true)) _
      simp only [Act.put, List.setIfInBounds_toArray, List.set_cons_zero, List.set_cons_succ]
      refine wpAnyH_take (i := 28) (oi := _) (v := .bool true) rfl (by kernel_rfl) (by kernel_rfl) (by kernel_rfl) (fun _ _ _ h => h) (Or.inl ⟨by rfl, ?_⟩) hH3 ?_
      · intro wv hSw
        try dsimp only at hSw
        go_simp
      change wpAnyH _ _ _ _ _ _ _ (Act.put _ (some 2) (.bool true)) _
      simp only [Act.put, List.setIfInBounds_toArray, List.set_cons_zero, List.set_cons_succ]
      refine wpAnyH_done (by kernel_rfl) ?_ _
      have bz := b3.out.trans ((KQ.out.trans bf).mono b3.out.size)
      go_wp2_with fail
      go_ret
      exact ⟨rfl, bz⟩
end Go.Proofs.Ytojgmofpgefonaa
