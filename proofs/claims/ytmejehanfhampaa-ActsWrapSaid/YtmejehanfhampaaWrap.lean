/-
  What the walk of ActsWrap needs: signs go on in the next line just when another one comes. No condition.
-/
import Derived.Test.YtmejehanfhampaaWrapM
import Derived.Test.YtmejehanfhampaaMoves
namespace Go.Proofs.Ytmejehanfhampaa
open Go.RowKit
set_option maxRecDepth 100000

theorem mask3 (z : Int) : ∃ a : Nat, a ≤ 3 ∧ bits .and .i64 z 3 = a := ⟨(z % 4).toNat, by omega, by rw [i64_and3]; omega⟩
theorem runeAt_eq (L : List (List C)) (y x : Nat) (hy : y < L.length) (hx : x < L[y].length) : runeAt L y x = L[y][x].r := by simp [runeAt, rowAt, hy, hx]
/-- The screen behind i signs. -/
structure WrSt (w : World) (b0 : Nat) (s : WS) (D : Option Addr) (n c : Nat) (E : Option Addr) (m d : Nat) (wr : World) : Prop where
  box : Box wr b0 s.p (.slice D n c) (.slice E m d)
  scr : Scr 0 wr D E n c m d s.L s.B
  below : Below w.heap.size w wr
def WrRel (w : World) (b0 W H : Nat) (nw : Bool) (n : Nat) (i : Value) (wr : World) : Prop := ∃ (k : Nat) (D : Option Addr) (nr c : Nat) (E : Option Addr) (m d : Nat), i = .int .i64 (k : Int) ∧ k ≤ n ∧ WrSt w b0 (wst W H nw k) D nr c E m d wr

set_option maxHeartbeats 8000000 in
theorem wrap_walk (x0 y0 z0 : Int) (wrap : Bool) (w : World) : Calls Try.prog 6 #[.int .i64 x0, .int .i64 y0, .int .i64 z0, .bool wrap] w (TrueBelow w) := by
  obtain ⟨W0, hW, eW⟩ := mask7 x0
  obtain ⟨H0, hH, eH⟩ := mask3 y0
  obtain ⟨n, hn, en⟩ := mask63 z0
  have HK : Hid (∀ k, k ≤ 63 → chkB (W0 + 1) (H0 + 1) (!wrap) k (wst (W0 + 1) (H0 + 1) (!wrap) k) = true) := fun k hk => chk_all W0 H0 (!wrap) k (by omega) (by omega) hk
  have eWh : heldF ((W0 : Int) + 1) 1 1000 = ((W0 + 1 : Nat) : Int) := by unfold heldF; omega
  have eHh : heldF ((H0 : Int) + 1) 1 1000 = ((H0 + 1 : Nat) : Int) := by unfold heldF; omega
  have HN : Hid (∀ w, Calls Try.prog 12 #[.int .i64 ((W0 : Int) + 1), .int .i64 ((H0 : Int) + 1)] w (GridPost w (newNm ((W0 + 1 : Nat) : Int) ((H0 + 1 : Nat) : Int)) (blankL ((W0 + 1 : Nat) : Int) (H0 + 1)) [])) := fun w => by
    have := rnew_any ((W0 : Int) + 1) ((H0 : Int) + 1) w
    rwa [eWh, eHh, Int.toNat_natCast] at this
  have s1 : IntKind.i64.wrap ((W0 : Int) + 1) = (W0 : Int) + 1 := IntWalk.i64_in _ (by omega)
  have s2 : IntKind.i64.wrap ((H0 : Int) + 1) = (H0 : Int) + 1 := IntWalk.i64_in _ (by omega)
  clear eWh eHh
  go_enter Try.func6, Try.ntmps6
  go_upto_region 3 with (first
   | (with_reducible refine wpList_storeB (x := .tmp 9) (y := .tmp 27) (p := newNm ((W0 + 1 : Nat) : Int) ((H0 + 1 : Nat) : Int)) (D := D0) (E := E0) (n := H0 + 1) (c := c0) (m := 0) (d := d0) ?_ ?_ ?_ ?_ ?_ ?_
      · with_reducible rfl
      · rfl
      · rfl
      · rfl
      · rfl)
   | (go_at_call 12
      refine (HN.out _).mono ?_
      rintro e w1 ⟨D0, E0, n0, c0, m0, d0, rfl, s0, b0⟩
      obtain rfl : H0 + 1 = n0 := by rw [← s0.nr, blankL_len]
      obtain rfl : 0 = m0 := s0.nb))
  have h1z := b0.size
  refine wp_world (fun wq => Box wq w1.heap.size (newNm ((W0 + 1 : Nat) : Int) ((H0 + 1 : Nat) : Int)) (.slice D0 (H0 + 1) c0) (.slice E0 0 d0) ∧ Scr 0 wq D0 E0 (H0 + 1) c0 0 d0 (blankL ((W0 + 1 : Nat) : Int) (H0 + 1)) [] ∧ Below w.heap.size w wq ∧ Below w1.heap.size w1 wq)
    ⟨Box.new _ _ _ _, (s0.weak (Nat.zero_le _)).below ((Below.refl _ _).alloc (Nat.le_refl _) _) (Nat.le_refl _), b0.alloc b0.size _, (Below.refl _ _).alloc (Nat.le_refl _) _⟩ ?_
  clear b0 s1 s2 eW eH en
  rintro wq ⟨xq, sq, bq, bz⟩
  have u11 := xq.cells.c11
  have uf := xq.cells.free
  have hz1 := xq.lt
  go_upto_region 4 with fail
  refine wp_world (fun wq => WrSt w w1.heap.size (wst (W0 + 1) (H0 + 1) (!wrap) 0) D0 (H0 + 1) c0 E0 0 d0 wq) ⟨xq.set_noWrap (!wrap), ?_, bq.setCell (p := ⟨w1.heap.size, 11, none⟩) h1z _⟩ ?_
  · exact (s0.weak (Nat.zero_le _)).below (bz.setCell (p := ⟨w1.heap.size, 11, none⟩) (Nat.le_refl _) _) (Nat.le_refl _)
  clear xq sq bq u11 uf hz1 bz wq s0
  intro wq st0
  go_wp2_with fail
  go_loopw [10] (WrRel w w1.heap.size (W0 + 1) (H0 + 1) (!wrap) n) (fun i _ => n - (intOf i).toNat)
  case atStart => exact ⟨0, _, _, _, _, _, _, rfl, by omega, st0⟩
  case round =>
    clear st0 wq
    obtain ⟨k, D, nr, c, E, m, d, rfl, hk, st⟩ := hrel
    by_cases hl : k < n
    · have hli : (k : Int) < (n : Int) := by omega
      obtain ⟨o1, o2, _⟩ := chk_ok (HK.out k (by omega))
      have HA := Lib.hid (wapply_any _ (W0 + 1) (H0 + 1) D E nr c m d (65 + k) wr st.scr (by omega) (by omega) o1 o2)
      have ew : wput (wline (wst (W0 + 1) (H0 + 1) (!wrap) k)) (65 + k) = wst (W0 + 1) (H0 + 1) (!wrap) (k + 1) := rfl
      rw [ew] at HA
      have s3 : IntKind.i64.wrap (65 + (k : Int)) = 65 + (k : Int) := IntWalk.i64_in _ (by omega)
      have s4 : IntKind.i32.wrap (65 + (k : Int)) = 65 + (k : Int) := IntWalk.i32_in _ (by omega)
      have x1 := st.box
      have hz1 : w1.heap.size < wr.heap.size := x1.lt
      have b1 := st.below
      clear st o1 o2 ew
      obtain ⟨s2, hs2⟩ : ∃ s2, s2 = wst (W0 + 1) (H0 + 1) (!wrap) (k + 1) := ⟨_, rfl⟩
      rw [← hs2] at HA
      have HE2 := Lib.hid hs2.symm
      clear hs2
      generalize hs1 : wst (W0 + 1) (H0 + 1) (!wrap) k = s1 at *
      go_wp2_with (first
       | (with_reducible refine wpList_loadB x1 (x := .tmp 9) ?_ ?_ ?_ ?_
          · with_reducible rfl
          · rfl
          · rfl)
       | (go_at_call 13
          refine HA.out.mono ?_
          clear HA
          rintro e w3 ⟨D5, E5, n5, c5, m5, d5, rfl, s3, b3⟩
          have x3 := x1.below b3 hz1)
       | (with_reducible refine wpList_storeA x3 (x := .tmp 9) (y := .tmp 41) (p := s2.p) (D := D5) (E := E5) (n := n5) (c := c5) (m := m5) (d := d5) ?_ ?_ ?_ ?_ ?_
          · with_reducible rfl
          · rfl
          · rfl
          · rfl))
      go_roundw
      case rel =>
        refine ⟨k + 1, D5, n5, c5, E5, m5, d5, by go_num, by omega, ?_⟩
        rw [HE2.out]
        exact ⟨x3.setRow _ _ _, s3.bput hz1 _, below_setRow (b1.trans (b3.mono b1.size)) h1z _⟩
      case measure => simp [intOf]; omega
    · have hli : ¬ (k : Int) < (n : Int) := by omega
      obtain rfl : k = n := by omega
      obtain ⟨o1, _, of⟩ := chk_ok (HK.out k (by omega))
      clear HK HN
      generalize wst (W0 + 1) (H0 + 1) (!wrap) k = s at *
      have hnr : nr = H0 + 1 := by rw [← st.scr.nr, o1.ln]
      have hmm : m = s.B.length := st.scr.nb.symm
      subst hnr
      cases wrap with
      | false =>
        simp only [finB, Bool.not_false, if_true, Bool.and_eq_true, decide_eq_true_eq, Bool.or_eq_true, Bool.not_eq_true'] at of
        obtain ⟨⟨⟨⟨f0, f1⟩, f2⟩, f3⟩, f4⟩ := of
        have hm0 : m = 0 := by omega
        subst hm0
        have u2 := st.box.cells.c2
        have u3 := st.box.cells.c3
        have u4 := st.box.cells.c4
        have u13 := st.box.cells.c13
        have u14 := st.box.cells.c14
        have b1 := st.below
        rw [f0] at u3
        rw [f2] at u4
        have s5 : IntKind.i64.wrap ((W0 : Int) + 1 - 1) = W0 := by rw [IntWalk.i64_in _ (by omega)]; omega
        by_cases hkw : k < W0 + 1
        · have ex : s.p.x = k := by rw [f1]; omega
          rw [ex] at u2
          have hkw1 : (k : Int) < (W0 : Int) + 1 := by omega
          have hkw2 : ¬ (W0 : Int) < (k : Int) := by omega
          clear f0 f1 f2 f3 f4 o1 hmm ex hk hli st
          go_wp2_with (go_at_call 11; refine (awake_any _).mono ?_; rintro e w6 ⟨rfl, b6⟩)
          go_ret
          exact ⟨rfl, b1.trans (b6.mono b1.size)⟩
        · have ex : s.p.x = W0 := by rw [f1]; omega
          rw [ex] at u2
          have hkw1 : ¬ (k : Int) < (W0 : Int) + 1 := by omega
          have hkw2 : (W0 : Int) < (k : Int) := by omega
          have h0l : 0 < s.L.length := by rw [o1.ln]; omega
          have hrl : s.L[0].length = W0 + 1 := o1.rows _ (List.getElem_mem h0l)
          have hru : s.L[0][W0].r = 65 + (k : Int) - 1 := by
            have f4' := f4.resolve_left (by omega)
            rw [show W0 + 1 - 1 = W0 by omega, runeAt_eq _ _ _ h0l (by omega)] at f4'
            exact f4'
          obtain ⟨tb, tq, R, cr, rfl, _, _, _, t0, hcr, r0⟩ := st.scr.rows.at 0 h0l
          obtain ⟨rb, ro, rfl, _, _, _, q0, _⟩ := r0 W0 (by omega)
          rw [hrl] at t0
          rw [hru] at q0
          have t0' : wr.cell? ⟨tb, tq, none⟩ = some (.slice (some ⟨rb, ro, none⟩) (W0 + 1) cr) := t0
          have s6 : IntKind.i64.wrap (65 + (k : Int)) = 65 + (k : Int) := IntWalk.i64_in _ (by omega)
          have s7 : IntKind.i64.wrap (65 + (k : Int) - 1) = 65 + (k : Int) - 1 := IntWalk.i64_in _ (by omega)
          have s8 : IntKind.i32.wrap (65 + (k : Int) - 1) = 65 + (k : Int) - 1 := IntWalk.i32_in _ (by omega)
          have hwi : (W0 : Int) < ((W0 + 1 : Nat) : Int) := by omega
          clear f0 f1 f2 f3 f4 o1 hmm ex hk hli st t0 r0 hcr
          go_wp2_with (go_at_call 11; refine (awake_any _).mono ?_; rintro e w6 ⟨rfl, b6⟩)
          go_ret
          exact ⟨rfl, b1.trans (b6.mono b1.size)⟩
      | true =>
        simp only [finB, Bool.not_true, Bool.false_eq_true, if_false, Bool.and_eq_true, decide_eq_true_eq, List.all_eq_true, List.mem_range, beq_iff_eq] at of
        obtain ⟨⟨⟨f0, f1⟩, f2⟩, f3⟩ := of
        have b1 := st.below
        obtain ⟨Ln, eL⟩ : ∃ Ln, Ln = linesN (W0 + 1) k := ⟨_, rfl⟩
        rw [← eL] at f0 f1 f3
        have hLn : (if ((k : Int) + ((W0 : Int) + 1) - 1) / ((W0 : Int) + 1) < 1 then (1 : Int) else ((k : Int) + ((W0 : Int) + 1) - 1) / ((W0 : Int) + 1)) = (Ln : Int) := by
          have e1 : ((k : Int) + ((W0 : Int) + 1) - 1) / ((W0 : Int) + 1) = (((k + (W0 + 1) - 1) / (W0 + 1) : Nat) : Int) := by
            rw [Int.natCast_ediv]
            congr 1
            omega
          rw [e1, eL]
          unfold linesN
          split <;> omega
        have hL1 : 1 ≤ Ln ∧ Ln ≤ 63 := by
          have : (k + (W0 + 1) - 1) / (W0 + 1) ≤ 63 := Nat.div_le_of_le_mul (by omega)
          rw [eL]
          unfold linesN
          omega
        clear eL
        go_upto_region 13 with fail
        obtain ⟨mn, emn⟩ : ∃ mn : Nat, mn = min Ln (H0 + 1) := ⟨_, rfl⟩
        obtain ⟨tN, etN⟩ : ∃ tN : Nat, tN = Ln - (H0 + 1) := ⟨_, rfl⟩
        obtain ⟨bN, ebN⟩ : ∃ bN : Nat, bN = min tN 50 := ⟨_, rfl⟩
        have g1 : (if (H0 : Int) + 1 < (Ln : Int) then (H0 : Int) + 1 else (Ln : Int)) = (mn : Int) := by rw [emn]; split <;> omega
        have g2 : IntKind.i64.wrap ((mn : Int) - 1) = (mn : Int) - 1 := IntWalk.i64_in _ (by omega)
        have g3 : IntKind.i64.wrap ((Ln : Int) - ((H0 : Int) + 1)) = (Ln : Int) - ((H0 : Int) + 1) := IntWalk.i64_in _ (by omega)
        have g4 : (if (Ln : Int) - ((H0 : Int) + 1) < 0 then (0 : Int) else (Ln : Int) - ((H0 : Int) + 1)) = (tN : Int) := by rw [etN]; split <;> omega
        have g5 : (if (50 : Int) < (tN : Int) then (50 : Int) else (tN : Int)) = (bN : Int) := by rw [ebN]; split <;> omega
        have ey : s.p.y = (mn : Int) - 1 := by rw [f0, emn]; omega
        have em : m = bN := by rw [hmm, f1, ebN, etN]
        subst em
        rw [← etN] at f3
        have d3 : wr.drew.cell? ⟨w1.heap.size, 3, none⟩ = some (.int .i64 ((mn : Int) - 1)) := by have := st.box.cells.c3; rw [ey] at this; exact this
        have d4 : wr.drew.cell? ⟨w1.heap.size, 4, none⟩ = some (.bool (decide (0 < k) && decide (k % (W0 + 1) = 0))) := by have := st.box.cells.c4; rw [f2] at this; exact this
        have d13 : wr.drew.cell? ⟨w1.heap.size, 13, none⟩ = some (.slice D (H0 + 1) c) := st.box.cells.c13
        have d14 : wr.drew.cell? ⟨w1.heap.size, 14, none⟩ = some (.slice E m d) := st.box.cells.c14
        have hsc : Scr 0 wr.drew D E (H0 + 1) c m d s.L s.B := st.scr.below (below_drewN (Below.refl _ _) 1) (Nat.le_refl _)
        have bd : Below w.heap.size w wr.drew := below_drewN b1 1
        have HF3 := Lib.hid f3
        have HSC := Lib.hid hsc
        have htN : tN ≤ 63 := by omega
        clear f0 f1 f2 f3 hmm emn ebN etN ey st b1 hsc hLn
        go_cut [139] (fun v wx => v = .bool false ∧ wx = wr.drew)
        case first =>
          obtain ⟨R, eR, eRm⟩ : ∃ R : Nat, (k : Int).tmod ((W0 : Int) + 1) = (R : Int) ∧ R = k % (W0 + 1) := ⟨k % (W0 + 1), by rw [Int.tmod_eq_emod_of_nonneg (by omega)]; exact (Int.natCast_emod k (W0 + 1)).symm, rfl⟩
          by_cases k0 : 0 < k
          · have hW1 : ¬ (W0 : Int) + 1 = 0 := by omega
            by_cases k2 : k % (W0 + 1) = 0
            · have d4 : wr.drew.cell? ⟨w1.heap.size, 4, none⟩ = some (.bool true) := by rw [d4]; simp [k2, k0]
              have R0 : R = 0 := by omega
              subst R0
              have eR : (k : Int).tmod ((W0 : Int) + 1) = 0 := eR
              clear eRm k2
              refine wp_region_held_drew (S := fun w' => w'.cell? ⟨w1.heap.size, 3, none⟩ = some (.int .i64 ((mn : Int) - 1)) ∧ w'.cell? ⟨w1.heap.size, 4, none⟩ = some (.bool true) ∧ w'.cell? ⟨w1.heap.size, 13, none⟩ = some (.slice D (H0 + 1) c) ∧ w'.cell? ⟨w1.heap.size, 14, none⟩ = some (.slice E m d)) (by kernel_rfl) (by exact ⟨d3, d4, d13, d14⟩) (fun hH0 => ?_)
              refine wpAnyH_take (i := 0) (oi := _) (v := .pointer (some ⟨w1.heap.size, 3, none⟩)) rfl (by kernel_rfl) (by kernel_rfl) (by kernel_rfl) (fun _ _ _ h => h) (Or.inl ⟨by rfl, ?_⟩) hH0 ?_
              · intro wv hSw
                try dsimp only at hSw
                go_simp
              change wpAnyH _ _ _ _ _ _ _ (Act.put _ (some 102) (.pointer (some ⟨w1.heap.size, 3, none⟩))) _
              simp only [Act.put, List.setIfInBounds_toArray, List.set_cons_zero, List.set_cons_succ]
              refine wpAnyH_take (i := 1) (oi := _) (v := .int .i64 ((mn : Int) - 1)) rfl (by kernel_rfl) (by kernel_rfl) (by kernel_rfl) (fun _ _ _ h => h) (Or.inl ⟨by rfl, ?_⟩) hH0 ?_
              · intro wv hSw
                try dsimp only at hSw
                go_simp
              change wpAnyH _ _ _ _ _ _ _ (Act.put _ (some 103) (.int .i64 ((mn : Int) - 1))) _
              simp only [Act.put, List.setIfInBounds_toArray, List.set_cons_zero, List.set_cons_succ]
              refine wpAnyH_take (i := 2) (oi := _) (v := .int .i64 Ln) rfl (by kernel_rfl) (by kernel_rfl) (by kernel_rfl) (fun _ _ _ h => h) (Or.inl ⟨by rfl, ?_⟩) hH0 ?_
              · intro wv hSw
                try dsimp only at hSw
                go_simp
              change wpAnyH _ _ _ _ _ _ _ (Act.put _ (some 104) (.int .i64 Ln)) _
              simp only [Act.put, List.setIfInBounds_toArray, List.set_cons_zero, List.set_cons_succ]
              refine wpAnyH_take (i := 3) (oi := _) (v := .int .i64 ((H0 : Int) + 1)) rfl (by kernel_rfl) (by kernel_rfl) (by kernel_rfl) (fun _ _ _ h => h) (Or.inl ⟨by rfl, ?_⟩) hH0 ?_
              · intro wv hSw
                try dsimp only at hSw
                go_simp
              change wpAnyH _ _ _ _ _ _ _ (Act.put _ (some 105) (.int .i64 ((H0 : Int) + 1))) _
              simp only [Act.put, List.setIfInBounds_toArray, List.set_cons_zero, List.set_cons_succ]
              refine wpAnyH_take (i := 4) (oi := _) (v := .int .i64 mn) rfl (by kernel_rfl) (by kernel_rfl) (by kernel_rfl) (fun _ _ _ h => h) (Or.inl ⟨by rfl, ?_⟩) hH0 ?_
              · intro wv hSw
                try dsimp only at hSw
                go_simp
              change wpAnyH _ _ _ _ _ _ _ (Act.put _ (some 106) (.int .i64 mn)) _
              simp only [Act.put, List.setIfInBounds_toArray, List.set_cons_zero, List.set_cons_succ]
              refine wpAnyH_take (i := 5) (oi := _) (v := .int .i64 ((mn : Int) - 1)) rfl (by kernel_rfl) (by kernel_rfl) (by kernel_rfl) (fun _ _ _ h => h) (Or.inl ⟨by rfl, ?_⟩) hH0 ?_
              · intro wv hSw
                try dsimp only at hSw
                go_simp
              change wpAnyH _ _ _ _ _ _ _ (Act.put _ (some 107) (.int .i64 ((mn : Int) - 1))) _
              simp only [Act.put, List.setIfInBounds_toArray, List.set_cons_zero, List.set_cons_succ]
              refine wpAnyH_take (i := 6) (oi := _) (v := .bool false) rfl (by kernel_rfl) (by kernel_rfl) (by kernel_rfl) (fun _ _ _ h => h) (Or.inl ⟨by rfl, ?_⟩) hH0 ?_
              · intro wv hSw
                try dsimp only at hSw
                go_simp
              change wpAnyH _ _ _ _ _ _ _ (Act.put _ (some 108) (.bool false)) _
              simp only [Act.put, List.setIfInBounds_toArray, List.set_cons_zero, List.set_cons_succ]
              refine wpAnyH_take (i := 7) (oi := _) (v := .bool false) rfl (by kernel_rfl) (by kernel_rfl) (by kernel_rfl) (fun _ _ _ h => h) (Or.inl ⟨by rfl, ?_⟩) hH0 ?_
              · intro wv hSw
                try dsimp only at hSw
                go_simp
              change wpAnyH _ _ _ _ _ _ _ (Act.put _ (some 109) (.bool false)) _
              simp only [Act.put, List.setIfInBounds_toArray, List.set_cons_zero, List.set_cons_succ]
              refine wpAnyH_take (i := 8) (oi := _) (v := .pointer (some ⟨w1.heap.size, 14, none⟩)) rfl (by kernel_rfl) (by kernel_rfl) (by kernel_rfl) (fun _ _ _ h => h) (Or.inl ⟨by rfl, ?_⟩) hH0 ?_
              · intro wv hSw
                try dsimp only at hSw
                go_simp
              change wpAnyH _ _ _ _ _ _ _ (Act.put _ (some 110) (.pointer (some ⟨w1.heap.size, 14, none⟩))) _
              simp only [Act.put, List.setIfInBounds_toArray, List.set_cons_zero, List.set_cons_succ]
              refine wpAnyH_take (i := 9) (oi := _) (v := .slice E m d) rfl (by kernel_rfl) (by kernel_rfl) (by kernel_rfl) (fun _ _ _ h => h) (Or.inl ⟨by rfl, ?_⟩) hH0 ?_
              · intro wv hSw
                try dsimp only at hSw
                go_simp
              change wpAnyH _ _ _ _ _ _ _ (Act.put _ (some 111) (.slice E m d)) _
              simp only [Act.put, List.setIfInBounds_toArray, List.set_cons_zero, List.set_cons_succ]
              refine wpAnyH_take (i := 10) (oi := _) (v := .int .i64 m) rfl (by kernel_rfl) (by kernel_rfl) (by kernel_rfl) (fun _ _ _ h => h) (Or.inl ⟨by rfl, ?_⟩) hH0 ?_
              · intro wv hSw
                try dsimp only at hSw
                go_simp
              change wpAnyH _ _ _ _ _ _ _ (Act.put _ (some 112) (.int .i64 m)) _
              simp only [Act.put, List.setIfInBounds_toArray, List.set_cons_zero, List.set_cons_succ]
              refine wpAnyH_take (i := 11) (oi := _) (v := .int .i64 Ln) rfl (by kernel_rfl) (by kernel_rfl) (by kernel_rfl) (fun _ _ _ h => h) (Or.inl ⟨by rfl, ?_⟩) hH0 ?_
              · intro wv hSw
                try dsimp only at hSw
                go_simp
              change wpAnyH _ _ _ _ _ _ _ (Act.put _ (some 113) (.int .i64 Ln)) _
              simp only [Act.put, List.setIfInBounds_toArray, List.set_cons_zero, List.set_cons_succ]
              refine wpAnyH_take (i := 12) (oi := _) (v := .int .i64 ((H0 : Int) + 1)) rfl (by kernel_rfl) (by kernel_rfl) (by kernel_rfl) (fun _ _ _ h => h) (Or.inl ⟨by rfl, ?_⟩) hH0 ?_
              · intro wv hSw
                try dsimp only at hSw
                go_simp
              change wpAnyH _ _ _ _ _ _ _ (Act.put _ (some 114) (.int .i64 ((H0 : Int) + 1))) _
              simp only [Act.put, List.setIfInBounds_toArray, List.set_cons_zero, List.set_cons_succ]
              refine wpAnyH_take (i := 13) (oi := _) (v := .int .i64 ((Ln : Int) - ((H0 : Int) + 1))) rfl (by kernel_rfl) (by kernel_rfl) (by kernel_rfl) (fun _ _ _ h => h) (Or.inl ⟨by rfl, ?_⟩) hH0 ?_
              · intro wv hSw
                try dsimp only at hSw
                go_simp
              change wpAnyH _ _ _ _ _ _ _ (Act.put _ (some 115) (.int .i64 ((Ln : Int) - ((H0 : Int) + 1)))) _
              simp only [Act.put, List.setIfInBounds_toArray, List.set_cons_zero, List.set_cons_succ]
              refine wpAnyH_take (i := 14) (oi := _) (v := .int .i64 tN) rfl (by kernel_rfl) (by kernel_rfl) (by kernel_rfl) (fun _ _ _ h => h) (Or.inl ⟨by rfl, ?_⟩) hH0 ?_
              · intro wv hSw
                try dsimp only at hSw
                go_simp
              change wpAnyH _ _ _ _ _ _ _ (Act.put _ (some 116) (.int .i64 tN)) _
              simp only [Act.put, List.setIfInBounds_toArray, List.set_cons_zero, List.set_cons_succ]
              refine wpAnyH_take (i := 15) (oi := _) (v := .int .i64 m) rfl (by kernel_rfl) (by kernel_rfl) (by kernel_rfl) (fun _ _ _ h => h) (Or.inl ⟨by rfl, ?_⟩) hH0 ?_
              · intro wv hSw
                try dsimp only at hSw
                go_simp
              change wpAnyH _ _ _ _ _ _ _ (Act.put _ (some 117) (.int .i64 m)) _
              simp only [Act.put, List.setIfInBounds_toArray, List.set_cons_zero, List.set_cons_succ]
              refine wpAnyH_take (i := 16) (oi := _) (v := .bool false) rfl (by kernel_rfl) (by kernel_rfl) (by kernel_rfl) (fun _ _ _ h => h) (Or.inl ⟨by rfl, ?_⟩) hH0 ?_
              · intro wv hSw
                try dsimp only at hSw
                go_simp
              change wpAnyH _ _ _ _ _ _ _ (Act.put _ (some 118) (.bool false)) _
              simp only [Act.put, List.setIfInBounds_toArray, List.set_cons_zero, List.set_cons_succ]
              refine wpAnyH_take (i := 17) (oi := _) (v := .bool false) rfl (by kernel_rfl) (by kernel_rfl) (by kernel_rfl) (fun _ _ _ h => h) (Or.inl ⟨by rfl, ?_⟩) hH0 ?_
              · intro wv hSw
                try dsimp only at hSw
                go_simp
              change wpAnyH _ _ _ _ _ _ _ (Act.put _ (some 119) (.bool false)) _
              simp only [Act.put, List.setIfInBounds_toArray, List.set_cons_zero, List.set_cons_succ]
              refine wpAnyH_take (i := 18) (oi := _) (v := .bool false) rfl (by kernel_rfl) (by kernel_rfl) (by kernel_rfl) (fun _ _ _ h => h) (Or.inl ⟨by rfl, ?_⟩) hH0 ?_
              · intro wv hSw
                try dsimp only at hSw
                go_simp
              change wpAnyH _ _ _ _ _ _ _ (Act.put _ (some 120) (.bool false)) _
              simp only [Act.put, List.setIfInBounds_toArray, List.set_cons_zero, List.set_cons_succ]
              refine wpAnyH_take (i := 19) (oi := _) (v := .pointer (some ⟨w1.heap.size, 4, none⟩)) rfl (by kernel_rfl) (by kernel_rfl) (by kernel_rfl) (fun _ _ _ h => h) (Or.inl ⟨by rfl, ?_⟩) hH0 ?_
              · intro wv hSw
                try dsimp only at hSw
                go_simp
              change wpAnyH _ _ _ _ _ _ _ (Act.put _ (some 121) (.pointer (some ⟨w1.heap.size, 4, none⟩))) _
              simp only [Act.put, List.setIfInBounds_toArray, List.set_cons_zero, List.set_cons_succ]
              refine wpAnyH_take (i := 20) (oi := _) (v := .bool true) rfl (by kernel_rfl) (by kernel_rfl) (by kernel_rfl) (fun _ _ _ h => h) (Or.inl ⟨by rfl, ?_⟩) hH0 ?_
              · intro wv hSw
                try dsimp only at hSw
                go_simp
              change wpAnyH _ _ _ _ _ _ _ (Act.put _ (some 122) (.bool true)) _
              simp only [Act.put, List.setIfInBounds_toArray, List.set_cons_zero, List.set_cons_succ]
              refine wpAnyH_take (i := 21) (oi := _) (v := .int .i64 k) rfl (by kernel_rfl) (by kernel_rfl) (by kernel_rfl) (fun _ _ _ h => h) (Or.inl ⟨by rfl, ?_⟩) hH0 ?_
              · intro wv hSw
                try dsimp only at hSw
                go_simp
              change wpAnyH _ _ _ _ _ _ _ (Act.put _ (some 123) (.int .i64 k)) _
              simp only [Act.put, List.setIfInBounds_toArray, List.set_cons_zero, List.set_cons_succ]
              refine wpAnyH_take (i := 22) (oi := _) (v := .bool true) rfl (by kernel_rfl) (by kernel_rfl) (by kernel_rfl) (fun _ _ _ h => h) (Or.inl ⟨by rfl, ?_⟩) hH0 ?_
              · intro wv hSw
                try dsimp only at hSw
                go_simp
                all_goals omega
              change wpAnyH _ _ _ _ _ _ _ (Act.put _ (some 124) (.bool true)) _
              simp only [Act.put, List.setIfInBounds_toArray, List.set_cons_zero, List.set_cons_succ]
              refine wpAnyH_take (i := 23) (oi := _) (v := .bool true) rfl (by kernel_rfl) (by kernel_rfl) (by kernel_rfl) (fun _ _ _ h => h) (Or.inl ⟨by rfl, ?_⟩) hH0 ?_
              · intro wv hSw
                try dsimp only at hSw
                go_simp
              change wpAnyH _ _ _ _ _ _ _ (Act.put _ (some 125) (.bool true)) _
              simp only [Act.put, List.setIfInBounds_toArray, List.set_cons_zero, List.set_cons_succ]
              refine wpAnyH_take (i := 24) (oi := _) (v := .int .i64 k) rfl (by kernel_rfl) (by kernel_rfl) (by kernel_rfl) (fun _ _ _ h => h) (Or.inl ⟨by rfl, ?_⟩) hH0 ?_
              · intro wv hSw
                try dsimp only at hSw
                go_simp
              change wpAnyH _ _ _ _ _ _ _ (Act.put _ (some 126) (.int .i64 k)) _
              simp only [Act.put, List.setIfInBounds_toArray, List.set_cons_zero, List.set_cons_succ]
              refine wpAnyH_take (i := 25) (oi := _) (v := .int .i64 ((W0 : Int) + 1)) rfl (by kernel_rfl) (by kernel_rfl) (by kernel_rfl) (fun _ _ _ h => h) (Or.inl ⟨by rfl, ?_⟩) hH0 ?_
              · intro wv hSw
                try dsimp only at hSw
                go_simp
              change wpAnyH _ _ _ _ _ _ _ (Act.put _ (some 127) (.int .i64 ((W0 : Int) + 1))) _
              simp only [Act.put, List.setIfInBounds_toArray, List.set_cons_zero, List.set_cons_succ]
              refine wpAnyH_take (i := 26) (oi := _) (v := .int .i64 0) rfl (by kernel_rfl) (by kernel_rfl) (by kernel_rfl) (fun _ _ _ h => h) (Or.inl ⟨by rfl, ?_⟩) hH0 ?_
              · intro wv hSw
                try dsimp only at hSw
                go_simp
              change wpAnyH _ _ _ _ _ _ _ (Act.put _ (some 128) (.int .i64 0)) _
              simp only [Act.put, List.setIfInBounds_toArray, List.set_cons_zero, List.set_cons_succ]
              refine wpAnyH_take (i := 27) (oi := _) (v := .bool true) rfl (by kernel_rfl) (by kernel_rfl) (by kernel_rfl) (fun _ _ _ h => h) (Or.inl ⟨by rfl, ?_⟩) hH0 ?_
              · intro wv hSw
                try dsimp only at hSw
                go_simp
              change wpAnyH _ _ _ _ _ _ _ (Act.put _ (some 129) (.bool true)) _
              simp only [Act.put, List.setIfInBounds_toArray, List.set_cons_zero, List.set_cons_succ]
              refine wpAnyH_take (i := 28) (oi := _) (v := .bool true) rfl (by kernel_rfl) (by kernel_rfl) (by kernel_rfl) (fun _ _ _ h => h) (Or.inl ⟨by rfl, ?_⟩) hH0 ?_
              · intro wv hSw
                try dsimp only at hSw
                go_simp
              change wpAnyH _ _ _ _ _ _ _ (Act.put _ (some 130) (.bool true)) _
              simp only [Act.put, List.setIfInBounds_toArray, List.set_cons_zero, List.set_cons_succ]
              refine wpAnyH_take (i := 29) (oi := _) (v := .bool false) rfl (by kernel_rfl) (by kernel_rfl) (by kernel_rfl) (fun _ _ _ h => h) (Or.inl ⟨by rfl, ?_⟩) hH0 ?_
              · intro wv hSw
                try dsimp only at hSw
                go_simp
              change wpAnyH _ _ _ _ _ _ _ (Act.put _ (some 131) (.bool false)) _
              simp only [Act.put, List.setIfInBounds_toArray, List.set_cons_zero, List.set_cons_succ]
              refine wpAnyH_take (i := 30) (oi := _) (v := .bool false) rfl (by kernel_rfl) (by kernel_rfl) (by kernel_rfl) (fun _ _ _ h => h) (Or.inl ⟨by rfl, ?_⟩) hH0 ?_
              · intro wv hSw
                try dsimp only at hSw
                go_simp
              change wpAnyH _ _ _ _ _ _ _ (Act.put _ (some 132) (.bool false)) _
              simp only [Act.put, List.setIfInBounds_toArray, List.set_cons_zero, List.set_cons_succ]
              refine wpAnyH_take (i := 31) (oi := _) (v := .bool false) rfl (by kernel_rfl) (by kernel_rfl) (by kernel_rfl) (fun _ _ _ h => h) (Or.inl ⟨by rfl, ?_⟩) hH0 ?_
              · intro wv hSw
                try dsimp only at hSw
                go_simp
              change wpAnyH _ _ _ _ _ _ _ (Act.put _ (some 133) (.bool false)) _
              simp only [Act.put, List.setIfInBounds_toArray, List.set_cons_zero, List.set_cons_succ]
              refine wpAnyH_take (i := 32) (oi := _) (v := .pointer (some ⟨w1.heap.size, 13, none⟩)) rfl (by kernel_rfl) (by kernel_rfl) (by kernel_rfl) (fun _ _ _ h => h) (Or.inl ⟨by rfl, ?_⟩) hH0 ?_
              · intro wv hSw
                try dsimp only at hSw
                go_simp
              change wpAnyH _ _ _ _ _ _ _ (Act.put _ (some 134) (.pointer (some ⟨w1.heap.size, 13, none⟩))) _
              simp only [Act.put, List.setIfInBounds_toArray, List.set_cons_zero, List.set_cons_succ]
              refine wpAnyH_take (i := 33) (oi := _) (v := .slice D (H0 + 1) c) rfl (by kernel_rfl) (by kernel_rfl) (by kernel_rfl) (fun _ _ _ h => h) (Or.inl ⟨by rfl, ?_⟩) hH0 ?_
              · intro wv hSw
                try dsimp only at hSw
                go_simp
              change wpAnyH _ _ _ _ _ _ _ (Act.put _ (some 135) (.slice D (H0 + 1) c)) _
              simp only [Act.put, List.setIfInBounds_toArray, List.set_cons_zero, List.set_cons_succ]
              refine wpAnyH_take (i := 34) (oi := _) (v := .int .i64 ((H0 : Int) + 1)) rfl (by kernel_rfl) (by kernel_rfl) (by kernel_rfl) (fun _ _ _ h => h) (Or.inl ⟨by rfl, ?_⟩) hH0 ?_
              · intro wv hSw
                try dsimp only at hSw
                go_simp
              change wpAnyH _ _ _ _ _ _ _ (Act.put _ (some 136) (.int .i64 ((H0 : Int) + 1))) _
              simp only [Act.put, List.setIfInBounds_toArray, List.set_cons_zero, List.set_cons_succ]
              refine wpAnyH_take (i := 35) (oi := _) (v := .int .i64 ((H0 : Int) + 1)) rfl (by kernel_rfl) (by kernel_rfl) (by kernel_rfl) (fun _ _ _ h => h) (Or.inl ⟨by rfl, ?_⟩) hH0 ?_
              · intro wv hSw
                try dsimp only at hSw
                go_simp
              change wpAnyH _ _ _ _ _ _ _ (Act.put _ (some 137) (.int .i64 ((H0 : Int) + 1))) _
              simp only [Act.put, List.setIfInBounds_toArray, List.set_cons_zero, List.set_cons_succ]
              refine wpAnyH_take (i := 36) (oi := _) (v := .bool false) rfl (by kernel_rfl) (by kernel_rfl) (by kernel_rfl) (fun _ _ _ h => h) (Or.inl ⟨by rfl, ?_⟩) hH0 ?_
              · intro wv hSw
                try dsimp only at hSw
                go_simp
              change wpAnyH _ _ _ _ _ _ _ (Act.put _ (some 138) (.bool false)) _
              simp only [Act.put, List.setIfInBounds_toArray, List.set_cons_zero, List.set_cons_succ]
              refine wpAnyH_take (i := 37) (oi := _) (v := .bool false) rfl (by kernel_rfl) (by kernel_rfl) (by kernel_rfl) (fun _ _ _ h => h) (Or.inl ⟨by rfl, ?_⟩) hH0 ?_
              · intro wv hSw
                try dsimp only at hSw
                go_simp
              change wpAnyH _ _ _ _ _ _ _ (Act.put _ (some 139) (.bool false)) _
              simp only [Act.put, List.setIfInBounds_toArray, List.set_cons_zero, List.set_cons_succ]
              refine wpAnyH_done (by kernel_rfl) ?_ _
              clear hH0
              go_wp2_with fail
              go_meet
              exact ⟨rfl, rfl⟩
            · have d4 : wr.drew.cell? ⟨w1.heap.size, 4, none⟩ = some (.bool false) := by rw [d4]; simp [k2]
              have R0 : 0 < R := by omega
              clear eRm k2
              refine wp_region_held_drew (S := fun w' => w'.cell? ⟨w1.heap.size, 3, none⟩ = some (.int .i64 ((mn : Int) - 1)) ∧ w'.cell? ⟨w1.heap.size, 4, none⟩ = some (.bool false) ∧ w'.cell? ⟨w1.heap.size, 13, none⟩ = some (.slice D (H0 + 1) c) ∧ w'.cell? ⟨w1.heap.size, 14, none⟩ = some (.slice E m d)) (by kernel_rfl) (by exact ⟨d3, d4, d13, d14⟩) (fun hH0 => ?_)
              refine wpAnyH_take (i := 0) (oi := _) (v := .pointer (some ⟨w1.heap.size, 3, none⟩)) rfl (by kernel_rfl) (by kernel_rfl) (by kernel_rfl) (fun _ _ _ h => h) (Or.inl ⟨by rfl, ?_⟩) hH0 ?_
              · intro wv hSw
                try dsimp only at hSw
                go_simp
              change wpAnyH _ _ _ _ _ _ _ (Act.put _ (some 102) (.pointer (some ⟨w1.heap.size, 3, none⟩))) _
              simp only [Act.put, List.setIfInBounds_toArray, List.set_cons_zero, List.set_cons_succ]
              refine wpAnyH_take (i := 1) (oi := _) (v := .int .i64 ((mn : Int) - 1)) rfl (by kernel_rfl) (by kernel_rfl) (by kernel_rfl) (fun _ _ _ h => h) (Or.inl ⟨by rfl, ?_⟩) hH0 ?_
              · intro wv hSw
                try dsimp only at hSw
                go_simp
              change wpAnyH _ _ _ _ _ _ _ (Act.put _ (some 103) (.int .i64 ((mn : Int) - 1))) _
              simp only [Act.put, List.setIfInBounds_toArray, List.set_cons_zero, List.set_cons_succ]
              refine wpAnyH_take (i := 2) (oi := _) (v := .int .i64 Ln) rfl (by kernel_rfl) (by kernel_rfl) (by kernel_rfl) (fun _ _ _ h => h) (Or.inl ⟨by rfl, ?_⟩) hH0 ?_
              · intro wv hSw
                try dsimp only at hSw
                go_simp
              change wpAnyH _ _ _ _ _ _ _ (Act.put _ (some 104) (.int .i64 Ln)) _
              simp only [Act.put, List.setIfInBounds_toArray, List.set_cons_zero, List.set_cons_succ]
              refine wpAnyH_take (i := 3) (oi := _) (v := .int .i64 ((H0 : Int) + 1)) rfl (by kernel_rfl) (by kernel_rfl) (by kernel_rfl) (fun _ _ _ h => h) (Or.inl ⟨by rfl, ?_⟩) hH0 ?_
              · intro wv hSw
                try dsimp only at hSw
                go_simp
              change wpAnyH _ _ _ _ _ _ _ (Act.put _ (some 105) (.int .i64 ((H0 : Int) + 1))) _
              simp only [Act.put, List.setIfInBounds_toArray, List.set_cons_zero, List.set_cons_succ]
              refine wpAnyH_take (i := 4) (oi := _) (v := .int .i64 mn) rfl (by kernel_rfl) (by kernel_rfl) (by kernel_rfl) (fun _ _ _ h => h) (Or.inl ⟨by rfl, ?_⟩) hH0 ?_
              · intro wv hSw
                try dsimp only at hSw
                go_simp
              change wpAnyH _ _ _ _ _ _ _ (Act.put _ (some 106) (.int .i64 mn)) _
              simp only [Act.put, List.setIfInBounds_toArray, List.set_cons_zero, List.set_cons_succ]
              refine wpAnyH_take (i := 5) (oi := _) (v := .int .i64 ((mn : Int) - 1)) rfl (by kernel_rfl) (by kernel_rfl) (by kernel_rfl) (fun _ _ _ h => h) (Or.inl ⟨by rfl, ?_⟩) hH0 ?_
              · intro wv hSw
                try dsimp only at hSw
                go_simp
              change wpAnyH _ _ _ _ _ _ _ (Act.put _ (some 107) (.int .i64 ((mn : Int) - 1))) _
              simp only [Act.put, List.setIfInBounds_toArray, List.set_cons_zero, List.set_cons_succ]
              refine wpAnyH_take (i := 6) (oi := _) (v := .bool false) rfl (by kernel_rfl) (by kernel_rfl) (by kernel_rfl) (fun _ _ _ h => h) (Or.inl ⟨by rfl, ?_⟩) hH0 ?_
              · intro wv hSw
                try dsimp only at hSw
                go_simp
              change wpAnyH _ _ _ _ _ _ _ (Act.put _ (some 108) (.bool false)) _
              simp only [Act.put, List.setIfInBounds_toArray, List.set_cons_zero, List.set_cons_succ]
              refine wpAnyH_take (i := 7) (oi := _) (v := .bool false) rfl (by kernel_rfl) (by kernel_rfl) (by kernel_rfl) (fun _ _ _ h => h) (Or.inl ⟨by rfl, ?_⟩) hH0 ?_
              · intro wv hSw
                try dsimp only at hSw
                go_simp
              change wpAnyH _ _ _ _ _ _ _ (Act.put _ (some 109) (.bool false)) _
              simp only [Act.put, List.setIfInBounds_toArray, List.set_cons_zero, List.set_cons_succ]
              refine wpAnyH_take (i := 8) (oi := _) (v := .pointer (some ⟨w1.heap.size, 14, none⟩)) rfl (by kernel_rfl) (by kernel_rfl) (by kernel_rfl) (fun _ _ _ h => h) (Or.inl ⟨by rfl, ?_⟩) hH0 ?_
              · intro wv hSw
                try dsimp only at hSw
                go_simp
              change wpAnyH _ _ _ _ _ _ _ (Act.put _ (some 110) (.pointer (some ⟨w1.heap.size, 14, none⟩))) _
              simp only [Act.put, List.setIfInBounds_toArray, List.set_cons_zero, List.set_cons_succ]
              refine wpAnyH_take (i := 9) (oi := _) (v := .slice E m d) rfl (by kernel_rfl) (by kernel_rfl) (by kernel_rfl) (fun _ _ _ h => h) (Or.inl ⟨by rfl, ?_⟩) hH0 ?_
              · intro wv hSw
                try dsimp only at hSw
                go_simp
              change wpAnyH _ _ _ _ _ _ _ (Act.put _ (some 111) (.slice E m d)) _
              simp only [Act.put, List.setIfInBounds_toArray, List.set_cons_zero, List.set_cons_succ]
              refine wpAnyH_take (i := 10) (oi := _) (v := .int .i64 m) rfl (by kernel_rfl) (by kernel_rfl) (by kernel_rfl) (fun _ _ _ h => h) (Or.inl ⟨by rfl, ?_⟩) hH0 ?_
              · intro wv hSw
                try dsimp only at hSw
                go_simp
              change wpAnyH _ _ _ _ _ _ _ (Act.put _ (some 112) (.int .i64 m)) _
              simp only [Act.put, List.setIfInBounds_toArray, List.set_cons_zero, List.set_cons_succ]
              refine wpAnyH_take (i := 11) (oi := _) (v := .int .i64 Ln) rfl (by kernel_rfl) (by kernel_rfl) (by kernel_rfl) (fun _ _ _ h => h) (Or.inl ⟨by rfl, ?_⟩) hH0 ?_
              · intro wv hSw
                try dsimp only at hSw
                go_simp
              change wpAnyH _ _ _ _ _ _ _ (Act.put _ (some 113) (.int .i64 Ln)) _
              simp only [Act.put, List.setIfInBounds_toArray, List.set_cons_zero, List.set_cons_succ]
              refine wpAnyH_take (i := 12) (oi := _) (v := .int .i64 ((H0 : Int) + 1)) rfl (by kernel_rfl) (by kernel_rfl) (by kernel_rfl) (fun _ _ _ h => h) (Or.inl ⟨by rfl, ?_⟩) hH0 ?_
              · intro wv hSw
                try dsimp only at hSw
                go_simp
              change wpAnyH _ _ _ _ _ _ _ (Act.put _ (some 114) (.int .i64 ((H0 : Int) + 1))) _
              simp only [Act.put, List.setIfInBounds_toArray, List.set_cons_zero, List.set_cons_succ]
              refine wpAnyH_take (i := 13) (oi := _) (v := .int .i64 ((Ln : Int) - ((H0 : Int) + 1))) rfl (by kernel_rfl) (by kernel_rfl) (by kernel_rfl) (fun _ _ _ h => h) (Or.inl ⟨by rfl, ?_⟩) hH0 ?_
              · intro wv hSw
                try dsimp only at hSw
                go_simp
              change wpAnyH _ _ _ _ _ _ _ (Act.put _ (some 115) (.int .i64 ((Ln : Int) - ((H0 : Int) + 1)))) _
              simp only [Act.put, List.setIfInBounds_toArray, List.set_cons_zero, List.set_cons_succ]
              refine wpAnyH_take (i := 14) (oi := _) (v := .int .i64 tN) rfl (by kernel_rfl) (by kernel_rfl) (by kernel_rfl) (fun _ _ _ h => h) (Or.inl ⟨by rfl, ?_⟩) hH0 ?_
              · intro wv hSw
                try dsimp only at hSw
                go_simp
              change wpAnyH _ _ _ _ _ _ _ (Act.put _ (some 116) (.int .i64 tN)) _
              simp only [Act.put, List.setIfInBounds_toArray, List.set_cons_zero, List.set_cons_succ]
              refine wpAnyH_take (i := 15) (oi := _) (v := .int .i64 m) rfl (by kernel_rfl) (by kernel_rfl) (by kernel_rfl) (fun _ _ _ h => h) (Or.inl ⟨by rfl, ?_⟩) hH0 ?_
              · intro wv hSw
                try dsimp only at hSw
                go_simp
              change wpAnyH _ _ _ _ _ _ _ (Act.put _ (some 117) (.int .i64 m)) _
              simp only [Act.put, List.setIfInBounds_toArray, List.set_cons_zero, List.set_cons_succ]
              refine wpAnyH_take (i := 16) (oi := _) (v := .bool false) rfl (by kernel_rfl) (by kernel_rfl) (by kernel_rfl) (fun _ _ _ h => h) (Or.inl ⟨by rfl, ?_⟩) hH0 ?_
              · intro wv hSw
                try dsimp only at hSw
                go_simp
              change wpAnyH _ _ _ _ _ _ _ (Act.put _ (some 118) (.bool false)) _
              simp only [Act.put, List.setIfInBounds_toArray, List.set_cons_zero, List.set_cons_succ]
              refine wpAnyH_take (i := 17) (oi := _) (v := .bool false) rfl (by kernel_rfl) (by kernel_rfl) (by kernel_rfl) (fun _ _ _ h => h) (Or.inl ⟨by rfl, ?_⟩) hH0 ?_
              · intro wv hSw
                try dsimp only at hSw
                go_simp
              change wpAnyH _ _ _ _ _ _ _ (Act.put _ (some 119) (.bool false)) _
              simp only [Act.put, List.setIfInBounds_toArray, List.set_cons_zero, List.set_cons_succ]
              refine wpAnyH_take (i := 18) (oi := _) (v := .bool false) rfl (by kernel_rfl) (by kernel_rfl) (by kernel_rfl) (fun _ _ _ h => h) (Or.inl ⟨by rfl, ?_⟩) hH0 ?_
              · intro wv hSw
                try dsimp only at hSw
                go_simp
              change wpAnyH _ _ _ _ _ _ _ (Act.put _ (some 120) (.bool false)) _
              simp only [Act.put, List.setIfInBounds_toArray, List.set_cons_zero, List.set_cons_succ]
              refine wpAnyH_take (i := 19) (oi := _) (v := .pointer (some ⟨w1.heap.size, 4, none⟩)) rfl (by kernel_rfl) (by kernel_rfl) (by kernel_rfl) (fun _ _ _ h => h) (Or.inl ⟨by rfl, ?_⟩) hH0 ?_
              · intro wv hSw
                try dsimp only at hSw
                go_simp
              change wpAnyH _ _ _ _ _ _ _ (Act.put _ (some 121) (.pointer (some ⟨w1.heap.size, 4, none⟩))) _
              simp only [Act.put, List.setIfInBounds_toArray, List.set_cons_zero, List.set_cons_succ]
              refine wpAnyH_take (i := 20) (oi := _) (v := .bool false) rfl (by kernel_rfl) (by kernel_rfl) (by kernel_rfl) (fun _ _ _ h => h) (Or.inl ⟨by rfl, ?_⟩) hH0 ?_
              · intro wv hSw
                try dsimp only at hSw
                go_simp
              change wpAnyH _ _ _ _ _ _ _ (Act.put _ (some 122) (.bool false)) _
              simp only [Act.put, List.setIfInBounds_toArray, List.set_cons_zero, List.set_cons_succ]
              refine wpAnyH_take (i := 21) (oi := _) (v := .int .i64 k) rfl (by kernel_rfl) (by kernel_rfl) (by kernel_rfl) (fun _ _ _ h => h) (Or.inl ⟨by rfl, ?_⟩) hH0 ?_
              · intro wv hSw
                try dsimp only at hSw
                go_simp
              change wpAnyH _ _ _ _ _ _ _ (Act.put _ (some 123) (.int .i64 k)) _
              simp only [Act.put, List.setIfInBounds_toArray, List.set_cons_zero, List.set_cons_succ]
              refine wpAnyH_take (i := 22) (oi := _) (v := .bool true) rfl (by kernel_rfl) (by kernel_rfl) (by kernel_rfl) (fun _ _ _ h => h) (Or.inl ⟨by rfl, ?_⟩) hH0 ?_
              · intro wv hSw
                try dsimp only at hSw
                go_simp
                all_goals omega
              change wpAnyH _ _ _ _ _ _ _ (Act.put _ (some 124) (.bool true)) _
              simp only [Act.put, List.setIfInBounds_toArray, List.set_cons_zero, List.set_cons_succ]
              refine wpAnyH_take (i := 23) (oi := _) (v := .bool true) rfl (by kernel_rfl) (by kernel_rfl) (by kernel_rfl) (fun _ _ _ h => h) (Or.inl ⟨by rfl, ?_⟩) hH0 ?_
              · intro wv hSw
                try dsimp only at hSw
                go_simp
              change wpAnyH _ _ _ _ _ _ _ (Act.put _ (some 125) (.bool true)) _
              simp only [Act.put, List.setIfInBounds_toArray, List.set_cons_zero, List.set_cons_succ]
              refine wpAnyH_take (i := 24) (oi := _) (v := .int .i64 k) rfl (by kernel_rfl) (by kernel_rfl) (by kernel_rfl) (fun _ _ _ h => h) (Or.inl ⟨by rfl, ?_⟩) hH0 ?_
              · intro wv hSw
                try dsimp only at hSw
                go_simp
              change wpAnyH _ _ _ _ _ _ _ (Act.put _ (some 126) (.int .i64 k)) _
              simp only [Act.put, List.setIfInBounds_toArray, List.set_cons_zero, List.set_cons_succ]
              refine wpAnyH_take (i := 25) (oi := _) (v := .int .i64 ((W0 : Int) + 1)) rfl (by kernel_rfl) (by kernel_rfl) (by kernel_rfl) (fun _ _ _ h => h) (Or.inl ⟨by rfl, ?_⟩) hH0 ?_
              · intro wv hSw
                try dsimp only at hSw
                go_simp
              change wpAnyH _ _ _ _ _ _ _ (Act.put _ (some 127) (.int .i64 ((W0 : Int) + 1))) _
              simp only [Act.put, List.setIfInBounds_toArray, List.set_cons_zero, List.set_cons_succ]
              refine wpAnyH_take (i := 26) (oi := _) (v := .int .i64 (R : Int)) rfl (by kernel_rfl) (by kernel_rfl) (by kernel_rfl) (fun _ _ _ h => h) (Or.inl ⟨by rfl, ?_⟩) hH0 ?_
              · intro wv hSw
                try dsimp only at hSw
                go_simp
              change wpAnyH _ _ _ _ _ _ _ (Act.put _ (some 128) (.int .i64 (R : Int))) _
              simp only [Act.put, List.setIfInBounds_toArray, List.set_cons_zero, List.set_cons_succ]
              refine wpAnyH_take (i := 27) (oi := _) (v := .bool false) rfl (by kernel_rfl) (by kernel_rfl) (by kernel_rfl) (fun _ _ _ h => h) (Or.inl ⟨by rfl, ?_⟩) hH0 ?_
              · intro wv hSw
                try dsimp only at hSw
                go_simp
                all_goals omega
              change wpAnyH _ _ _ _ _ _ _ (Act.put _ (some 129) (.bool false)) _
              simp only [Act.put, List.setIfInBounds_toArray, List.set_cons_zero, List.set_cons_succ]
              refine wpAnyH_take (i := 28) (oi := _) (v := .bool false) rfl (by kernel_rfl) (by kernel_rfl) (by kernel_rfl) (fun _ _ _ h => h) (Or.inl ⟨by rfl, ?_⟩) hH0 ?_
              · intro wv hSw
                try dsimp only at hSw
                go_simp
              change wpAnyH _ _ _ _ _ _ _ (Act.put _ (some 130) (.bool false)) _
              simp only [Act.put, List.setIfInBounds_toArray, List.set_cons_zero, List.set_cons_succ]
              refine wpAnyH_take (i := 29) (oi := _) (v := .bool false) rfl (by kernel_rfl) (by kernel_rfl) (by kernel_rfl) (fun _ _ _ h => h) (Or.inl ⟨by rfl, ?_⟩) hH0 ?_
              · intro wv hSw
                try dsimp only at hSw
                go_simp
              change wpAnyH _ _ _ _ _ _ _ (Act.put _ (some 131) (.bool false)) _
              simp only [Act.put, List.setIfInBounds_toArray, List.set_cons_zero, List.set_cons_succ]
              refine wpAnyH_take (i := 30) (oi := _) (v := .bool false) rfl (by kernel_rfl) (by kernel_rfl) (by kernel_rfl) (fun _ _ _ h => h) (Or.inl ⟨by rfl, ?_⟩) hH0 ?_
              · intro wv hSw
                try dsimp only at hSw
                go_simp
              change wpAnyH _ _ _ _ _ _ _ (Act.put _ (some 132) (.bool false)) _
              simp only [Act.put, List.setIfInBounds_toArray, List.set_cons_zero, List.set_cons_succ]
              refine wpAnyH_take (i := 31) (oi := _) (v := .bool false) rfl (by kernel_rfl) (by kernel_rfl) (by kernel_rfl) (fun _ _ _ h => h) (Or.inl ⟨by rfl, ?_⟩) hH0 ?_
              · intro wv hSw
                try dsimp only at hSw
                go_simp
              change wpAnyH _ _ _ _ _ _ _ (Act.put _ (some 133) (.bool false)) _
              simp only [Act.put, List.setIfInBounds_toArray, List.set_cons_zero, List.set_cons_succ]
              refine wpAnyH_take (i := 32) (oi := _) (v := .pointer (some ⟨w1.heap.size, 13, none⟩)) rfl (by kernel_rfl) (by kernel_rfl) (by kernel_rfl) (fun _ _ _ h => h) (Or.inl ⟨by rfl, ?_⟩) hH0 ?_
              · intro wv hSw
                try dsimp only at hSw
                go_simp
              change wpAnyH _ _ _ _ _ _ _ (Act.put _ (some 134) (.pointer (some ⟨w1.heap.size, 13, none⟩))) _
              simp only [Act.put, List.setIfInBounds_toArray, List.set_cons_zero, List.set_cons_succ]
              refine wpAnyH_take (i := 33) (oi := _) (v := .slice D (H0 + 1) c) rfl (by kernel_rfl) (by kernel_rfl) (by kernel_rfl) (fun _ _ _ h => h) (Or.inl ⟨by rfl, ?_⟩) hH0 ?_
              · intro wv hSw
                try dsimp only at hSw
                go_simp
              change wpAnyH _ _ _ _ _ _ _ (Act.put _ (some 135) (.slice D (H0 + 1) c)) _
              simp only [Act.put, List.setIfInBounds_toArray, List.set_cons_zero, List.set_cons_succ]
              refine wpAnyH_take (i := 34) (oi := _) (v := .int .i64 ((H0 : Int) + 1)) rfl (by kernel_rfl) (by kernel_rfl) (by kernel_rfl) (fun _ _ _ h => h) (Or.inl ⟨by rfl, ?_⟩) hH0 ?_
              · intro wv hSw
                try dsimp only at hSw
                go_simp
              change wpAnyH _ _ _ _ _ _ _ (Act.put _ (some 136) (.int .i64 ((H0 : Int) + 1))) _
              simp only [Act.put, List.setIfInBounds_toArray, List.set_cons_zero, List.set_cons_succ]
              refine wpAnyH_take (i := 35) (oi := _) (v := .int .i64 ((H0 : Int) + 1)) rfl (by kernel_rfl) (by kernel_rfl) (by kernel_rfl) (fun _ _ _ h => h) (Or.inl ⟨by rfl, ?_⟩) hH0 ?_
              · intro wv hSw
                try dsimp only at hSw
                go_simp
              change wpAnyH _ _ _ _ _ _ _ (Act.put _ (some 137) (.int .i64 ((H0 : Int) + 1))) _
              simp only [Act.put, List.setIfInBounds_toArray, List.set_cons_zero, List.set_cons_succ]
              refine wpAnyH_take (i := 36) (oi := _) (v := .bool false) rfl (by kernel_rfl) (by kernel_rfl) (by kernel_rfl) (fun _ _ _ h => h) (Or.inl ⟨by rfl, ?_⟩) hH0 ?_
              · intro wv hSw
                try dsimp only at hSw
                go_simp
              change wpAnyH _ _ _ _ _ _ _ (Act.put _ (some 138) (.bool false)) _
              simp only [Act.put, List.setIfInBounds_toArray, List.set_cons_zero, List.set_cons_succ]
              refine wpAnyH_take (i := 37) (oi := _) (v := .bool false) rfl (by kernel_rfl) (by kernel_rfl) (by kernel_rfl) (fun _ _ _ h => h) (Or.inl ⟨by rfl, ?_⟩) hH0 ?_
              · intro wv hSw
                try dsimp only at hSw
                go_simp
              change wpAnyH _ _ _ _ _ _ _ (Act.put _ (some 139) (.bool false)) _
              simp only [Act.put, List.setIfInBounds_toArray, List.set_cons_zero, List.set_cons_succ]
              refine wpAnyH_done (by kernel_rfl) ?_ _
              clear hH0
              go_wp2_with fail
              go_meet
              exact ⟨rfl, rfl⟩
          · have d4 : wr.drew.cell? ⟨w1.heap.size, 4, none⟩ = some (.bool false) := by rw [d4]; simp [k0]
            clear eR eRm R
            refine wp_region_held_drew (S := fun w' => w'.cell? ⟨w1.heap.size, 3, none⟩ = some (.int .i64 ((mn : Int) - 1)) ∧ w'.cell? ⟨w1.heap.size, 4, none⟩ = some (.bool false) ∧ w'.cell? ⟨w1.heap.size, 13, none⟩ = some (.slice D (H0 + 1) c) ∧ w'.cell? ⟨w1.heap.size, 14, none⟩ = some (.slice E m d)) (by kernel_rfl) (by exact ⟨d3, d4, d13, d14⟩) (fun hH0 => ?_)
            refine wpAnyH_take (i := 0) (oi := _) (v := .pointer (some ⟨w1.heap.size, 3, none⟩)) rfl (by kernel_rfl) (by kernel_rfl) (by kernel_rfl) (fun _ _ _ h => h) (Or.inl ⟨by rfl, ?_⟩) hH0 ?_
            · intro wv hSw
              try dsimp only at hSw
              go_simp
            change wpAnyH _ _ _ _ _ _ _ (Act.put _ (some 102) (.pointer (some ⟨w1.heap.size, 3, none⟩))) _
            simp only [Act.put, List.setIfInBounds_toArray, List.set_cons_zero, List.set_cons_succ]
            refine wpAnyH_take (i := 1) (oi := _) (v := .int .i64 ((mn : Int) - 1)) rfl (by kernel_rfl) (by kernel_rfl) (by kernel_rfl) (fun _ _ _ h => h) (Or.inl ⟨by rfl, ?_⟩) hH0 ?_
            · intro wv hSw
              try dsimp only at hSw
              go_simp
            change wpAnyH _ _ _ _ _ _ _ (Act.put _ (some 103) (.int .i64 ((mn : Int) - 1))) _
            simp only [Act.put, List.setIfInBounds_toArray, List.set_cons_zero, List.set_cons_succ]
            refine wpAnyH_take (i := 2) (oi := _) (v := .int .i64 Ln) rfl (by kernel_rfl) (by kernel_rfl) (by kernel_rfl) (fun _ _ _ h => h) (Or.inl ⟨by rfl, ?_⟩) hH0 ?_
            · intro wv hSw
              try dsimp only at hSw
              go_simp
            change wpAnyH _ _ _ _ _ _ _ (Act.put _ (some 104) (.int .i64 Ln)) _
            simp only [Act.put, List.setIfInBounds_toArray, List.set_cons_zero, List.set_cons_succ]
            refine wpAnyH_take (i := 3) (oi := _) (v := .int .i64 ((H0 : Int) + 1)) rfl (by kernel_rfl) (by kernel_rfl) (by kernel_rfl) (fun _ _ _ h => h) (Or.inl ⟨by rfl, ?_⟩) hH0 ?_
            · intro wv hSw
              try dsimp only at hSw
              go_simp
            change wpAnyH _ _ _ _ _ _ _ (Act.put _ (some 105) (.int .i64 ((H0 : Int) + 1))) _
            simp only [Act.put, List.setIfInBounds_toArray, List.set_cons_zero, List.set_cons_succ]
            refine wpAnyH_take (i := 4) (oi := _) (v := .int .i64 mn) rfl (by kernel_rfl) (by kernel_rfl) (by kernel_rfl) (fun _ _ _ h => h) (Or.inl ⟨by rfl, ?_⟩) hH0 ?_
            · intro wv hSw
              try dsimp only at hSw
              go_simp
            change wpAnyH _ _ _ _ _ _ _ (Act.put _ (some 106) (.int .i64 mn)) _
            simp only [Act.put, List.setIfInBounds_toArray, List.set_cons_zero, List.set_cons_succ]
            refine wpAnyH_take (i := 5) (oi := _) (v := .int .i64 ((mn : Int) - 1)) rfl (by kernel_rfl) (by kernel_rfl) (by kernel_rfl) (fun _ _ _ h => h) (Or.inl ⟨by rfl, ?_⟩) hH0 ?_
            · intro wv hSw
              try dsimp only at hSw
              go_simp
            change wpAnyH _ _ _ _ _ _ _ (Act.put _ (some 107) (.int .i64 ((mn : Int) - 1))) _
            simp only [Act.put, List.setIfInBounds_toArray, List.set_cons_zero, List.set_cons_succ]
            refine wpAnyH_take (i := 6) (oi := _) (v := .bool false) rfl (by kernel_rfl) (by kernel_rfl) (by kernel_rfl) (fun _ _ _ h => h) (Or.inl ⟨by rfl, ?_⟩) hH0 ?_
            · intro wv hSw
              try dsimp only at hSw
              go_simp
            change wpAnyH _ _ _ _ _ _ _ (Act.put _ (some 108) (.bool false)) _
            simp only [Act.put, List.setIfInBounds_toArray, List.set_cons_zero, List.set_cons_succ]
            refine wpAnyH_take (i := 7) (oi := _) (v := .bool false) rfl (by kernel_rfl) (by kernel_rfl) (by kernel_rfl) (fun _ _ _ h => h) (Or.inl ⟨by rfl, ?_⟩) hH0 ?_
            · intro wv hSw
              try dsimp only at hSw
              go_simp
            change wpAnyH _ _ _ _ _ _ _ (Act.put _ (some 109) (.bool false)) _
            simp only [Act.put, List.setIfInBounds_toArray, List.set_cons_zero, List.set_cons_succ]
            refine wpAnyH_take (i := 8) (oi := _) (v := .pointer (some ⟨w1.heap.size, 14, none⟩)) rfl (by kernel_rfl) (by kernel_rfl) (by kernel_rfl) (fun _ _ _ h => h) (Or.inl ⟨by rfl, ?_⟩) hH0 ?_
            · intro wv hSw
              try dsimp only at hSw
              go_simp
            change wpAnyH _ _ _ _ _ _ _ (Act.put _ (some 110) (.pointer (some ⟨w1.heap.size, 14, none⟩))) _
            simp only [Act.put, List.setIfInBounds_toArray, List.set_cons_zero, List.set_cons_succ]
            refine wpAnyH_take (i := 9) (oi := _) (v := .slice E m d) rfl (by kernel_rfl) (by kernel_rfl) (by kernel_rfl) (fun _ _ _ h => h) (Or.inl ⟨by rfl, ?_⟩) hH0 ?_
            · intro wv hSw
              try dsimp only at hSw
              go_simp
            change wpAnyH _ _ _ _ _ _ _ (Act.put _ (some 111) (.slice E m d)) _
            simp only [Act.put, List.setIfInBounds_toArray, List.set_cons_zero, List.set_cons_succ]
            refine wpAnyH_take (i := 10) (oi := _) (v := .int .i64 m) rfl (by kernel_rfl) (by kernel_rfl) (by kernel_rfl) (fun _ _ _ h => h) (Or.inl ⟨by rfl, ?_⟩) hH0 ?_
            · intro wv hSw
              try dsimp only at hSw
              go_simp
            change wpAnyH _ _ _ _ _ _ _ (Act.put _ (some 112) (.int .i64 m)) _
            simp only [Act.put, List.setIfInBounds_toArray, List.set_cons_zero, List.set_cons_succ]
            refine wpAnyH_take (i := 11) (oi := _) (v := .int .i64 Ln) rfl (by kernel_rfl) (by kernel_rfl) (by kernel_rfl) (fun _ _ _ h => h) (Or.inl ⟨by rfl, ?_⟩) hH0 ?_
            · intro wv hSw
              try dsimp only at hSw
              go_simp
            change wpAnyH _ _ _ _ _ _ _ (Act.put _ (some 113) (.int .i64 Ln)) _
            simp only [Act.put, List.setIfInBounds_toArray, List.set_cons_zero, List.set_cons_succ]
            refine wpAnyH_take (i := 12) (oi := _) (v := .int .i64 ((H0 : Int) + 1)) rfl (by kernel_rfl) (by kernel_rfl) (by kernel_rfl) (fun _ _ _ h => h) (Or.inl ⟨by rfl, ?_⟩) hH0 ?_
            · intro wv hSw
              try dsimp only at hSw
              go_simp
            change wpAnyH _ _ _ _ _ _ _ (Act.put _ (some 114) (.int .i64 ((H0 : Int) + 1))) _
            simp only [Act.put, List.setIfInBounds_toArray, List.set_cons_zero, List.set_cons_succ]
            refine wpAnyH_take (i := 13) (oi := _) (v := .int .i64 ((Ln : Int) - ((H0 : Int) + 1))) rfl (by kernel_rfl) (by kernel_rfl) (by kernel_rfl) (fun _ _ _ h => h) (Or.inl ⟨by rfl, ?_⟩) hH0 ?_
            · intro wv hSw
              try dsimp only at hSw
              go_simp
            change wpAnyH _ _ _ _ _ _ _ (Act.put _ (some 115) (.int .i64 ((Ln : Int) - ((H0 : Int) + 1)))) _
            simp only [Act.put, List.setIfInBounds_toArray, List.set_cons_zero, List.set_cons_succ]
            refine wpAnyH_take (i := 14) (oi := _) (v := .int .i64 tN) rfl (by kernel_rfl) (by kernel_rfl) (by kernel_rfl) (fun _ _ _ h => h) (Or.inl ⟨by rfl, ?_⟩) hH0 ?_
            · intro wv hSw
              try dsimp only at hSw
              go_simp
            change wpAnyH _ _ _ _ _ _ _ (Act.put _ (some 116) (.int .i64 tN)) _
            simp only [Act.put, List.setIfInBounds_toArray, List.set_cons_zero, List.set_cons_succ]
            refine wpAnyH_take (i := 15) (oi := _) (v := .int .i64 m) rfl (by kernel_rfl) (by kernel_rfl) (by kernel_rfl) (fun _ _ _ h => h) (Or.inl ⟨by rfl, ?_⟩) hH0 ?_
            · intro wv hSw
              try dsimp only at hSw
              go_simp
            change wpAnyH _ _ _ _ _ _ _ (Act.put _ (some 117) (.int .i64 m)) _
            simp only [Act.put, List.setIfInBounds_toArray, List.set_cons_zero, List.set_cons_succ]
            refine wpAnyH_take (i := 16) (oi := _) (v := .bool false) rfl (by kernel_rfl) (by kernel_rfl) (by kernel_rfl) (fun _ _ _ h => h) (Or.inl ⟨by rfl, ?_⟩) hH0 ?_
            · intro wv hSw
              try dsimp only at hSw
              go_simp
            change wpAnyH _ _ _ _ _ _ _ (Act.put _ (some 118) (.bool false)) _
            simp only [Act.put, List.setIfInBounds_toArray, List.set_cons_zero, List.set_cons_succ]
            refine wpAnyH_take (i := 17) (oi := _) (v := .bool false) rfl (by kernel_rfl) (by kernel_rfl) (by kernel_rfl) (fun _ _ _ h => h) (Or.inl ⟨by rfl, ?_⟩) hH0 ?_
            · intro wv hSw
              try dsimp only at hSw
              go_simp
            change wpAnyH _ _ _ _ _ _ _ (Act.put _ (some 119) (.bool false)) _
            simp only [Act.put, List.setIfInBounds_toArray, List.set_cons_zero, List.set_cons_succ]
            refine wpAnyH_take (i := 18) (oi := _) (v := .bool false) rfl (by kernel_rfl) (by kernel_rfl) (by kernel_rfl) (fun _ _ _ h => h) (Or.inl ⟨by rfl, ?_⟩) hH0 ?_
            · intro wv hSw
              try dsimp only at hSw
              go_simp
            change wpAnyH _ _ _ _ _ _ _ (Act.put _ (some 120) (.bool false)) _
            simp only [Act.put, List.setIfInBounds_toArray, List.set_cons_zero, List.set_cons_succ]
            refine wpAnyH_take (i := 19) (oi := _) (v := .pointer (some ⟨w1.heap.size, 4, none⟩)) rfl (by kernel_rfl) (by kernel_rfl) (by kernel_rfl) (fun _ _ _ h => h) (Or.inl ⟨by rfl, ?_⟩) hH0 ?_
            · intro wv hSw
              try dsimp only at hSw
              go_simp
            change wpAnyH _ _ _ _ _ _ _ (Act.put _ (some 121) (.pointer (some ⟨w1.heap.size, 4, none⟩))) _
            simp only [Act.put, List.setIfInBounds_toArray, List.set_cons_zero, List.set_cons_succ]
            refine wpAnyH_take (i := 20) (oi := _) (v := .bool false) rfl (by kernel_rfl) (by kernel_rfl) (by kernel_rfl) (fun _ _ _ h => h) (Or.inl ⟨by rfl, ?_⟩) hH0 ?_
            · intro wv hSw
              try dsimp only at hSw
              go_simp
            change wpAnyH _ _ _ _ _ _ _ (Act.put _ (some 122) (.bool false)) _
            simp only [Act.put, List.setIfInBounds_toArray, List.set_cons_zero, List.set_cons_succ]
            refine wpAnyH_take (i := 21) (oi := _) (v := .int .i64 k) rfl (by kernel_rfl) (by kernel_rfl) (by kernel_rfl) (fun _ _ _ h => h) (Or.inl ⟨by rfl, ?_⟩) hH0 ?_
            · intro wv hSw
              try dsimp only at hSw
              go_simp
            change wpAnyH _ _ _ _ _ _ _ (Act.put _ (some 123) (.int .i64 k)) _
            simp only [Act.put, List.setIfInBounds_toArray, List.set_cons_zero, List.set_cons_succ]
            refine wpAnyH_take (i := 22) (oi := _) (v := .bool false) rfl (by kernel_rfl) (by kernel_rfl) (by kernel_rfl) (fun _ _ _ h => h) (Or.inl ⟨by rfl, ?_⟩) hH0 ?_
            · intro wv hSw
              try dsimp only at hSw
              go_simp
              all_goals omega
            change wpAnyH _ _ _ _ _ _ _ (Act.put _ (some 124) (.bool false)) _
            simp only [Act.put, List.setIfInBounds_toArray, List.set_cons_zero, List.set_cons_succ]
            refine wpAnyH_take (i := 23) (oi := _) (v := .bool false) rfl (by kernel_rfl) (by kernel_rfl) (by kernel_rfl) (fun _ _ _ h => h) (Or.inl ⟨by rfl, ?_⟩) hH0 ?_
            · intro wv hSw
              try dsimp only at hSw
              go_simp
            change wpAnyH _ _ _ _ _ _ _ (Act.put _ (some 125) (.bool false)) _
            simp only [Act.put, List.setIfInBounds_toArray, List.set_cons_zero, List.set_cons_succ]
            refine wpAnyH_take (i := 24) (oi := _) (v := undef) rfl (by kernel_rfl) (by kernel_rfl) (by kernel_rfl) (fun _ _ _ h => h) (Or.inr ⟨by rfl, rfl⟩) hH0 ?_
            change wpAnyH _ _ _ _ _ _ _ (Act.put _ (some 126) undef) _
            simp only [Act.put, List.setIfInBounds_toArray, List.set_cons_zero, List.set_cons_succ]
            refine wpAnyH_take (i := 25) (oi := _) (v := undef) rfl (by kernel_rfl) (by kernel_rfl) (by kernel_rfl) (fun _ _ _ h => h) (Or.inr ⟨by rfl, rfl⟩) hH0 ?_
            change wpAnyH _ _ _ _ _ _ _ (Act.put _ (some 127) undef) _
            simp only [Act.put, List.setIfInBounds_toArray, List.set_cons_zero, List.set_cons_succ]
            refine wpAnyH_take (i := 26) (oi := _) (v := undef) rfl (by kernel_rfl) (by kernel_rfl) (by kernel_rfl) (fun _ _ _ h => h) (Or.inr ⟨by rfl, rfl⟩) hH0 ?_
            change wpAnyH _ _ _ _ _ _ _ (Act.put _ (some 128) undef) _
            simp only [Act.put, List.setIfInBounds_toArray, List.set_cons_zero, List.set_cons_succ]
            refine wpAnyH_take (i := 27) (oi := _) (v := undef) rfl (by kernel_rfl) (by kernel_rfl) (by kernel_rfl) (fun _ _ _ h => h) (Or.inr ⟨by rfl, rfl⟩) hH0 ?_
            change wpAnyH _ _ _ _ _ _ _ (Act.put _ (some 129) undef) _
            simp only [Act.put, List.setIfInBounds_toArray, List.set_cons_zero, List.set_cons_succ]
            refine wpAnyH_take (i := 28) (oi := _) (v := .bool false) rfl (by kernel_rfl) (by kernel_rfl) (by kernel_rfl) (fun _ _ _ h => h) (Or.inl ⟨by rfl, ?_⟩) hH0 ?_
            · intro wv hSw
              try dsimp only at hSw
              go_simp
            change wpAnyH _ _ _ _ _ _ _ (Act.put _ (some 130) (.bool false)) _
            simp only [Act.put, List.setIfInBounds_toArray, List.set_cons_zero, List.set_cons_succ]
            refine wpAnyH_take (i := 29) (oi := _) (v := .bool false) rfl (by kernel_rfl) (by kernel_rfl) (by kernel_rfl) (fun _ _ _ h => h) (Or.inl ⟨by rfl, ?_⟩) hH0 ?_
            · intro wv hSw
              try dsimp only at hSw
              go_simp
            change wpAnyH _ _ _ _ _ _ _ (Act.put _ (some 131) (.bool false)) _
            simp only [Act.put, List.setIfInBounds_toArray, List.set_cons_zero, List.set_cons_succ]
            refine wpAnyH_take (i := 30) (oi := _) (v := .bool false) rfl (by kernel_rfl) (by kernel_rfl) (by kernel_rfl) (fun _ _ _ h => h) (Or.inl ⟨by rfl, ?_⟩) hH0 ?_
            · intro wv hSw
              try dsimp only at hSw
              go_simp
            change wpAnyH _ _ _ _ _ _ _ (Act.put _ (some 132) (.bool false)) _
            simp only [Act.put, List.setIfInBounds_toArray, List.set_cons_zero, List.set_cons_succ]
            refine wpAnyH_take (i := 31) (oi := _) (v := .bool false) rfl (by kernel_rfl) (by kernel_rfl) (by kernel_rfl) (fun _ _ _ h => h) (Or.inl ⟨by rfl, ?_⟩) hH0 ?_
            · intro wv hSw
              try dsimp only at hSw
              go_simp
            change wpAnyH _ _ _ _ _ _ _ (Act.put _ (some 133) (.bool false)) _
            simp only [Act.put, List.setIfInBounds_toArray, List.set_cons_zero, List.set_cons_succ]
            refine wpAnyH_take (i := 32) (oi := _) (v := .pointer (some ⟨w1.heap.size, 13, none⟩)) rfl (by kernel_rfl) (by kernel_rfl) (by kernel_rfl) (fun _ _ _ h => h) (Or.inl ⟨by rfl, ?_⟩) hH0 ?_
            · intro wv hSw
              try dsimp only at hSw
              go_simp
            change wpAnyH _ _ _ _ _ _ _ (Act.put _ (some 134) (.pointer (some ⟨w1.heap.size, 13, none⟩))) _
            simp only [Act.put, List.setIfInBounds_toArray, List.set_cons_zero, List.set_cons_succ]
            refine wpAnyH_take (i := 33) (oi := _) (v := .slice D (H0 + 1) c) rfl (by kernel_rfl) (by kernel_rfl) (by kernel_rfl) (fun _ _ _ h => h) (Or.inl ⟨by rfl, ?_⟩) hH0 ?_
            · intro wv hSw
              try dsimp only at hSw
              go_simp
            change wpAnyH _ _ _ _ _ _ _ (Act.put _ (some 135) (.slice D (H0 + 1) c)) _
            simp only [Act.put, List.setIfInBounds_toArray, List.set_cons_zero, List.set_cons_succ]
            refine wpAnyH_take (i := 34) (oi := _) (v := .int .i64 ((H0 : Int) + 1)) rfl (by kernel_rfl) (by kernel_rfl) (by kernel_rfl) (fun _ _ _ h => h) (Or.inl ⟨by rfl, ?_⟩) hH0 ?_
            · intro wv hSw
              try dsimp only at hSw
              go_simp
            change wpAnyH _ _ _ _ _ _ _ (Act.put _ (some 136) (.int .i64 ((H0 : Int) + 1))) _
            simp only [Act.put, List.setIfInBounds_toArray, List.set_cons_zero, List.set_cons_succ]
            refine wpAnyH_take (i := 35) (oi := _) (v := .int .i64 ((H0 : Int) + 1)) rfl (by kernel_rfl) (by kernel_rfl) (by kernel_rfl) (fun _ _ _ h => h) (Or.inl ⟨by rfl, ?_⟩) hH0 ?_
            · intro wv hSw
              try dsimp only at hSw
              go_simp
            change wpAnyH _ _ _ _ _ _ _ (Act.put _ (some 137) (.int .i64 ((H0 : Int) + 1))) _
            simp only [Act.put, List.setIfInBounds_toArray, List.set_cons_zero, List.set_cons_succ]
            refine wpAnyH_take (i := 36) (oi := _) (v := .bool false) rfl (by kernel_rfl) (by kernel_rfl) (by kernel_rfl) (fun _ _ _ h => h) (Or.inl ⟨by rfl, ?_⟩) hH0 ?_
            · intro wv hSw
              try dsimp only at hSw
              go_simp
            change wpAnyH _ _ _ _ _ _ _ (Act.put _ (some 138) (.bool false)) _
            simp only [Act.put, List.setIfInBounds_toArray, List.set_cons_zero, List.set_cons_succ]
            refine wpAnyH_take (i := 37) (oi := _) (v := .bool false) rfl (by kernel_rfl) (by kernel_rfl) (by kernel_rfl) (fun _ _ _ h => h) (Or.inl ⟨by rfl, ?_⟩) hH0 ?_
            · intro wv hSw
              try dsimp only at hSw
              go_simp
            change wpAnyH _ _ _ _ _ _ _ (Act.put _ (some 139) (.bool false)) _
            simp only [Act.put, List.setIfInBounds_toArray, List.set_cons_zero, List.set_cons_succ]
            refine wpAnyH_done (by kernel_rfl) ?_ _
            clear hH0
            go_wp2_with fail
            go_meet
            exact ⟨rfl, rfl⟩
        case rest =>
          obtain ⟨rfl, hww⟩ := hcut
          subst hww
          clear d3 d4 d14 g1 g2 g5
          have hrl : ∀ y (hy : y < s.L.length), s.L[y].length = W0 + 1 := fun y hy => o1.rows _ (List.getElem_mem hy)
          have hln := o1.ln
          have HRL := Lib.hid hrl
          have HLN := Lib.hid hln
          clear o1 hrl hln
          generalize wr.drew = wd at *
          go_wp2_with fail
          go_loopw [147] (fun i wx => ∃ yk : Nat, i = .int .i64 (yk : Int) ∧ yk ≤ H0 + 1 ∧ wx = wd) (fun i _ => H0 + 1 - (intOf i).toNat)
          case atStart => exact ⟨0, rfl, by omega, rfl⟩
          case round =>
            obtain ⟨yk, rfl, hyk, hwd⟩ := hrel
            subst hwd
            by_cases hy : yk < H0 + 1
            · have hyi : (yk : Int) < (H0 : Int) + 1 := by omega
              have hyl : yk < s.L.length := by rw [HLN.out]; exact hy
              obtain ⟨tb, tq, R, cr, eD, _, _, _, t0, hcr, r0⟩ := HSC.out.rows.at yk hyl
              rw [HRL.out yk hyl] at t0 hcr
              have HR0 := Lib.hid r0
              clear r0
              subst eD
              obtain ⟨M, eM, hM⟩ : ∃ M : Nat, ((tN : Int) + (yk : Int)) * ((W0 : Int) + 1) = (M : Int) ∧ M = (tN + yk) * (W0 + 1) := ⟨(tN + yk) * (W0 + 1), by push_cast; rfl, rfl⟩
              have hMb : M ≤ 600 := by
                rw [hM]
                exact Nat.le_trans (Nat.mul_le_mul (show tN + yk ≤ 66 by omega) (show W0 + 1 ≤ 8 by omega)) (by decide)
              have s1 : IntKind.i64.wrap ((tN : Int) + (yk : Int)) = (tN : Int) + (yk : Int) := IntWalk.i64_in _ (by omega)
              have s2 : IntKind.i64.wrap (M : Int) = (M : Int) := IntWalk.i64_in _ (by omega)
              have HM := Lib.hid hM
              clear hM
              go_wp2_with fail
              go_loopw [156] (fun i wx => ∃ xk : Nat, i = .int .i64 (xk : Int) ∧ xk ≤ W0 + 1 ∧ wx = wr) (fun i _ => W0 + 1 - (intOf i).toNat)
              case atStart => exact ⟨0, rfl, by omega, rfl⟩
              case round =>
                obtain ⟨xk, rfl, hxk, hwd⟩ := hrel
                subst hwd
                by_cases hx : xk < W0 + 1
                · have hxi : (xk : Int) < (W0 : Int) + 1 := by omega
                  have hxl : xk < s.L[yk].length := by rw [HRL.out yk hyl]; exact hx
                  have hru : s.L[yk][xk].r = if M + xk < k then 65 + ((M + xk : Nat) : Int) else 32 := by
                    have := HF3.out yk hy xk hx
                    rw [runeAt_eq _ _ _ hyl hxl, ← HM.out] at this
                    exact this
                  obtain ⟨rb, ro, eR, _, _, _, q0, _⟩ := HR0.out xk hxl
                  subst eR
                  have s3 : IntKind.i64.wrap ((M : Int) + (xk : Int)) = (M : Int) + (xk : Int) := IntWalk.i64_in _ (by omega)
                  by_cases hmk : M + xk < k
                  · have hmi : (M : Int) + (xk : Int) < (k : Int) := by omega
                    rw [if_pos hmk] at hru
                    have hru' : s.L[yk][xk].r = 65 + ((M : Int) + (xk : Int)) := by rw [hru]; omega
                    rw [hru'] at q0
                    have s4 : IntKind.i64.wrap (65 + ((M : Int) + (xk : Int))) = 65 + ((M : Int) + (xk : Int)) := IntWalk.i64_in _ (by omega)
                    have s5 : IntKind.i32.wrap (65 + ((M : Int) + (xk : Int))) = 65 + ((M : Int) + (xk : Int)) := IntWalk.i32_in _ (by omega)
                    clear hru hru'
                    go_wp2_with fail
                    go_roundw
                    case rel => exact ⟨xk + 1, by go_num, by omega, trivial⟩
                    case measure => simp [intOf]; omega
                  · have hmi : ¬ (M : Int) + (xk : Int) < (k : Int) := by omega
                    rw [if_neg hmk] at hru
                    rw [hru] at q0
                    clear hru
                    go_wp2_with fail
                    go_roundw
                    case rel => exact ⟨xk + 1, by go_num, by omega, trivial⟩
                    case measure => simp [intOf]; omega
                · have hxi : ¬ (xk : Int) < (W0 : Int) + 1 := by omega
                  go_wp2_with fail
                  go_roundw
                  case rel => exact ⟨yk + 1, by go_num, by omega, trivial⟩
                  case measure => simp [intOf]; omega
            · have hyi : ¬ (yk : Int) < (H0 : Int) + 1 := by omega
              go_wp2_with (go_at_call 11; refine (awake_any _).mono ?_; rintro e w6 ⟨rfl, b6⟩)
              go_ret
              exact ⟨rfl, bd.trans (b6.mono bd.size)⟩
end Go.Proofs.Ytmejehanfhampaa
