/-
  The walk of TreeBack. No condition but that a row of numbers came in.
-/
import Derived.Test.YtojgmofpgefonaaPlain6
import Derived.Test.YtojgmofpgefonaaB7
namespace Go.Proofs.Ytojgmofpgefonaa
open Go.RowKit
set_option linter.unusedSimpArgs false
set_option linter.unusedVariables false
set_option maxRecDepth 100000

def RmRel (w : World) (q s : Nat) (n0 : Int) (n i : Value) (wr : World) : Prop := ∃ k : Nat, i = .int .i64 k ∧ k ≤ s ∧ n = .int .i64 (if q < k then n0 else 0) ∧ Below w.heap.size w wr
def CntRel (w : World) (l : List Int) (c i : Value) (wr : World) : Prop := ∃ k : Nat, i = .int .i64 k ∧ k ≤ l.length ∧ c = .int .i64 (cnt l k : Nat) ∧ Below w.heap.size w wr

/-- A tree split, or none. -/
theorem split_opt (l : List N) (t : T) (D : Option Addr) (c B : Nat) (at_ d : Int) (r : Nat) (w : World) (h : TabAt B w D (EN.flat l)) (ht : Is l t) (hc : l.length ≤ c) (hf : t.fits (win 30 20))
    (ha : at_ ∈ t.panes) (hfn : 99 ∉ t.panes) (hs : t.size ≤ 61) (hd : d = 1 ∨ d = 2) :
    Calls Try.prog 16 #[.agg #[.slice D l.length c], .int .i64 30, .int .i64 20, .int .i64 at_, .int .i64 99, .int .i64 d, .float .f64 r] w
      (fun e w' => ∃ (D' : Option Addr) (n c' : Nat) (ok : Bool), e = .returned (.tuple #[.agg #[.slice D' n c'], .bool ok]) ∧
        (3 ≤ t.room at_ d (win 30 20) → ok = true ∧ n = t.size + 2 ∧ n ≤ c' ∧ ∃ f, 1 ≤ f ∧ f ≤ t.room at_ d (win 30 20) - 2 ∧ TabAt 0 w' D' (EN.flat ((t.split at_ 99 d f).flat 0))) ∧
        (¬ 3 ≤ t.room at_ d (win 30 20) → ok = false ∧ n = 0) ∧ Below w.heap.size w w') := by
  refine (split_any l t D c B 30 20 at_ 99 d r w h ht hc win_in hf ha (by omega) hfn hs hd).mono ?_
  intro e w' hp
  by_cases hr : 3 ≤ t.room at_ d (win 30 20)
  · rw [if_pos hr] at hp
    obtain ⟨D', c', rfl, hc', ht', hb⟩ := hp
    have hl : ((t.split at_ 99 d (heldF (partF (t.room at_ d (win 30 20) - 1) r) 1 (t.room at_ d (win 30 20) - 2))).flat 0).length = t.size + 2 := by rw [T.flat_len, T.split_size ha ht.un]
    rw [hl] at hc' ⊢
    refine ⟨D', _, c', true, rfl, fun _ => ⟨rfl, rfl, hc', _, ?_, ?_, ht'.weak (Nat.zero_le _)⟩, fun h => absurd hr h, hb⟩
    · unfold heldF; omega
    · unfold heldF; omega
  · rw [if_neg hr] at hp
    obtain ⟨rfl, hb⟩ := hp
    exact ⟨none, 0, 0, false, rfl, fun h => absurd h hr, fun _ => ⟨rfl, rfl⟩, hb⟩

set_option maxHeartbeats 16000000 in
theorem back_any (l : List Int) (D0 : Option Addr) (c0 : Nat) (a0 b0 u0 : Int) (w : World) (h : RdI w D0 l) (hu0 : 0 ≤ u0) (hu1 : u0 < 18446744073709551616) :
    Calls Try.prog 4 #[.slice D0 l.length c0, .int .i64 a0, .int .i64 b0, .int .u64 u0] w (TrueB w) := by
  have HT := Lib.hid (tree_any l D0 c0 w h)
  clear h
  go_enter Try.func4, Try.ntmps4
  go_wp2_with fail
  refine HT.out.mono ?_
  rintro x w1 ⟨t, D, c, rfl, hc, hg, ht, h1⟩
  have is := hg.is (Nat.le_refl _)
  have hnt : (t.flat 0).length = t.size := T.flat_len _ _
  rw [hnt] at hc ⊢
  have v1 := VT.new (n := t.size) (c := c) (ht.weak (Nat.zero_le _))
  have b1 := Lib.hid (h1.trans ((below_new w1 (.cells #[.slice D t.size c] 30)).mono h1.size))
  have q0 := v1.1.cell
  have HP := Lib.hid (fun w' h => panesT (t.flat 0) t is D c 0 w' h)
  rw [hnt] at HP
  clear ht h1
  go_wp2_with fail
  refine (HP.out _ v1.2).mono ?_
  intro x w2 h2
  obtain ⟨P, pc, rfl, tP, h2⟩ := OwnP.lit h2 rfl
  have v2 := v1.below h2
  have b2 := Lib.hid (b1.out.trans (h2.mono b1.out.size))
  clear v1 h2 q0
  obtain ⟨a1, ha1, hA1⟩ := gmask255 a0
  obtain ⟨a2, ha2, hA2⟩ := gmask1 b0
  have hnp : 0 < t.panes.length := by have := t.panes_size; have := t.size_pos; omega
  have i1 : a1 % t.panes.length < t.panes.length := Nat.mod_lt _ hnp
  have r1 := tmod_nat a1 t.panes.length
  obtain ⟨bp, op, rfl, _, hbp, _, y1⟩ := int_at tP (a1 % t.panes.length) _ (List.getElem?_eq_getElem i1)
  have m1 : t.panes[a1 % t.panes.length] ∈ t.panes := List.getElem_mem i1
  generalize t.panes[a1 % t.panes.length] = a at *
  generalize a1 % t.panes.length = ix at *
  obtain ⟨d, hdd⟩ : ∃ d : Int, d = (a2 : Int) + 1 := ⟨_, rfl⟩
  have hd : d = 1 ∨ d = 2 := by omega
  subst hdd
  have HD := Lib.hid hd
  obtain ⟨nu, hnu, hnu2⟩ : ∃ nu : Nat, u0 % 1001 = (nu : Int) ∧ nu < 2 ^ 52 := ⟨(u0 % 1001).toNat, by omega, by omega⟩
  obtain ⟨r, q2⟩ := quo_some nu 1000 hnu2 (by omega) (by omega)
  rw [show floatOfInt .f64 ((1000 : Nat) : Int) = 4652007308841189376 by decide +kernel, ← hnu] at q2
  have hq2 : ∀ t w, (binOp .quo t (.float .f64 (floatOfInt .f64 (u0 % 1001))) (.float .f64 4652007308841189376)).run Try.prog w = .ok (.float .f64 r) w := fun t w => run_float_arith w .quo t .f64 _ _ _ q2
  have hn99 : (99 : Int) ∉ t.panes := fun hp => by have := (hg.low _ hp).2; omega
  have hsz := hg.size
  have sl := spots_small t (win 30 20) (by omega)
  obtain ⟨q, s, hq, hsp, hun⟩ := T.spot_one (r := win 30 20) is.un m1
  have hroom := T.room_of (d := ((a2 : Int) + 1)) is.un (List.mem_of_getElem? hq) hsp
  have H1 := Lib.hid (fun w' h => split_opt (t.flat 0) t D c 0 a ((a2 : Int) + 1) r w' h is (by omega) hg.fits m1 hn99 (by omega) hd)
  have H2 := Lib.hid (fun w' h => rPlaces_any (t.flat 0) t D c 0 30 20 w' h is win_in hg.fits)
  have HI := Lib.hid (fun f (h1 : 1 ≤ f) (h2 : f ≤ t.room a ((a2 : Int) + 1) (win 30 20) - 2) (h3 : t.room a ((a2 : Int) + 1) (win 30 20) ≤ 1000) => (show Is ((t.split a 99 ((a2 : Int) + 1) f).flat 0) (t.split a 99 ((a2 : Int) + 1) f) from
    ⟨rfl, T.split_ok is.ok hd h1 (by omega) (by omega), by rw [T.split_size m1 is.un]; omega, T.split_nodup is.un hn99⟩))
  rw [hnt] at H1 H2
  have HS := Lib.hid hsp
  have HQ := Lib.hid hq
  have HU := Lib.hid hun
  have HIn := Lib.hid (T.fits_in is.ok win_in hg.fits s (List.mem_of_getElem? hq))
  have HR := Lib.hid hroom
  have HM := Lib.hid m1
  have HG := Lib.hid hg
  have HX := Lib.hid (And.intro is hnt)
  have HN := Lib.hid hn99
  have htm : u0.tmod 1001 = u0 % 1001 := Int.tmod_eq_emod_of_nonneg hu0
  clear q2 hnu hnu2 hq hsp hun hroom m1 hg is hnt hn99 hd HP
  have hnn : ¬ t.panes.length = 0 := by omega
  have TP := Lib.hid (fun w' (hb : Below w2.heap.size w2 w') => TabAt.below tP hb (Nat.le_refl _))
  clear tP
  have q0 := v2.1.cell
  go_upto_region 6 with (first | rw [hA1] | rw [hA2])
  go_wp2_with (first | rw [htm] | rw [hq2])
  refine (H1.out _ v2.2).mono ?_
  rintro x w3 ⟨D3, n3, c3, ok, rfl, hY, hNo, h3⟩
  clear htm hq2 hA1 hA2 q0 y1 hbp i1 r1 hu0 hu1 ha1
  generalize (a2 : Int) + 1 = d at *
  clear ha2
  generalize hNN : t.room a d (win 30 20) = N at *
  have HRm := Lib.hid hNN
  clear hNN
  generalize hsps : t.spots (win 30 20) = sps at *
  generalize t.bords (win 30 20) = bo at *
  have HSP := Lib.hid hsps
  have HSz := Lib.hid hsz
  clear hsps hsz
  have HY := Lib.hid hY
  have HNo := Lib.hid hNo
  have bx := TB.new w3 (.slice D3 n3 c3)
  have v3 := (v2.below h3).alloc (.cells #[.slice D3 n3 c3] 30)
  have z3 := h3.trans ((below_new w3 (.cells #[.slice D3 n3 c3] 30)).mono h3.size)
  have o3 := Lib.hid (below_new w3 (.cells #[.slice D3 n3 c3] 30))
  have b3 := Lib.hid (b2.out.trans (z3.mono b2.out.size))
  have TP3 := Lib.hid (fun w' (hb : Below (w3.alloc (.cells #[.slice D3 n3 c3] 30)).heap.size (w3.alloc (.cells #[.slice D3 n3 c3] 30)) w') => TP.out w' (z3.trans (hb.mono z3.size)))
  clear hY hNo h3 z3 v2
  have q0 := v3.1.cell
  go_wp2_with fail
  generalize (w3.alloc (.cells #[.slice D3 n3 c3] 30)) = w3' at *
  refine (H2.out _ v3.2).mono ?_
  intro x w4 h4
  obtain ⟨E, e, F, g, rfl, tE, tF, h4⟩ := PlP.lit h4 (n := sps.length) (m := bo.length) rfl rfl
  have v4 := v3.below h4
  have bx4 := bx.below h4 bx.lt
  have o4 := Lib.hid (o3.out.trans (h4.mono o3.out.size))
  have b4 := Lib.hid (b3.out.trans (h4.mono b3.out.size))
  have TP4 := Lib.hid (fun w' (hb : Below w4.heap.size w4 w') => TP3.out w' (h4.trans (hb.mono h4.size)))
  have HE := Lib.hid tE
  have HV := Lib.hid (And.intro v4 bx4)
  clear h4 v3 bx q0 tE tF v4 bx4
  go_wp2_with fail
  go_loopw [16, 64] (RmRel w4 q sps.length N) (fun _ i _ => sps.length - (intOf i).toNat)
  case atStart => exact ⟨0, rfl, Nat.zero_le _, by simp, Below.refl _ _⟩
  case round =>
    obtain ⟨k, rfl, hle, rfl, hbw⟩ := hrel
    have HB := Lib.hid hbw
    clear hbw
    by_cases hlt : k < sps.length
    · have hki : (k : Int) < (sps.length : Int) := by omega
      have hkk := List.getElem?_eq_getElem hlt
      obtain ⟨x1, y1, rfl, _, _, _, k0, k1, k2, k3, k4⟩ := spot_at (TabAt.below HE.out HB.out (Nat.le_refl _)) k _ hkk
      have HK := Lib.hid hkk
      clear hkk
      generalize sps[k] = y at *
      obtain ⟨yp, yX, yY, yW, yH⟩ := y
      dsimp only at k0 k1 k2 k3 k4
      by_cases hyp : yp = a
      · have HKQ := Lib.hid (HU.out k _ HK.out hyp)
        have hyy : (⟨yp, ⟨yX, yY, yW, yH⟩⟩ : Sp) = s := by
          have h1 := HK.out
          have h2 := HQ.out
          rw [HKQ.out] at h1
          exact Option.some.inj (h1.symm.trans h2)
        have hside := HR.out
        rw [← hyy] at hside
        have HSI := Lib.hid hside
        clear hside hyy
        subst hyp
        rcases HD.out with e1 | e1
        · subst e1
          go_wp2_with fail
          go_roundw
          case rel => exact ⟨k + 1, by go_num, by omega, by rw [if_pos (by have := HKQ.out; omega)]; exact congrArg (Value.int .i64) HSI.out, Below.alloc (Below.alloc HB.out HB.out.size _) (by have := HB.out.size; simp; omega) _⟩
          case measure => simp [intOf]; omega
        · subst e1
          go_wp2_with fail
          go_roundw
          case rel => exact ⟨k + 1, by go_num, by omega, by rw [if_pos (by have := HKQ.out; omega)]; exact congrArg (Value.int .i64) HSI.out, Below.alloc (Below.alloc HB.out HB.out.size _) (by have := HB.out.size; simp; omega) _⟩
          case measure => simp [intOf]; omega
      · have hne : (yp == a) = false := by simpa using hyp
        have hqk : q ≠ k := by
          rintro rfl
          have h2 := Option.some.inj (HK.out.symm.trans HQ.out)
          exact hyp (by have := HS.out; rw [← h2] at this; exact this)
        obtain ⟨nz, hnz⟩ : ∃ nz, nz = (if q < k then N else 0) := ⟨_, rfl⟩
        have HNZ := Lib.hid (show nz = (if q < k + 1 then N else 0) by rw [hnz]; by_cases h : q < k <;> simp [h] <;> omega)
        rw [← hnz]
        clear hnz
        go_wp2_with fail
        go_roundw
        case rel => exact ⟨k + 1, by go_num, by omega, congrArg (Value.int .i64) HNZ.out, Below.alloc HB.out HB.out.size _⟩
        case measure => simp [intOf]; omega
    · have ek : k = sps.length := by omega
      have hql : q < sps.length := (List.getElem?_eq_some_iff.1 HQ.out).1
      rw [if_pos (by omega)]
      subst ek
      have v5 := HV.out.1.below HB.out
      have bx5 := TB.below HV.out.2 HB.out HV.out.2.lt
      have o5 := Lib.hid (o4.out.trans (HB.out.mono o4.out.size))
      have b5 := Lib.hid (b4.out.trans (HB.out.mono b4.out.size))
      have TP5 := Lib.hid (fun w' (hb : Below wr.heap.size wr w') => TP4.out w' (HB.out.trans (hb.mono HB.out.size)))
      have qb := bx5.cell
      by_cases hr : 3 ≤ N
      · obtain ⟨rfl, rfl, hc3, f, hf1, hf2, tS⟩ := HY.out hr
        have hN : N ≤ 1000 := by
          have h1 := HIn.out
          have h2 := HR.out
          obtain ⟨g1, g2, g3, g4, g5, g6⟩ := h1
          rcases HD.out with rfl | rfl <;> simp [side] at h2 <;> omega
        have isS := HI.out f hf1 hf2 hN
        have hg := HG.out
        have hm := HM.out
        have hnS : ((t.split a 99 d f).flat 0).length = t.size + 2 := by rw [T.flat_len, T.split_size hm hg.un]
        have hf1' : t.fits (win 30 20) := hg.fits
        have low := T.fits_low (r := win 30 20) hg.ok hg.fits (by simp [win]) (by simp [win])
        have fself := T.fit_self (r := win 30 20) hg.ok hg.fits (by simp [win]) (by simp [win])
        have m99 : (99 : Int) ∈ (t.split a 99 d f).panes := (T.split_panes_mem hm 99).2 (.inr rfl)
        have fitS : (t.split a 99 d f).fits (win 30 20) := T.fits_split hg.un hm hg.fits hf1 (by have h3 := HRm.out; rw [h3]; exact hf2)
        have R1 := Lib.hid (fun w' h => remove_any ((t.split a 99 d f).flat 0) (t.split a 99 d f) t D3 c3 0 30 20 99 w' h isS (by rw [hnS]; exact hc3) win_in m99 (T.drop_split hg.un hm HN.out) low.1 low.2)
        have R2 := Lib.hid (fun w' h => places_any ((t.split a 99 d f).flat 0) (t.split a 99 d f) D3 c3 0 30 20 w' h isS win_in fitS)
        have R3 := Lib.hid (fun D' c' w' h h' => sameTree_any (t.flat 0) D' D c' c 0 0 w' h h' (by rw [HX.out.2]; have := HSz.out; omega))
        have R4 := Lib.hid (fun w' h => ok_any ((t.split a 99 d f).flat 0) D3 c3 0 w' h (by rw [hnS]; have := HSz.out; omega))
        have R5 := Lib.hid (fun w' h => panesT ((t.split a 99 d f).flat 0) (t.split a 99 d f) isS D3 c3 0 w' h)
        rw [fself] at R1
        rw [hnS] at R1 R2 R4 R5
        rw [HX.out.2] at R3
        rw [isS.treeF] at R4
        have lsp : ((t.split a 99 d f).spots (win 30 20)).length = sps.length + 1 := by
          have h1 : ((t.split a 99 d f).spots (win 30 20)).length = (t.split a 99 d f).panes.length := by rw [← (t.split a 99 d f).spots_panes (win 30 20), List.length_map]
          have h2 : sps.length = t.panes.length := by rw [← HSP.out, ← t.spots_panes (win 30 20), List.length_map]
          have h3 := (t.split a 99 d f).panes_size
          have h4 := t.panes_size
          rw [T.split_size hm hg.un] at h3
          omega
        have hfil := T.split_filter (at_ := a) (d := d) (f := f) HN.out
        have LF := Lib.hid (And.intro hfil lsp)
        have HnS := Lib.hid hnS
        have lP : (t.split a 99 d f).panes.length ≤ 64 := by have h3 := (t.split a 99 d f).panes_size; rw [T.split_size hm hg.un] at h3; have := HSz.out; omega
        have lN : t.panes.length ≤ 64 := by have h3 := t.panes_size; have := HSz.out; omega
        have tS5 := tS.below o5.out (Nat.le_refl _)
        clear hf1' low fself m99 fitS hg hm isS hfil lsp hnS hN hf1 hf2 tS HN
        generalize (t.split a 99 d f).panes = P' at *
        generalize (t.split a 99 d f).bords (win 30 20) = bo' at *
        generalize (t.split a 99 d f).spots (win 30 20) = sp' at *
        generalize (t.split a 99 d f).flat 0 = L' at *
        have vS5 : VT wr w3.heap.size D3 (t.size + 2) c3 L' := ⟨bx5, tS5⟩
        clear bx5 tS5 HY HNo
        go_wp2_with fail
        refine (R1.out _ vS5.2).mono ?_
        intro x w6 h6
        obtain ⟨D6, c6, rfl, hc6, tR, h6⟩ := TrP.lit h6 HX.out.2
        have vR := VT.new (n := t.size) (c := c6) tR
        have v6 := (v5.below h6).alloc (.cells #[.slice D6 t.size c6] 30)
        have vS6 := (vS5.below h6).alloc (.cells #[.slice D6 t.size c6] 30)
        have z6 := h6.trans ((below_new w6 (.cells #[.slice D6 t.size c6] 30)).mono h6.size)
        have b6 := Lib.hid (b5.out.trans (z6.mono b5.out.size))
        have TP6 := Lib.hid (fun w' (hb : Below (w6.alloc (.cells #[.slice D6 t.size c6] 30)).heap.size (w6.alloc (.cells #[.slice D6 t.size c6] 30)) w') => TP5.out w' (z6.trans (hb.mono z6.size)))
        clear h6 tR v5 vS5 qb z6
        have q1 := vS6.1.cell
        go_wp2_with fail
        generalize (w6.alloc (.cells #[.slice D6 t.size c6] 30)) = w6' at *
        refine (R2.out _ vS6.2).mono ?_
        intro x w7 h7
        obtain ⟨E1, e1, F1, g1, rfl, tE1, tF1, h7⟩ := PlP.lit h7 (n := sps.length + 1) (m := bo'.length) LF.out.2 rfl
        have v7 := v6.below h7
        have vR7 := vR.below h7
        have vS7 := vS6.below h7
        have b7 := Lib.hid (b6.out.trans (h7.mono b6.out.size))
        have TP7 := Lib.hid (fun w' (hb : Below w7.heap.size w7 w') => TP6.out w' (h7.trans (hb.mono h7.size)))
        clear h7 v6 vR vS6 q1 tE1 tF1
        have q0 := v7.1.cell
        have q1 := vR7.1.cell
        have q2 := vS7.1.cell
        go_wp2_with fail
        refine (R3.out _ _ _ vR7.2 v7.2).mono ?_
        rintro x w8 ⟨rfl, h8⟩
        have vS8 := vS7.below h8
        have b8 := Lib.hid (b7.out.trans (h8.mono b7.out.size))
        have TP8 := Lib.hid (fun w' (hb : Below w8.heap.size w8 w') => TP7.out w' (h8.trans (hb.mono h8.size)))
        clear h8 v7 vR7 vS7 q0 q1 q2
        have q2 := vS8.1.cell
        have hw1 : IntKind.i64.wrap ((sps.length : Int) + 1) = ((sps.length + 1 : Nat) : Int) := by rw [wrap_i64_t _ (by omega) (by omega)]; push_cast; rfl
        go_wp2_with (rw [hw1])
        refine (R4.out _ vS8.2).mono ?_
        rintro x w9 ⟨rfl, h9⟩
        have vS9 := vS8.below h9
        have b9 := Lib.hid (b8.out.trans (h9.mono b8.out.size))
        have TP9 := Lib.hid (fun w' (hb : Below w9.heap.size w9 w') => TP8.out w' (h9.trans (hb.mono h9.size)))
        clear h9 vS8 q2
        have q2 := vS9.1.cell
        go_wp2_with (rw [hw1])
        refine (R5.out _ vS9.2).mono ?_
        intro x w10 h10
        obtain ⟨Q, qc, rfl, tQ, h10⟩ := OwnP.lit h10 rfl
        have b10 := Lib.hid (b9.out.trans (h10.mono b9.out.size))
        have TP10 := Lib.hid (fun w' (hb : Below w10.heap.size w10 w') => TP9.out w' (h10.trans (hb.mono h10.size)))
        have HQ10 := Lib.hid tQ
        clear h10 vS9 q2 tQ
        go_wp2_with fail
        go_loopw [24, 135] (CntRel w10 P') (fun _ i _ => P'.length - (intOf i).toNat)
        case atStart => exact ⟨0, rfl, Nat.zero_le _, by rw [cnt_zero]; rfl, Below.refl _ _⟩
        case round =>
          obtain ⟨k, rfl, hle2, rfl, hbw⟩ := hrel
          have HB2 := Lib.hid hbw
          clear hbw
          by_cases hlt : k < P'.length
          · have hki : (k : Int) < (P'.length : Int) := by omega
            have hkk := List.getElem?_eq_getElem hlt
            obtain ⟨x1, y1, rfl, _, _, _, k0⟩ := int_at (TabAt.below HQ10.out HB2.out (Nat.le_refl _)) k _ hkk
            have HK := Lib.hid hkk
            clear hkk
            generalize P'[k] = y at *
            by_cases hy : y = 99
            · subst hy
              have HC := Lib.hid (cnt_eq HK.out)
              go_wp2_with fail
              go_roundw
              case rel => exact ⟨k + 1, by go_num, by omega, by rw [HC.out], HB2.out⟩
              case measure => simp [intOf]; omega
            · have hne : (y == 99) = false := by simpa using hy
              obtain ⟨hc1, hc2⟩ := cnt_ne HK.out hy
              rw [LF.out.1] at hc2
              obtain ⟨x2, y2, e2, _, _, _, j0⟩ := int_at (TP10.out _ HB2.out) (cnt P' k) _ hc2
              simp only [Option.some.injEq, Addr.mk.injEq, and_true] at e2
              obtain ⟨rfl, rfl⟩ := e2
              have hcl := (List.getElem?_eq_some_iff.1 hc2).1
              have HC := Lib.hid hc1
              clear hc1 hc2
              generalize cnt P' k = cc at *
              have hci : (cc : Int) < (t.panes.length : Int) := by omega
              go_wp2_with fail
              go_roundw
              case rel => exact ⟨k + 1, by go_num, by omega, by rw [HC.out]; go_num, HB2.out⟩
              case measure => simp [intOf]; omega
          · have ek : k = P'.length := by omega
            subst ek
            have bw := Lib.hid (b10.out.trans (HB2.out.mono b10.out.size))
            have hca := cnt_all P'
            rw [LF.out.1] at hca
            rw [hca]
            clear hca
            go_wp2_with fail
            refine (awake_any _).mono ?_
            rintro x w12 ⟨rfl, h12⟩
            go_wp2_with fail
            go_ret
            exact ⟨rfl, bw.out.trans (h12.mono bw.out.size)⟩
      · obtain ⟨rfl, rfl⟩ := HNo.out (by omega)
        have hr' : ¬ N ≥ 3 := hr
        go_wp2_with fail
        refine (awake_any _).mono ?_
        rintro x w12 ⟨rfl, h12⟩
        go_wp2_with fail
        go_ret
        exact ⟨rfl, b5.out.trans (h12.mono b5.out.size)⟩
end Go.Proofs.Ytojgmofpgefonaa
