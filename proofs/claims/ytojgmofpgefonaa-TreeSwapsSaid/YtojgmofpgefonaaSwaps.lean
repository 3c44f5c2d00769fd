/-
  The walk of TreeSwaps. No condition but that a row of numbers came in.
-/
import Derived.Test.YtojgmofpgefonaaC13
import Derived.Test.YtojgmofpgefonaaB7
namespace Go.Proofs.Ytojgmofpgefonaa
open Go.RowKit
set_option linter.unusedSimpArgs false
set_option linter.unusedVariables false
set_option maxRecDepth 100000

theorem Is.swap {t : T} (h : Is (t.flat 0) t) {a b : Int} (ha : 0 < a) (hb : 0 < b) : Is ((t.swap a b).flat 0) (t.swap a b) := ⟨rfl, T.swap_ok ha hb h.ok, by rw [T.swap_size]; exact h.size, T.swap_nodup h.un⟩
theorem T.swap_mem {t : T} {a b : Int} (ha : a ∈ t.panes) (hb : b ∈ t.panes) : a ∈ (t.swap a b).panes ∧ b ∈ (t.swap a b).panes := by
  rw [T.swap_panes]
  constructor
  · rw [List.mem_map]
    by_cases h : b = a
    · exact ⟨a, ha, by simp [h]⟩
    · exact ⟨b, hb, by simp [h]⟩
  · rw [List.mem_map]
    exact ⟨a, ha, by simp⟩
def swI (a b p : Int) : Int := if p = a then b else if p = b then a else p
set_option maxHeartbeats 16000000 in
theorem swaps_any (l : List Int) (D0 : Option Addr) (c0 : Nat) (a0 b0 : Int) (w : World) (h : RdI w D0 l) :
    Calls Try.prog 5 #[.slice D0 l.length c0, .int .i64 a0, .int .i64 b0] w (TrueB w) := by
  have HT := Lib.hid (tree_any l D0 c0 w h)
  clear h
  go_enter Try.func5, Try.ntmps5
  go_wp2_with fail
  refine HT.out.mono ?_
  rintro x w1 ⟨t, D, c, rfl, hc, hg, ht, h1⟩
  have is := hg.is (Nat.le_refl _)
  have hnt : (t.flat 0).length = t.size := T.flat_len _ _
  rw [hnt] at hc ⊢
  have v1 := VT.new (n := t.size) (c := c) (ht.weak (Nat.zero_le _))
  have b1 := Lib.hid (h1.trans ((below_new w1 (.cells #[.slice D t.size c] 30)).mono h1.size))
  have q0 := v1.1.cell
  have HP := Lib.hid (fun w' h => rpanes_any (t.flat 0) t D c 0 w' h is)
  rw [hnt] at HP
  clear ht h1
  go_wp2_with fail
  refine (HP.out _ v1.2).mono ?_
  intro x w2 h2
  obtain ⟨P, pc, rfl, tP, h2⟩ := OwnP.lit h2 rfl
  have v2 := v1.below h2
  have b2 := Lib.hid (b1.out.trans (h2.mono b1.out.size))
  clear v1 h2 q0
  obtain ⟨a1, ha1, hA1⟩ := gmask255 a0
  obtain ⟨a2, ha2, hA2⟩ := gmask255 b0
  have hnp : 0 < t.panes.length := by have := t.panes_size; have := t.size_pos; omega
  have i1 : a1 % t.panes.length < t.panes.length := Nat.mod_lt _ hnp
  have i2 : a2 % t.panes.length < t.panes.length := Nat.mod_lt _ hnp
  have r1 := tmod_nat a1 t.panes.length
  have r2 := tmod_nat a2 t.panes.length
  obtain ⟨bp, op, rfl, _, hbp, _, y1⟩ := int_at tP (a1 % t.panes.length) _ (List.getElem?_eq_getElem i1)
  obtain ⟨bp', op', e', _, _, _, y2⟩ := int_at tP (a2 % t.panes.length) _ (List.getElem?_eq_getElem i2)
  simp only [Option.some.injEq, Addr.mk.injEq, and_true] at e'
  obtain ⟨rfl, rfl⟩ := e'
  have m1 : t.panes[a1 % t.panes.length] ∈ t.panes := List.getElem_mem i1
  have m2 : t.panes[a2 % t.panes.length] ∈ t.panes := List.getElem_mem i2
  generalize t.panes[a1 % t.panes.length] = a at *
  generalize t.panes[a2 % t.panes.length] = b at *
  generalize a1 % t.panes.length = ix at *
  generalize a2 % t.panes.length = iy at *
  have hap := T.panes_pos is.ok a m1
  have hbp2 := T.panes_pos is.ok b m2
  have iS := Is.swap is hap hbp2
  have nS : ((t.swap a b).flat 0).length = t.size := by rw [T.flat_len, T.swap_size]
  have H1 := Lib.hid (fun w' c h => swap_any (t.flat 0) t D c 0 a b w' h is m1 m2)
  have H2 := Lib.hid (fun w' D c h => swap_any ((t.swap a b).flat 0) (t.swap a b) D c 0 a b w' h iS (T.swap_mem m1 m2).1 (T.swap_mem m1 m2).2)
  have H3 := Lib.hid (fun w' h => swap_no (t.flat 0) t D c 0 a 98 w' h is m1 (fun hp => by have := (hg.low _ hp).2; omega) (by omega))
  have H4 := Lib.hid (fun w' D c h => places_any ((t.swap a b).flat 0) (t.swap a b) D c 0 30 20 w' h iS win_in (T.swap_fits hg.fits))
  have H5 := Lib.hid (fun w' h => rPlaces_any (t.flat 0) t D c 0 30 20 w' h is win_in hg.fits)
  have H6 := Lib.hid (fun D' c' w' h h' => sameTree_any (t.flat 0) D' D c' c 0 0 w' h h' (by have := hg.size; omega))
  rw [T.swap_swap] at H2
  rw [nS] at H2 H4
  rw [hnt] at H1 H3 H5 H6
  have hss := T.swap_spots a b t (win 30 20)
  rw [hss.1, hss.2] at H4
  have hsz := hg.size
  have sl := spots_small t (win 30 20) (by omega)
  have NS := Lib.hid nS
  have NT := Lib.hid hnt
  clear hss iS is hg m1 m2 hap hbp2 HP nS hnt hsz
  have hnn : ¬ t.panes.length = 0 := by omega
  have hnp2 : Hid (0 < t.panes.length) := Lib.hid hnp
  generalize t.panes.length = np at *
  generalize t.spots (win 30 20) = sp at *
  generalize t.bords (win 30 20) = bo at *
  have TP := Lib.hid (fun w' (hb : Below w2.heap.size w2 w') => TabAt.below tP hb (Nat.le_refl _))
  clear tP
  go_upto_region 3 with fail
  go_quiet (fail)
  have d3 : Below w2.heap.size w2 (w2.drewN nq) := below_drewN (Below.refl _ _) nq
  have v3 : VT (w2.drewN nq) w1.heap.size D t.size c (t.flat 0) := v2.below d3
  have b3 := Lib.hid (b2.out.trans (d3.mono b2.out.size))
  have TP3 := Lib.hid (fun w' (hb : Below (w2.drewN nq).heap.size (w2.drewN nq) w') => TP.out w' (d3.trans (hb.mono d3.size)))
  clear d3 v2
  generalize w2.drewN nq = w3 at *
  have q0 := v3.1.cell
  go_wp2_with fail
  refine (H1.out _ c v3.2).mono ?_
  intro x w4 h4
  obtain ⟨D4, c4, rfl, hc4, tu, h4⟩ := TrP.lit h4 NS.out
  have vu := VT.new (n := t.size) (c := c4) tu
  have v4 := (v3.below h4).alloc (.cells #[.slice D4 t.size c4] 30)
  have z4 := h4.trans ((below_new w4 (.cells #[.slice D4 t.size c4] 30)).mono h4.size)
  have b4 := Lib.hid (b3.out.trans (z4.mono b3.out.size))
  have TP4 := Lib.hid (fun w' (hb : Below (w4.alloc (.cells #[.slice D4 t.size c4] 30)).heap.size (w4.alloc (.cells #[.slice D4 t.size c4] 30)) w') => TP3.out w' (z4.trans (hb.mono z4.size)))
  clear h4 tu v3 q0 z4
  have q0 := v4.1.cell
  have q1 := vu.1.cell
  go_wp2_with fail
  generalize (w4.alloc (.cells #[.slice D4 t.size c4] 30)) = w4' at *
  refine (H2.out _ D4 c4 vu.2).mono ?_
  intro x w5 h5
  obtain ⟨D5, c5, rfl, hc5, tv, h5⟩ := TrP.lit h5 NT.out
  have vv := VT.new (n := t.size) (c := c5) tv
  have v5 := (v4.below h5).alloc (.cells #[.slice D5 t.size c5] 30)
  have vu5 := (vu.below h5).alloc (.cells #[.slice D5 t.size c5] 30)
  have z5 := h5.trans ((below_new w5 (.cells #[.slice D5 t.size c5] 30)).mono h5.size)
  have b5 := Lib.hid (b4.out.trans (z5.mono b4.out.size))
  have TP5 := Lib.hid (fun w' (hb : Below (w5.alloc (.cells #[.slice D5 t.size c5] 30)).heap.size (w5.alloc (.cells #[.slice D5 t.size c5] 30)) w') => TP4.out w' (z5.trans (hb.mono z5.size)))
  clear h5 tv v4 vu q0 q1 z5
  have q0 := v5.1.cell
  go_wp2_with fail
  generalize (w5.alloc (.cells #[.slice D5 t.size c5] 30)) = w5' at *
  refine (H3.out _ v5.2).mono ?_
  rintro x w6 ⟨rfl, h6⟩
  have v6 := (v5.below h6).alloc (.cells #[.slice none 0 0] 30)
  have vu6 := (vu5.below h6).alloc (.cells #[.slice none 0 0] 30)
  have vv6 := (vv.below h6).alloc (.cells #[.slice none 0 0] 30)
  have z6 := h6.trans ((below_new w6 (.cells #[.slice none 0 0] 30)).mono h6.size)
  have b6 := Lib.hid (b5.out.trans (z6.mono b5.out.size))
  have TP6 := Lib.hid (fun w' (hb : Below (w6.alloc (.cells #[.slice none 0 0] 30)).heap.size (w6.alloc (.cells #[.slice none 0 0] 30)) w') => TP5.out w' (z6.trans (hb.mono z6.size)))
  clear h6 v5 vu5 vv q0 z6
  have q1 := vu6.1.cell
  go_wp2_with fail
  generalize (w6.alloc (.cells #[.slice none 0 0] 30)) = w6' at *
  refine (H4.out _ D4 c4 vu6.2).mono ?_
  intro x w7 h7
  obtain ⟨E1, e1, F1, g1, rfl, tE1, tF1, h7⟩ := PlP.lit h7 (n := sp.length) (m := bo.length) (by simp) rfl
  have v7 := v6.below h7
  have vv7 := vv6.below h7
  have b7 := Lib.hid (b6.out.trans (h7.mono b6.out.size))
  have TP7 := Lib.hid (fun w' (hb : Below w7.heap.size w7 w') => TP6.out w' (h7.trans (hb.mono h7.size)))
  clear h7 v6 vu6 vv6 q1
  have q0 := v7.1.cell
  go_wp2_with fail
  refine (H5.out _ v7.2).mono ?_
  intro x w8 h8
  obtain ⟨E2, e2, F2, g2, rfl, tE2, tF2, h8⟩ := PlP.lit h8 (n := sp.length) (m := bo.length) rfl rfl
  have v8 := v7.below h8
  have vv8 := vv7.below h8
  have b8 := Lib.hid (b7.out.trans (h8.mono b7.out.size))
  have TP8 := Lib.hid (fun w' (hb : Below w8.heap.size w8 w') => TP7.out w' (h8.trans (hb.mono h8.size)))
  have tE8 := tE1.below h8 (Nat.le_refl _)
  have tF8 := tF1.below h8 (Nat.le_refl _)
  clear h8 v7 vv7 q0 tE1 tF1
  have q0 := v8.1.cell
  have q1 := vv8.1.cell
  have H6' := Lib.hid (H6.out D5 c5 w8 vv8.2 v8.2)
  go_wp2_with fail
  refine H6'.out.mono ?_
  rintro x w9 ⟨rfl, h9⟩
  have b9 := Lib.hid (b8.out.trans (h9.mono b8.out.size))
  have TP9 := Lib.hid (fun w' (hb : Below w9.heap.size w9 w') => TP8.out w' (h9.trans (hb.mono h9.size)))
  have tE9 := tE8.below h9 (Nat.le_refl _)
  have tF9 := tF8.below h9 (Nat.le_refl _)
  have tE9' := tE2.below h9 (Nat.le_refl _)
  have tF9' := tF2.below h9 (Nat.le_refl _)
  have H7 := Lib.hid (fun c c' => rects_any bo F1 F2 c c' 0 0 w9 tF9 tF9' (by omega))
  clear h9 v8 vv8 q0 q1 tE8 tF8 tE2 tF2 H6'
  go_wp2_with fail
  refine (H7.out _ _).mono ?_
  intro x w10 h10
  have hb10 := h10.below
  obtain ⟨rfl, _⟩ := h10
  have b10 := Lib.hid (b9.out.trans (hb10.mono b9.out.size))
  have TP10 := Lib.hid (fun w' (hb : Below w10.heap.size w10 w') => TP9.out w' (hb10.trans (hb.mono hb10.size)))
  have tE10 := Lib.hid (tE9.below hb10 (Nat.le_refl _))
  have tE10' := Lib.hid (tE9'.below hb10 (Nat.le_refl _))
  clear hb10 tE9 tF9 tE9' tF9' H7
  go_wp2_with fail
  go_loopw [113] (SmRel w10 sp.length) (fun i _ => sp.length - (intOf i).toNat)
  case atStart => exact ⟨0, 0, rfl, Nat.zero_le _, rfl⟩
  case round =>
    obtain ⟨k, m, rfl, hle, hw⟩ := hrel
    have HW := Lib.hid hw
    have hbw : Below w10.heap.size w10 wr := by rw [hw]; exact below_drewN (Below.refl _ _) m
    clear hw
    by_cases hlt : k < sp.length
    · have hki : (k : Int) < (sp.length : Int) := by omega
      have hkk := List.getElem?_eq_getElem hlt
      obtain ⟨x1, y1, rfl, _, _, _, c0, c1, c2, c3, c4⟩ := spot_at (TabAt.below tE10.out hbw (Nat.le_refl _)) k ⟨swI a b (sp[k]).p, (sp[k]).r⟩ (by rw [List.getElem?_map, hkk]; rfl)
      obtain ⟨x2, y2, rfl, _, _, _, d0, d1, d2, d3, d4⟩ := spot_at (TabAt.below tE10'.out hbw (Nat.le_refl _)) k _ hkk
      clear hkk hbw
      generalize sp[k] = s at *
      obtain ⟨pp, X, Y, W, H⟩ := s
      dsimp only at c0 c1 c2 c3 c4 d0 d1 d2 d3 d4
      unfold swI at c0
      by_cases h1 : pp = a
      · subst h1
        rw [if_pos rfl] at c0
        by_cases h2 : b = pp
        · subst h2
          go_wp2_with fail
          go_quiet (fail)
          go_wp2_with fail
          go_roundw
          case rel => exact ⟨k + 1, m + nq, by go_num, by omega, by rw [HW.out, World.drewN_drewN]⟩
          case measure => simp [intOf]; omega
        · have h2' : (b == pp) = false := by simpa using h2
          have h3' : (pp == b) = false := by simpa using Ne.symm h2
          go_wp2_with fail
          go_quiet (fail)
          go_wp2_with fail
          go_roundw
          case rel => exact ⟨k + 1, m + nq, by go_num, by omega, by rw [HW.out, World.drewN_drewN]⟩
          case measure => simp [intOf]; omega
      · rw [if_neg h1] at c0
        have h1' : (pp == a) = false := by simpa using h1
        by_cases h2 : pp = b
        · subst h2
          rw [if_pos rfl] at c0
          go_wp2_with fail
          go_quiet (fail)
          go_wp2_with fail
          go_roundw
          case rel => exact ⟨k + 1, m + nq, by go_num, by omega, by rw [HW.out, World.drewN_drewN]⟩
          case measure => simp [intOf]; omega
        · rw [if_neg h2] at c0
          have h2' : (pp == b) = false := by simpa using h2
          go_wp2_with fail
          go_quiet (fail)
          go_wp2_with fail
          go_roundw
          case rel => exact ⟨k + 1, m + nq, by go_num, by omega, by rw [HW.out, World.drewN_drewN]⟩
          case measure => simp [intOf]; omega
    · have ek : k = sp.length := by omega
      subst ek
      have bw := Lib.hid (b10.out.trans (hbw.mono b10.out.size))
      clear hbw
      go_wp2_with fail
      refine (sameInts_nil np _ _ _ hnp2.out).mono ?_
      rintro x w11 ⟨rfl, rfl⟩
      go_wp2_with fail
      refine (awake_any _).mono ?_
      rintro x w12 ⟨rfl, h12⟩
      go_wp2_with fail
      go_ret
      exact ⟨rfl, bw.out.trans (h12.mono bw.out.size)⟩
end Go.Proofs.Ytojgmofpgefonaa
