/-
  The walk of TreeWhole. No condition but that a row of numbers came in.
-/
import Derived.Test.YtojgmofpgefonaaPlain7
import Derived.Test.YtojgmofpgefonaaB7
namespace Go.Proofs.Ytojgmofpgefonaa
open Go.RowKit
set_option linter.unusedSimpArgs false
set_option linter.unusedVariables false
set_option maxRecDepth 100000

def WhRel {α : Type} (w : World) (fh fa : α → Int) (l : List α) (b1 b2 : Int) (h a i : Value) (wr : World) : Prop :=
  ∃ k : Nat, i = .int .i64 k ∧ k ≤ l.length ∧ h = .int .i64 (b1 + pre fh l k) ∧ a = .int .i64 (b2 + pre fa l k) ∧ Below w.heap.size w wr
theorem i64_and65535 (n : Int) : bits .and .i64 n 65535 = n % 65536 := by
  have hm : (BitVec.ofInt 64 (65535 : Int)).toNat = 2 ^ 16 - 1 := by decide
  have key : (BitVec.ofInt 64 n &&& BitVec.ofInt 64 (65535 : Int)).toNat = (n % ((2 ^ 64 : Nat) : Int)).toNat % 2 ^ 16 := by
    rw [BitVec.toNat_and, BitVec.toNat_ofInt, hm, Nat.and_two_pow_sub_one_eq_mod]
  show IntKind.i64.wrap ((BitVec.ofInt 64 n &&& BitVec.ofInt 64 (65535 : Int)).toNat : Nat) = _
  rw [key, IntKind.wrap_i64]
  simp only [Nat.reducePow]
  omega
theorem gmask65535 (z : Int) : ∃ a : Nat, a ≤ 65535 ∧ bits .and .i64 z 65535 = a := ⟨(z % 65536).toNat, by omega, by rw [i64_and65535]; omega⟩

set_option maxHeartbeats 16000000 in
theorem whole_any (l : List Int) (D0 : Option Addr) (c0 : Nat) (a0 b0 x0 y0 : Int) (w : World) (h : RdI w D0 l) :
    Calls Try.prog 8 #[.slice D0 l.length c0, .int .i64 a0, .int .i64 b0, .int .i64 x0, .int .i64 y0] w (TrueB w) := by
  have HT := Lib.hid (tree_any l D0 c0 w h)
  clear h
  go_enter Try.func8, Try.ntmps8
  go_wp2_with fail
  refine HT.out.mono ?_
  rintro x w1 ⟨t, D, c, rfl, hc, hg, ht, h1⟩
  have is := hg.is (Nat.le_refl _)
  have hnt : (t.flat 0).length = t.size := T.flat_len _ _
  rw [hnt] at hc ⊢
  have v1 := VT.new (n := t.size) (c := c) (ht.weak (Nat.zero_le _))
  have b1 := Lib.hid (h1.trans ((below_new w1 (.cells #[.slice D t.size c] 30)).mono h1.size))
  have q0 := v1.1.cell
  obtain ⟨a1, ha1, hA1⟩ := gmask15 a0
  obtain ⟨a2, ha2, hA2⟩ := gmask15 b0
  have lw1 := t.lw_ok
  have lh1 := t.lh_ok
  have hsz := hg.size
  have hWin : (win (t.lw + (a1 : Int)) (t.lh + (a2 : Int))).in := by simp [win, R.in]; omega
  have fo := T.fit_ok is.ok hWin (by simp [win]; omega) (by simp [win]; omega)
  have isF := Is.fit is hWin (by simp [win]; omega) (by simp [win]; omega)
  have HL := Lib.hid (fun w' h => least_any (t.flat 0) t D c 0 w' h is)
  have H1 := Lib.hid (fun w' h => fitT_any (t.flat 0) t D c 0 (t.lw + (a1 : Int)) (t.lh + (a2 : Int)) w' h is hWin (by omega) (by omega))
  have H2 := Lib.hid (fun w' D c h => places_any ((t.fit (win (t.lw + (a1 : Int)) (t.lh + (a2 : Int)))).flat 0) (t.fit (win (t.lw + (a1 : Int)) (t.lh + (a2 : Int)))) D c 0 (t.lw + (a1 : Int)) (t.lh + (a2 : Int)) w' h isF hWin fo.2.1)
  have H3 := Lib.hid (fun w' h => fitT_no (t.flat 0) t D c 0 (t.lw - 1) t.lh w' h is (by omega))
  have hnF : ((t.fit (win (t.lw + (a1 : Int)) (t.lh + (a2 : Int)))).flat 0).length = t.size := by rw [T.flat_len, T.fit_size]
  rw [hnF] at H2
  rw [hnt] at HL H1 H3
  have lsp : ((t.fit (win (t.lw + (a1 : Int)) (t.lh + (a2 : Int)))).spots (win (t.lw + (a1 : Int)) (t.lh + (a2 : Int)))).length = ((t.fit (win (t.lw + (a1 : Int)) (t.lh + (a2 : Int)))).bords (win (t.lw + (a1 : Int)) (t.lh + (a2 : Int)))).length + 1 := by
    rw [T.bords_len, ← T.spots_panes _ (win (t.lw + (a1 : Int)) (t.lh + (a2 : Int))), List.length_map]
  have sl := spots_small (t.fit (win (t.lw + (a1 : Int)) (t.lh + (a2 : Int)))) (win (t.lw + (a1 : Int)) (t.lh + (a2 : Int))) (by rw [T.fit_size]; omega)
  have HC := Lib.hid (fun x y => T.cover x y fo.1 hWin (by simp [win]; omega) (by simp [win]; omega) fo.2.1)
  have HW := Lib.hid hWin
  have HnF := Lib.hid hnF
  clear ht h1 hnF hnt fo isF hg is hWin
  go_wp2_with fail
  refine (HL.out _ v1.2).mono ?_
  rintro x w2 ⟨rfl, h2⟩
  have v2 := v1.below h2
  have b2 := Lib.hid (b1.out.trans (h2.mono b1.out.size))
  clear v1 h2 q0 HL
  have q0 := v2.1.cell
  go_upto_region 4 with (first | rw [hA1] | rw [hA2])
  generalize hWW : t.lw + (a1 : Int) = W at *
  generalize hHH : t.lh + (a2 : Int) = H at *
  obtain ⟨wn, rfl⟩ := Int.eq_ofNat_of_zero_le (show 0 ≤ W by omega)
  obtain ⟨hn, rfl⟩ := Int.eq_ofNat_of_zero_le (show 0 ≤ H by omega)
  have hw0 : 0 < wn := by omega
  have hh0 : 0 < hn := by omega
  have hw9 : wn ≤ 100 := by omega
  have hh9 : hn ≤ 100 := by omega
  have lwB : 1 ≤ t.lw ∧ t.lw ≤ 100 := by omega
  clear hWW hHH ha1 ha2 hA1 hA2 lw1 lh1 hsz
  generalize t.fit (win (wn : Int) (hn : Int)) = T' at *
  generalize t.lw = lw at *
  generalize t.lh = lh at *
  go_wp2_with fail
  refine (H1.out _ v2.2).mono ?_
  intro x w3 h3
  obtain ⟨D3, c3, rfl, hc3, tF, h3⟩ := TrP.lit h3 HnF.out
  have vF := VT.new (n := t.size) (c := c3) tF
  have v3 := (v2.below h3).alloc (.cells #[.slice D3 t.size c3] 30)
  have z3 := h3.trans ((below_new w3 (.cells #[.slice D3 t.size c3] 30)).mono h3.size)
  have b3 := Lib.hid (b2.out.trans (z3.mono b2.out.size))
  clear h3 z3 v2 q0 tF
  have q0 := vF.1.cell
  go_wp2_with fail
  generalize (w3.alloc (.cells #[.slice D3 t.size c3] 30)) = w3' at *
  refine (H2.out _ D3 c3 vF.2).mono ?_
  intro x w4 h4
  generalize T'.spots (win (wn : Int) (hn : Int)) = sps at *
  generalize T'.bords (win (wn : Int) (hn : Int)) = bo at *
  obtain ⟨E, e, F, g, rfl, tE, tF, h4⟩ := PlP.lit h4 (n := bo.length + 1) (m := bo.length) lsp rfl
  have v4 := v3.below h4
  have b4 := Lib.hid (b3.out.trans (h4.mono b3.out.size))
  have HE := Lib.hid tE
  have HF := Lib.hid tF
  clear h4 v3 vF q0 tE tF
  obtain ⟨a3, ha3, hA3⟩ := gmask65535 x0
  obtain ⟨a4, ha4, hA4⟩ := gmask65535 y0
  have r3 := tmod_nat a3 wn
  have r4 := tmod_nat a4 hn
  have hxl : a3 % wn < wn := Nat.mod_lt _ hw0
  have hyl : a4 % hn < hn := Nat.mod_lt _ hh0
  generalize a3 % wn = xx at *
  generalize a4 % hn = yy at *
  have hwn : ¬ wn = 0 := by omega
  have hhn : ¬ hn = 0 := by omega
  have hlb : IntKind.i64.wrap ((bo.length : Int) + 1) = ((bo.length + 1 : Nat) : Int) := by rw [wrap_i64_t _ (by omega) (by omega)]; push_cast; rfl
  go_upto_region 8 with (rw [hlb])
  go_quiet (fail)
  have d5 : Below w4.heap.size w4 (w4.drewN nq) := below_drewN (Below.refl _ _) nq
  have v5 := v4.below d5
  have b5 := Lib.hid (b4.out.trans (d5.mono b4.out.size))
  have HE5 := Lib.hid (HE.out.below d5 (Nat.le_refl _))
  have HF5 := Lib.hid (HF.out.below d5 (Nat.le_refl _))
  clear d5 v4
  generalize w4.drewN nq = w5 at *
  have HV := Lib.hid v5
  have HIT := Lib.hid (fun r w' => rin_any r (xx : Int) (yy : Int) w' (by omega) (by omega))
  have HC := Lib.hid (HC.out (xx : Int) (yy : Int))
  have HP1 := Lib.hid (fun k => pre_le (f := fun s : Sp => hit xx yy s.r) (l := sps) (M := 1) (fun s _ => hit_le _ _ _) (by omega) k)
  have HP2 := Lib.hid (fun k => pre_le (f := fun s : Sp => area s.r) (l := sps) (M := 1000000) (fun s hs => area_le (HC.out.2.2.1 s hs).1) (by omega) k)
  have HP3 := Lib.hid (fun k => pre_le (f := hit xx yy) (l := bo) (M := 1) (fun s _ => hit_le _ _ _) (by omega) k)
  have HP4 := Lib.hid (fun k => pre_le (f := area) (l := bo) (M := 1000000) (fun s hs => area_le (HC.out.2.2.2 s hs)) (by omega) k)
  clear r3 r4 hA3 hA4 ha3 ha4 hlb v5
  rw [← lsp]
  have HLS := Lib.hid lsp
  have lsp9 : sps.length ≤ 64 := by omega
  have lbo9 : bo.length ≤ 64 := by omega
  clear lsp sl
  go_wp2_with fail
  go_loopw [19, 20, 81] (WhRel w5 (fun s : Sp => hit xx yy s.r) (fun s : Sp => area s.r) sps 0 0) (fun _ _ i _ => sps.length - (intOf i).toNat)
  case atStart => exact ⟨0, rfl, Nat.zero_le _, rfl, rfl, Below.refl _ _⟩
  case round =>
    obtain ⟨k, rfl, hle, rfl, rfl, hbw⟩ := hrel
    have HB := Lib.hid hbw
    clear hbw
    have p1 := HP1.out k
    have p2 := HP2.out k
    by_cases hlt : k < sps.length
    · have hki : (k : Int) < (sps.length : Int) := by omega
      have hkk := List.getElem?_eq_getElem hlt
      obtain ⟨x1, y1, rfl, _, hx1, _, k0, k1, k2, k3, k4⟩ := spot_at (TabAt.below HE5.out HB.out (Nat.le_refl _)) k _ hkk
      have hcv := HC.out.2.2.1 _ (List.mem_of_getElem? hkk)
      have S1 := Lib.hid (pre_succ (fun s : Sp => hit xx yy s.r) hkk)
      have S2 := Lib.hid (pre_succ (fun s : Sp => area s.r) hkk)
      clear hkk
      generalize sps[k] = y at *
      obtain ⟨yp, yX, yY, yW, yH⟩ := y
      dsimp only at k0 k1 k2 k3 k4 hcv
      obtain ⟨hin, hW1, hH1⟩ := hcv
      have har := area_le hin
      unfold area at har
      dsimp only at har
      generalize pre (fun s : Sp => hit xx yy s.r) sps k = P1 at *
      generalize pre (fun s : Sp => area s.r) sps k = P2 at *
      have hW1' : ¬ yW < 1 := by omega
      have hH1' : ¬ yH < 1 := by omega
      clear hin
      have BX := Lib.hid (Held.new wr 50 #[.int .i64 yp, .int .i64 yX, .int .i64 yY, .int .i64 yW, .int .i64 yH])
      have BY := Lib.hid (Below.alloc HB.out HB.out.size (.cells #[.int .i64 yp, .int .i64 yX, .int .i64 yY, .int .i64 yW, .int .i64 yH] 50))
      go_wp2_with fail
      refine (HIT.out ⟨yX, yY, yW, yH⟩ _).mono ?_
      rintro x w6 ⟨rfl, h6⟩
      have BX6 := Held.below BX.out h6 (by simp)
      have BY6 := Lib.hid (BY.out.trans (h6.mono BY.out.size))
      clear h6 k0 k1 k2 k3 k4
      have j3 := BX6.cell 3
      have j4 := BX6.cell 4
      simp at j3 j4
      clear BX6
      generalize hbb : inF ⟨yX, yY, yW, yH⟩ xx yy = bb at *
      have HBB := Lib.hid hbb
      clear hbb
      have hm : (yW * yH : Int) ≤ 1000000 := har.2
      cases bb
      · have S1' := Lib.hid (show pre (fun s : Sp => hit xx yy s.r) sps (k + 1) = P1 by rw [S1.out]; unfold hit; rw [HBB.out]; simp)
        go_wp2_with fail
        go_roundw
        case rel => exact ⟨k + 1, by go_num, by omega, by rw [S1'.out] <;> (try go_num), by rw [S2.out]; exact congrArg (Value.int .i64) (by show P2 + yW * yH = 0 + (P2 + yW * yH); omega), BY6.out⟩
        case measure => simp [intOf]; omega
      · have S1' := Lib.hid (show pre (fun s : Sp => hit xx yy s.r) sps (k + 1) = P1 + 1 by rw [S1.out]; unfold hit; rw [HBB.out]; simp)
        go_wp2_with fail
        go_roundw
        case rel => exact ⟨k + 1, by go_num, by omega, by rw [S1'.out] <;> (try go_num), by rw [S2.out]; exact congrArg (Value.int .i64) (by show P2 + yW * yH = 0 + (P2 + yW * yH); omega), BY6.out⟩
        case measure => simp [intOf]; omega
    · have ek : k = sps.length := by omega
      subst ek
      have v6 := HV.out.below HB.out
      have b6 := Lib.hid (b5.out.trans (HB.out.mono b5.out.size))
      have HF6 := Lib.hid (HF5.out.below HB.out (Nat.le_refl _))
      have HV6 := Lib.hid v6
      have hq1 : 0 ≤ 0 + pre (fun s : Sp => hit xx yy s.r) sps sps.length ∧ 0 + pre (fun s : Sp => hit xx yy s.r) sps sps.length ≤ 64 := by omega
      have hq2 : 0 ≤ 0 + pre (fun s : Sp => area s.r) sps sps.length ∧ 0 + pre (fun s : Sp => area s.r) sps sps.length ≤ 64000000 := by omega
      generalize hQ1 : 0 + pre (fun s : Sp => hit xx yy s.r) sps sps.length = Q1 at *
      generalize hQ2 : 0 + pre (fun s : Sp => area s.r) sps sps.length = Q2 at *
      have HQ1 := Lib.hid hQ1
      have HQ2 := Lib.hid hQ2
      clear hQ1 hQ2 p1 p2 v6 HB
      generalize wr = ws at *
      go_wp2_with fail
      go_loopw [19, 20, 114] (WhRel ws (hit xx yy) area bo Q1 Q2) (fun _ _ i _ => bo.length - (intOf i).toNat)
      case atStart => exact ⟨0, rfl, Nat.zero_le _, by rw [pre_zero, Int.add_zero], by rw [pre_zero, Int.add_zero], Below.refl _ _⟩
      case round =>
        obtain ⟨k, rfl, hle2, rfl, rfl, hbw⟩ := hrel
        have HB := Lib.hid hbw
        clear hbw
        have p1 := HP3.out k
        have p2 := HP4.out k
        by_cases hlt : k < bo.length
        · have hki : (k : Int) < (bo.length : Int) := by omega
          have hkk := List.getElem?_eq_getElem hlt
          obtain ⟨x1, y1, rfl, _, hx1, _, k0, k1, k2, k3⟩ := rect_at (TabAt.below HF6.out HB.out (Nat.le_refl _)) k _ hkk
          have hin := HC.out.2.2.2 _ (List.mem_of_getElem? hkk)
          have S1 := Lib.hid (pre_succ (hit xx yy) hkk)
          have S2 := Lib.hid (pre_succ area hkk)
          clear hkk
          generalize bo[k] = y at *
          obtain ⟨yX, yY, yW, yH⟩ := y
          dsimp only at k0 k1 k2 k3
          have har := area_le hin
          unfold area at har
          dsimp only at har
          generalize pre (hit xx yy) bo k = P1 at *
          generalize pre area bo k = P2 at *
          clear hin
          have BX := Lib.hid (Held.new wr 48 #[.int .i64 yX, .int .i64 yY, .int .i64 yW, .int .i64 yH])
          have BY := Lib.hid (Below.alloc HB.out HB.out.size (.cells #[.int .i64 yX, .int .i64 yY, .int .i64 yW, .int .i64 yH] 48))
          go_wp2_with fail
          refine (HIT.out ⟨yX, yY, yW, yH⟩ _).mono ?_
          rintro x w6 ⟨rfl, h6⟩
          have BX6 := Held.below BX.out h6 (by simp)
          have BY6 := Lib.hid (BY.out.trans (h6.mono BY.out.size))
          clear h6 k0 k1 k2 k3
          have j2 := BX6.cell 2
          have j3 := BX6.cell 3
          simp at j2 j3
          clear BX6
          generalize hbb : inF ⟨yX, yY, yW, yH⟩ xx yy = bb at *
          have HBB := Lib.hid hbb
          clear hbb
          cases bb
          · have S1' := Lib.hid (show pre (hit xx yy) bo (k + 1) = P1 by rw [S1.out]; unfold hit; rw [HBB.out]; simp)
            go_wp2_with fail
            go_roundw
            case rel => exact ⟨k + 1, by go_num, by omega, by rw [S1'.out] <;> (try go_num), by rw [S2.out] <;> (try unfold area) <;> (try go_num), BY6.out⟩
            case measure => simp [intOf]; omega
          · have S1' := Lib.hid (show pre (hit xx yy) bo (k + 1) = P1 + 1 by rw [S1.out]; unfold hit; rw [HBB.out]; simp)
            go_wp2_with fail
            go_roundw
            case rel => exact ⟨k + 1, by go_num, by omega, by rw [S1'.out] <;> (try go_num), by rw [S2.out] <;> (try unfold area) <;> (try go_num), BY6.out⟩
            case measure => simp [intOf]; omega
        · have ek : k = bo.length := by omega
          subst ek
          have v7 := HV6.out.below HB.out
          have b7 := Lib.hid (b6.out.trans (HB.out.mono b6.out.size))
          have e1 : Q1 + pre (hit xx yy) bo bo.length = 1 := by
            have h1 := HC.out.1
            have h2 := HQ1.out
            rw [pre_all, Int.zero_add] at h2
            rw [pre_all, ← h2, h1, hit_in HW.out, if_pos (by simp [win]; omega)]
          have e2 : Q2 + pre area bo bo.length = (wn : Int) * (hn : Int) := by
            have h1 := HC.out.2.1
            have h2 := HQ2.out
            rw [pre_all, Int.zero_add] at h2
            rw [pre_all, ← h2, h1]
            rfl
          have hm := area_le HW.out
          have hm1 : 0 ≤ (wn : Int) * (hn : Int) := hm.1
          have hm2 : (wn : Int) * (hn : Int) ≤ 1000000 := hm.2
          rw [e1, e2]
          clear e1 e2 p1 p2 hq1 hq2 hm
          have q0 := v7.1.cell
          go_wp2_with fail
          refine (H3.out _ v7.2).mono ?_
          rintro x w8 ⟨rfl, h8⟩
          have z8 := h8.trans ((below_new w8 (.cells #[.slice none 0 0] 30)).mono h8.size)
          have b8 := Lib.hid (b7.out.trans (z8.mono b7.out.size))
          clear h8 z8 q0 v7
          go_wp2_with fail
          refine (awake_any _).mono ?_
          rintro x w12 ⟨rfl, h12⟩
          go_wp2_with fail
          go_ret
          exact ⟨rfl, b8.out.trans (h12.mono b8.out.size)⟩
end Go.Proofs.Ytojgmofpgefonaa
