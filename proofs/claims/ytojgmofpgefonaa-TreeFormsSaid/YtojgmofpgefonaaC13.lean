/-
  That the small check 'awake' of this seat answers true. No condition.
-/
import Derived.Test.YtojgmofpgefonaaC12
namespace Go.Proofs.Ytojgmofpgefonaa
open Go.RowKit
set_option linter.unusedSimpArgs false
set_option linter.unusedVariables false
set_option maxRecDepth 100000

theorem TrP.lit {w w' : World} {l : List N} {n : Nat} {e : Ending} (h : TrP w l e w') (hn : l.length = n) : ∃ D c, e = .returned (.tuple #[.agg #[.slice D n c], .bool true]) ∧ n ≤ c ∧ TabAt 0 w' D (EN.flat l) ∧ Below w.heap.size w w' := by
  obtain ⟨D, c, rfl, h1, h2, h3⟩ := h
  subst hn
  exact ⟨D, c, rfl, h1, h2.weak (Nat.zero_le _), h3⟩
theorem OwnP.lit {w w' : World} {l : List Int} {n : Nat} {e : Ending} (h : OwnP EI 3 w l e w') (hn : l.length = n) : ∃ D c, e = .returned (.slice D n c) ∧ TabAt 0 w' D (EI.flat l) ∧ Below w.heap.size w w' := by
  obtain ⟨v, rfl, h1, h2⟩ := h
  obtain ⟨D, c, rfl, _, h3⟩ := SV.of_own (E := EI) h1 (by decide)
  subst hn
  exact ⟨D, c, rfl, h3.weak (Nat.zero_le _), h2⟩
theorem PlP.lit {w w' : World} {s : List Sp} {b : List R} {n m : Nat} {e : Ending} (h : PlP w s b e w') (hn : s.length = n) (hm : b.length = m) : ∃ D c D' c', e = .returned (.tuple #[.slice D n c, .slice D' m c', .bool true]) ∧ TabAt 0 w' D (ES.flat s) ∧ TabAt 0 w' D' (ER.flat b) ∧ Below w.heap.size w w' := by
  obtain ⟨v, u, rfl, h1, h2, h3⟩ := h
  obtain ⟨D, c, rfl, _, h4⟩ := SV.of_own (E := ES) h1 (by decide)
  obtain ⟨D', c', rfl, _, h5⟩ := SV.of_own (E := ER) h2 (by decide)
  subst hn hm
  exact ⟨D, c, D', c', rfl, h4.weak (Nat.zero_le _), h5.weak (Nat.zero_le _), h3⟩
theorem ints_lit {w : World} {vs : List Value} {l : List Int} (h : vs = EI.flat l) : TabAt 0 (w.alloc (.cells vs.toArray 3)) (some ⟨w.heap.size, 0, none⟩) (EI.flat l) := by
  subst h
  exact Held.tab (Held.new w 3 _) (Nat.zero_le _)
theorem LB : (tB.flat 0).length = 5 := rfl
theorem LA : (tA.flat 0).length = 3 := rfl
theorem LC : ((tC.fit (win 9 5)).flat 0).length = 3 := by rw [T.flat_len, T.fit_size]; rfl
theorem LS : ((tB.swap 1 3).flat 0).length = 5 := by rw [T.flat_len, T.swap_size]; rfl
theorem placesB (D : Option Addr) (c : Nat) (w : World) (h : TabAt 0 w D (EN.flat (tB.flat 0))) : Calls Try.prog 19 #[.agg #[.slice D 5 c], .int .i64 9, .int .i64 5] w (PlP w (tB.spots (win 9 5)) (tB.bords (win 9 5))) := places_any (tB.flat 0) tB D c 0 9 5 w h isB in95 fitsB
theorem leastB (D : Option Addr) (c : Nat) (w : World) (h : TabAt 0 w D (EN.flat (tB.flat 0))) : Calls Try.prog 11 #[.agg #[.slice D 5 c]] w (New (.tuple #[.int .i64 3, .int .i64 3]) w) := least_any (tB.flat 0) tB D c 0 w h isB
theorem swapB (D : Option Addr) (c : Nat) (w : World) (h : TabAt 0 w D (EN.flat (tB.flat 0))) : Calls Try.prog 22 #[.agg #[.slice D 5 c], .int .i64 1, .int .i64 3] w (TrP w ((tB.swap 1 3).flat 0)) := swap_any (tB.flat 0) tB D c 0 1 3 w h isB (by simp [tB, T.panes]) (by simp [tB, T.panes])
theorem okB (D : Option Addr) (c : Nat) (w : World) (h : TabAt 0 w D (EN.flat (tB.flat 0))) : Calls Try.prog 12 #[.agg #[.slice D 5 c]] w (New (.bool true) w) := by
  have := ok_any (tB.flat 0) D c 0 w h (by rw [LB]; omega)
  rw [isB.treeF] at this
  exact this
theorem panesB' (D : Option Addr) (c : Nat) (w : World) (h : TabAt 0 w D (EN.flat (tB.flat 0))) : Calls Try.prog 13 #[.agg #[.slice D 5 c]] w (OwnP EI 3 w [1, 2, 3]) := panesT (tB.flat 0) tB isB D c 0 w h
theorem panesC' (D : Option Addr) (c : Nat) (w : World) (h : TabAt 0 w D (EN.flat ((tC.fit (win 9 5)).flat 0))) : Calls Try.prog 13 #[.agg #[.slice D 3 c]] w (OwnP EI 3 w [2, 3]) := by
  have := panesT _ _ isC D c 0 w h
  rw [panesC, LC] at this
  exact this
theorem panesS' (D : Option Addr) (c : Nat) (w : World) (h : TabAt 0 w D (EN.flat ((tB.swap 1 3).flat 0))) : Calls Try.prog 13 #[.agg #[.slice D 5 c]] w (OwnP EI 3 w [3, 2, 1]) := by
  have := panesT _ _ isS D c 0 w h
  rw [panesS, LS] at this
  exact this
/-- A tree in a variable of the call's own. -/
def VT (W : World) (g : Nat) (D : Option Addr) (n c : Nat) (l : List N) : Prop := TB W g (.slice D n c) ∧ TabAt 0 W D (EN.flat l)
theorem VT.new {w : World} {D : Option Addr} {n c : Nat} {l : List N} (h : TabAt 0 w D (EN.flat l)) : VT (w.alloc (.cells #[.slice D n c] 30)) w.heap.size D n c l := ⟨TB.new _ _, h.below (below_new _ _) (Nat.le_refl _)⟩
theorem VT.below {w w' : World} {g n c : Nat} {D : Option Addr} {l : List N} (h : VT w g D n c l) (hb : Below w.heap.size w w') : VT w' g D n c l := ⟨h.1.below hb h.1.lt, h.2.below hb (Nat.le_refl _)⟩
theorem VT.alloc {w : World} {g n c : Nat} {D : Option Addr} {l : List N} (h : VT w g D n c l) (o : Obj) : VT (w.alloc o) g D n c l := h.below (below_new _ _)

set_option maxHeartbeats 16000000 in
theorem awake_any (w : World) : Calls Try.prog 14 #[] w (TrueB w) := by
  go_enter Try.func14, Try.ntmps14
  go_wp2_with fail
  refine (one_any 1 _ (by omega)).mono ?_
  rintro x w1 ⟨v, rfl, o1, h1⟩
  obtain ⟨V, vc, rfl, hvc, t1⟩ := SV.of_own (E := EN) o1 (by decide)
  have b1 := Lib.hid h1
  clear o1 h1
  go_wp2_with fail
  refine (splitA V vc _ w1 t1 hvc).mono ?_
  intro x w2 h2
  obtain ⟨D1, c1, rfl, hc1, tA1, h2⟩ := TrP.lit h2 LA
  have vA := VT.new (n := 3) (c := c1) tA1
  have b2 := Lib.hid ((b1.out.trans (h2.mono b1.out.size)).trans ((below_new w2 (.cells #[.slice D1 3 c1] 30)).mono ((b1.out.trans (h2.mono b1.out.size)).size)))
  have q0 := vA.1.cell
  clear h2 tA1 t1
  go_wp2_with fail
  refine (splitB D1 c1 _ _ vA.2 hc1).mono ?_
  intro x w3 h3
  obtain ⟨D2, c2, rfl, hc2, tB1, h3⟩ := TrP.lit h3 LB
  have vB := VT.new (n := 5) (c := c2) tB1
  have b3 := Lib.hid ((b2.out.trans (h3.mono b2.out.size)).trans ((below_new w3 (.cells #[.slice D2 5 c2] 30)).mono ((b2.out.trans (h3.mono b2.out.size)).size)))
  clear h3 tB1 q0 vA
  have q0 := vB.1.cell
  go_wp2_with fail
  refine (placesB D2 c2 _ vB.2).mono ?_
  intro x w4 h4
  obtain ⟨E, ce, F, cf, rfl, tE, tF, h4⟩ := PlP.lit h4 (n := 3) (m := 2) (by rw [spotsB]; rfl) (by rw [bordsB]; rfl)
  have b4 := Lib.hid (b3.out.trans (h4.mono b3.out.size))
  have vB4 := vB.below h4
  clear h4 q0 vB
  have q0 := vB4.1.cell
  go_wp2_with fail
  refine (leastB D2 c2 _ vB4.2).mono ?_
  rintro x w5 ⟨rfl, h5⟩
  have b5 := Lib.hid (b4.out.trans (h5.mono b4.out.size))
  have vB5 := vB4.below h5
  have tE5 := tE.below h5 (Nat.le_refl _)
  have tF5 := tF.below h5 (Nat.le_refl _)
  clear h5 q0 vB4 tE tF
  have q0 := vB5.1.cell
  go_wp2_with fail
  refine (removeB D2 c2 0 _ vB5.2 hc2).mono ?_
  intro x w6 h6
  obtain ⟨D3, c3, rfl, hc3, tC1, h6⟩ := TrP.lit h6 LC
  have vC := VT.new (n := 3) (c := c3) tC1
  have b6 := Lib.hid ((b5.out.trans (h6.mono b5.out.size)).trans ((below_new w6 (.cells #[.slice D3 3 c3] 30)).mono ((b5.out.trans (h6.mono b5.out.size)).size)))
  have vB6 := (vB5.below h6).alloc (.cells #[.slice D3 3 c3] 30)
  have tE6 := (tE5.below h6 (Nat.le_refl _)).below (below_new w6 (.cells #[.slice D3 3 c3] 30)) (Nat.le_refl _)
  have tF6 := (tF5.below h6 (Nat.le_refl _)).below (below_new w6 (.cells #[.slice D3 3 c3] 30)) (Nat.le_refl _)
  clear h6 q0 vB5 tE5 tF5 tC1
  go_wp2_with fail
  generalize (w6.alloc (.cells #[.slice D3 3 c3] 30)) = w6' at *
  refine (one_any 1 _ (by omega)).mono ?_
  rintro x w7 ⟨v, rfl, o7, h7⟩
  obtain ⟨V7, vc7, rfl, hvc7, t7⟩ := SV.of_own (E := EN) o7 (by decide)
  have b7 := Lib.hid (b6.out.trans (h7.mono b6.out.size))
  have vB7 := vB6.below h7
  have vC7 := vC.below h7
  have tE7 := tE6.below h7 (Nat.le_refl _)
  have tF7 := tF6.below h7 (Nat.le_refl _)
  clear h7 o7 vB6 vC tE6 tF6
  go_wp2_with fail
  refine (remove_one 1 V7 vc7 _ 9 5 w7 t7 (by omega)).mono ?_
  rintro x w8 ⟨rfl, h8⟩
  have b8 := Lib.hid ((b7.out.trans (h8.mono b7.out.size)).trans ((below_new w8 (.cells #[.slice none 0 0] 30)).mono ((b7.out.trans (h8.mono b7.out.size)).size)))
  have vB8 := (vB7.below h8).alloc (.cells #[.slice none 0 0] 30)
  have vC8 := (vC7.below h8).alloc (.cells #[.slice none 0 0] 30)
  have tE8 := (tE7.below h8 (Nat.le_refl _)).below (below_new w8 (.cells #[.slice none 0 0] 30)) (Nat.le_refl _)
  have tF8 := (tF7.below h8 (Nat.le_refl _)).below (below_new w8 (.cells #[.slice none 0 0] 30)) (Nat.le_refl _)
  clear h8 vB7 vC7 tE7 tF7 t7
  have q0 := vB8.1.cell
  go_wp2_with fail
  generalize (w8.alloc (.cells #[.slice none 0 0] 30)) = w8' at *
  refine (swapB D2 c2 _ vB8.2).mono ?_
  intro x w9 h9
  obtain ⟨D4, c4, rfl, hc4, tS1, h9⟩ := TrP.lit h9 LS
  have vS := VT.new (n := 5) (c := c4) tS1
  have b9 := Lib.hid ((b8.out.trans (h9.mono b8.out.size)).trans ((below_new w9 (.cells #[.slice D4 5 c4] 30)).mono ((b8.out.trans (h9.mono b8.out.size)).size)))
  have vB9 := (vB8.below h9).alloc (.cells #[.slice D4 5 c4] 30)
  have vC9 := (vC8.below h9).alloc (.cells #[.slice D4 5 c4] 30)
  have tE9 := (tE8.below h9 (Nat.le_refl _)).below (below_new w9 (.cells #[.slice D4 5 c4] 30)) (Nat.le_refl _)
  have tF9 := (tF8.below h9 (Nat.le_refl _)).below (below_new w9 (.cells #[.slice D4 5 c4] 30)) (Nat.le_refl _)
  clear h9 vB8 vC8 tE8 tF8 tS1 q0
  have q0 := vB9.1.cell
  go_wp2_with fail
  generalize (w9.alloc (.cells #[.slice D4 5 c4] 30)) = w9' at *
  refine (okB D2 c2 _ vB9.2).mono ?_
  rintro x wa ⟨rfl, ha⟩
  have ba := Lib.hid (b9.out.trans (ha.mono b9.out.size))
  have vBa := vB9.below ha
  have vCa := vC9.below ha
  have vSa := vS.below ha
  have tEa := tE9.below ha (Nat.le_refl _)
  have tFa := tF9.below ha (Nat.le_refl _)
  clear ha vB9 vC9 tE9 tF9 vS q0
  have q0 := vBa.1.cell
  go_wp2_with fail
  refine (panesB' D2 c2 _ vBa.2).mono ?_
  intro x wb hb
  obtain ⟨P, pc, rfl, tP, hb⟩ := OwnP.lit (n := 3) hb rfl
  have bb := Lib.hid ((ba.out.trans (hb.mono ba.out.size)).trans ((below_new wb (.cells #[.int .i64 1, .int .i64 2, .int .i64 3] 3)).mono ((ba.out.trans (hb.mono ba.out.size)).size)))
  have vCb := (vCa.below hb).alloc (.cells #[.int .i64 1, .int .i64 2, .int .i64 3] 3)
  have vSb := (vSa.below hb).alloc (.cells #[.int .i64 1, .int .i64 2, .int .i64 3] 3)
  have tEb := (tEa.below hb (Nat.le_refl _)).below (below_new wb (.cells #[.int .i64 1, .int .i64 2, .int .i64 3] 3)) (Nat.le_refl _)
  have tFb := (tFa.below hb (Nat.le_refl _)).below (below_new wb (.cells #[.int .i64 1, .int .i64 2, .int .i64 3] 3)) (Nat.le_refl _)
  have HI := Lib.hid (fun c c' => sameInts_any [1, 2, 3] P (some ⟨wb.heap.size, 0, none⟩) c c' 0 0 (wb.alloc (.cells #[.int .i64 1, .int .i64 2, .int .i64 3] 3)) (tP.below (below_new _ _) (Nat.le_refl _)) (ints_lit (vs := [.int .i64 1, .int .i64 2, .int .i64 3]) rfl) (by simp))
  clear hb vBa vCa vSa tEa tFa q0 tP
  go_wp2_with fail
  refine (HI.out _ _).mono ?_
  intro x wc hc
  have hcb := hc.below
  obtain ⟨rfl, _⟩ := hc
  have bc := Lib.hid (bb.out.trans (hcb.mono bb.out.size))
  have vCc := vCb.below hcb
  have vSc := vSb.below hcb
  have tEc := tEb.below hcb (Nat.le_refl _)
  have tFc := tFb.below hcb (Nat.le_refl _)
  clear hcb vCb vSb tEb tFb HI
  rw [spotsB] at tEc
  rw [bordsB] at tFc
  obtain ⟨eb, eo, rfl, _, _, _, e0, e1, e2, e3, e4⟩ := spot_at tEc 1 _ rfl
  obtain ⟨fb, fo, rfl, _, _, _, f0, f1, f2, f3⟩ := rect_at tFc 0 _ rfl
  dsimp only at e0 e1 e2 e3 e4 f0 f1 f2 f3
  simp only [Nat.zero_mul, Nat.add_zero] at f0 f1 f2 f3
  have q0 := vCc.1.cell
  clear tEc tFc
  go_wp2_with fail
  refine (panesC' D3 c3 _ vCc.2).mono ?_
  intro x wd hd
  obtain ⟨P2, pc2, rfl, tP2, hd⟩ := OwnP.lit (n := 2) hd rfl
  have bd := Lib.hid ((bc.out.trans (hd.mono bc.out.size)).trans ((below_new wd (.cells #[.int .i64 2, .int .i64 3] 3)).mono ((bc.out.trans (hd.mono bc.out.size)).size)))
  have vSd := (vSc.below hd).alloc (.cells #[.int .i64 2, .int .i64 3] 3)
  have HI := Lib.hid (fun c c' => sameInts_any [2, 3] P2 (some ⟨wd.heap.size, 0, none⟩) c c' 0 0 (wd.alloc (.cells #[.int .i64 2, .int .i64 3] 3)) (tP2.below (below_new _ _) (Nat.le_refl _)) (ints_lit (vs := [.int .i64 2, .int .i64 3]) rfl) (by simp))
  clear hd vCc vSc q0 tP2 e0 e1 e2 e3 e4 f0 f1 f2 f3
  go_wp2_with fail
  refine (HI.out _ _).mono ?_
  intro x we he
  have heb := he.below
  obtain ⟨rfl, _⟩ := he
  have be := Lib.hid (bd.out.trans (heb.mono bd.out.size))
  have vSe := vSd.below heb
  clear heb vSd HI
  have q0 := vSe.1.cell
  go_wp2_with fail
  refine (panesS' D4 c4 _ vSe.2).mono ?_
  intro x wf hf
  obtain ⟨P3, pc3, rfl, tP3, hf⟩ := OwnP.lit (n := 3) hf rfl
  have bf := Lib.hid ((be.out.trans (hf.mono be.out.size)).trans ((below_new wf (.cells #[.int .i64 3, .int .i64 2, .int .i64 1] 3)).mono ((be.out.trans (hf.mono be.out.size)).size)))
  have HI := Lib.hid (fun c c' => sameInts_any [3, 2, 1] P3 (some ⟨wf.heap.size, 0, none⟩) c c' 0 0 (wf.alloc (.cells #[.int .i64 3, .int .i64 2, .int .i64 1] 3)) (tP3.below (below_new _ _) (Nat.le_refl _)) (ints_lit (vs := [.int .i64 3, .int .i64 2, .int .i64 1]) rfl) (by simp))
  clear hf vSe q0 tP3
  go_wp2_with fail
  refine (HI.out _ _).mono ?_
  intro x wg hg
  have hgb := hg.below
  obtain ⟨rfl, _⟩ := hg
  go_wp2_with fail
  go_ret
  exact ⟨rfl, bf.out.trans (hgb.mono bf.out.size)⟩
end Go.Proofs.Ytojgmofpgefonaa
