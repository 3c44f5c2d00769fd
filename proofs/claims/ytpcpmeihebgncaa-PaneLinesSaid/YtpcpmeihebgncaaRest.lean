/-
  What escaped of package acts answers for c, sequenced for m and for r where fewer than two rows would scroll, switched, and Apply for what is no kind. Conditions: the screen's sides lie between 1 and 1,000, the cursor is on it; at most a million parameters.
-/
import Derived.Test.YtpcpmeihebgncaaNoClr
import Derived.Test.YtpcpmeihebgncaaAttr
namespace Go.Proofs.Ytpcpmeihebgncaa
open Go.RowKit
set_option maxRecDepth 100000

set_option maxHeartbeats 400000 in
theorem fittedO_any (D : Option Addr) (c : Nat) (L : List (List C)) (x : Int) (h : Nat) (w : World) (hr : Lines 0 w D L) (hn : h ≤ 1050) : Calls Try.prog 90 #[.slice D L.length c, .int .i64 x, .int .i64 h] w (OLPost w (fittedF L x h)) := by
  have hm := run_makeL w h (by omega)
  have hS := FillSt.start w (fittedF L x h)
  have HF := Lib.hid (fittedF_in L x h)
  have HO := Lib.hid (fittedF_out L x h)
  have hlen := fittedF_len L x h
  obtain ⟨M, hM⟩ : ∃ M, M = fittedF L x h := ⟨_, rfl⟩
  rw [← hM] at hS HF HO hlen ⊢
  clear hM
  subst hlen
  have HS := Lib.hid hS
  have HR := Lib.hid hr
  clear hr hS
  go_enter Try.func90, Try.ntmps90
  go_wp2_with fail
  go_loopw [13] (FillRel w w.heap.size M) (fun i _ => M.length - (intOf i).toNat)
  case atStart => exact ⟨[], rfl, HS.out⟩
  case round =>
    obtain ⟨vs, rfl, hst⟩ := hrel
    by_cases hlt : vs.length < M.length
    · have hki : (vs.length : Int) < (M.length : Int) := by omega
      have HST := Lib.hid hst
      have hgl := hst.table.lt
      have hfl := fillV_cell hst.table hlt
      have hfz := hst.table.frozen
      by_cases hL : vs.length < L.length
      · have hLi : (vs.length : Int) < (L.length : Int) := by omega
        obtain ⟨b, off, E, ce, rfl, _, hbl, _, hcell, hce, hrow⟩ := (HR.out.below hst.below (Nat.le_refl _)).at vs.length hL
        have HROW := Lib.hid hrow.read
        have HCL := Lib.hid (fit_any E ce L[vs.length] x wr HROW.out)
        have HQ := Lib.hid (HF.out vs.length hlt hL)
        clear hst hrow HROW
        generalize L[vs.length] = q at *
        generalize fitF q x = r at *
        go_wp2_with (
          go_at_call 127
          refine HCL.out.mono ?_
          rintro e w1 hp1
          obtain ⟨D1, c1, rfl, hc1, hr1, hb1⟩ := hp1.v
          have hfl1 := (fillV_cell (HST.out.table.below hb1 hgl) hlt)
          have hfz1 := (HST.out.table.below hb1 hgl).frozen)
        go_roundw
        case rel =>
          refine ⟨vs ++ [.slice D1 r.length c1], by simp, HST.out.next (Nat.le_refl _) hb1 hlt ⟨D1, c1, ?_, ?_, ?_⟩⟩
          · rw [HQ.out]
          · rw [HQ.out]; exact hc1
          · rw [HQ.out]; exact hr1
        case measure => simp [intOf]; omega
      · have hLi : ¬ (vs.length : Int) < (L.length : Int) := by omega
        have HCL := Lib.hid (blankR_any x wr)
        have HQ := Lib.hid (HO.out vs.length hlt hL)
        clear hst
        generalize blankF x = r at *
        go_wp2_with (
          go_at_call 128
          refine HCL.out.mono ?_
          rintro e w1 hp1
          obtain ⟨D1, c1, rfl, hc1, hr1, hb1⟩ := hp1.v
          have hfl1 := (fillV_cell (HST.out.table.below hb1 hgl) hlt)
          have hfz1 := (HST.out.table.below hb1 hgl).frozen)
        go_roundw
        case rel =>
          refine ⟨vs ++ [.slice D1 r.length c1], by simp, HST.out.next (Nat.le_refl _) hb1 hlt ⟨D1, c1, ?_, ?_, ?_⟩⟩
          · rw [HQ.out]
          · rw [HQ.out]; exact hc1
          · rw [HQ.out]; exact hr1
        case measure => simp [intOf]; omega
    · have ek : vs.length = M.length := by have := hst.le; omega
      have hki : ¬ (vs.length : Int) < (M.length : Int) := by omega
      have HP := Lib.hid (hst.opost (Nat.le_refl _) ek)
      clear hst ek
      go_wp2_with fail
      go_ret
      exact HP.out
set_option maxHeartbeats 400000 in
theorem gblanksO_any (x : Int) (h : Nat) (w : World) (hn : h ≤ 1050) : Calls Try.prog 88 #[.int .i64 x, .int .i64 h] w (OLPost w (blankL x h)) := by
  have HF := Lib.hid (fittedO_any none 0 [] x h w (Lines.nil _ _ _) hn)
  rw [fitted_nil] at HF
  generalize blankL x h = q at *
  go_enter Try.func88, Try.ntmps88
  go_wp2_with (go_at_call 90; refine HF.out.mono ?_; rintro e w1 ⟨g, rfl, h1, h2⟩)
  go_ret
  exact ⟨g, rfl, h1, h2⟩

theorem side_nat (y : Int) : ∃ h : Nat, sideF y = h ∧ 1 ≤ h ∧ h ≤ 1000 := ⟨(sideF y).toNat, by unfold sideF; omega, by unfold sideF; omega, by unfold sideF; omega⟩
def GNewPost (w : World) (p : Nm) (L : List (List C)) (e : Ending) (w' : World) : Prop := ∃ g, e = .returned (gv p (.slice (some ⟨g, 0, none⟩) L.length L.length) nilV) ∧ OTab w.heap.size w' g L ∧ Below w.heap.size w w'
set_option maxRecDepth 100000 in
set_option maxHeartbeats 2000000 in
theorem gnewO_any (x0 y0 : Int) (w : World) : Calls Try.prog 42 #[.int .i64 x0, .int .i64 y0] w (GNewPost w (newNm (sideF x0) (sideF y0)) (blankL (sideF x0) (sideF y0).toNat)) := by
  have HX := Lib.hid (fun w => side_any x0 w)
  obtain ⟨h, hh, hh0, hh1⟩ := side_nat y0
  have HY : Hid (∀ w, Calls Try.prog 87 #[.int .i64 y0] w fun e w' => e = .returned (.int .i64 h) ∧ w = w') := fun w => by rw [← hh]; exact side_any y0 w
  rw [hh, Int.toNat_natCast]
  generalize sideF x0 = x at *
  clear hh
  have HB := Lib.hid (fun w => gblanksO_any x h w (by omega))
  go_enter Try.func42, Try.ntmps42
  go_wp2_with fail
  refine (HX.out _).mono ?_
  rintro e w' ⟨rfl, rfl⟩
  go_wp2_with (go_at_call 87; refine (HY.out _).mono ?_; rintro e w' ⟨rfl, rfl⟩)
  refine (HB.out _).mono ?_
  rintro e w1 ⟨g, rfl, hl, hb⟩
  have hx : Box w1 w.heap.size zeroNm nilV nilV := (Box.new w zeroNm nilV nilV).below hb (by simp)
  have hzz := hx.lt
  have hbw : Below w.heap.size w w1 := ((Below.refl _ _).alloc (Nat.le_refl _) _).trans (hb.mono (by simp))
  have HL := Lib.hid (hl.put15 (g := w.heap.size) (by simp) (newNm x h) (.slice (some ⟨g, 0, none⟩) (blankL x h).length (blankL x h).length) nilV)
  have HZ := Lib.hid (put15_box hx (p := newNm x h) (.slice (some ⟨g, 0, none⟩) (blankL x h).length (blankL x h).length) nilV).cells
  have HBA := Lib.hid (put15_below hbw (Nat.le_refl _) (newNm x h) (.slice (some ⟨g, 0, none⟩) (blankL x h).length (blankL x h).length) nilV)
  have hc2 := hx.cells
  simp only [zeroNm, nilV] at hc2
  obtain ⟨a0, a1, a2, a3, a4, a5, a6, a7, a8, a9, a10, a11, a12, a13, a14, af⟩ := hc2
  clear hl hb hx hbw
  go_wp2_with fail
  change bodyPost _ _ _ _ _ (put15 w1 w.heap.size (newNm x h) (.slice (some ⟨g, 0, none⟩) (blankL x h).length (blankL x h).length) nilV)
  clear a0 a1 a2 a3 a4 a5 a6 a7 a8 a9 a10 a11 a12 a13 a14 af
  generalize (put15 w1 w.heap.size (newNm x h) (.slice (some ⟨g, 0, none⟩) (blankL x h).length (blankL x h).length) nilV) = wz at *
  obtain ⟨y0, y1, y2, y3, y4, y5, y6, y7, y8, y9, y10, y11, y12, y13, y14, yf⟩ := HZ.out
  refine bodyPost_ret (v := gv (newNm x h) (.slice (some ⟨g, 0, none⟩) (blankL x h).length (blankL x h).length) nilV) (by simp [results, Try.results42, go_sem, gv, gcs, y0, y1, y2, y3, y4, y5, y6, y7, y8, y9, y10, y11, y12, y13, y14]) rfl ?_
  exact ⟨g, rfl, HL.out.weak (by simp), HBA.out⟩


set_option maxHeartbeats 4000000 in
theorem esc_c (B : Nat) (p : Nm) (g h : Nat) (L Bk : List (List C)) (w : World) (hs : OScr B w g h L Bk) (hp : On p) :
    Calls Try.prog 29 #[ov p g h L Bk, .int .i32 99] w (InPost B g w (newNm p.w p.h) (blankL p.w p.h.toNat) Bk) := by
  have HS := Lib.hid (MS.start w p (.slice (some ⟨g, 0, none⟩) L.length L.length) (.slice (some ⟨h, 0, none⟩) Bk.length Bk.length))
  have e1 : sideF p.w = p.w := by have := hp.w0; have := hp.w1; unfold sideF; omega
  have e2 : sideF p.h = p.h := by have := hp.h0; have := hp.h1; unfold sideF; omega
  have HN : Hid (∀ w, Calls Try.prog 42 #[.int .i64 p.w, .int .i64 p.h] w (GNewPost w (newNm p.w p.h) (blankL p.w p.h.toNat))) := fun w => by
    have := gnewO_any p.w p.h w
    rwa [e1, e2] at this
  have hgl := hs.rows.lt
  have hhl := hs.back.lt
  have hB : B ≤ w.heap.size := by have := hs.rows.low; omega
  have HH := Lib.hid hs
  clear hs hp e1 e2
  obtain ⟨q, hq⟩ : ∃ q, q = newNm p.w p.h := ⟨_, rfl⟩
  obtain ⟨L2, hL2⟩ : ∃ L2, L2 = blankL p.w p.h.toNat := ⟨_, rfl⟩
  rw [← hq, ← hL2] at HN ⊢
  clear hq hL2
  unfold ov gv gcs
  go_enter Try.func29, Try.ntmps29
  go_upto_region 1 with fail
  refine wp_world (fun wq => MS w p (.slice (some ⟨g, 0, none⟩) L.length L.length) (.slice (some ⟨h, 0, none⟩) Bk.length Bk.length) wq) HS.out ?_
  clear HS
  intro w2 ms
  have u0 := ms.box.cells.c0
  have u1 := ms.box.cells.c1
  go_upto_region 17 with (first
    | (go_at_call 42
       refine (HN.out w2).mono ?_
       clear HN
       rintro e w3 ⟨g3, rfl, t3, b3⟩)
    | (with_reducible refine wpList_storeB (x := .tmp 5) (y := .tmp 57) (p := q) (D := some ⟨g3, 0, none⟩) (E := none) (n := L2.length) (c := L2.length) (m := 0) (d := 0) ?_ ?_ ?_ ?_ ?_ ?_
       · with_reducible rfl
       · rfl
       · rfl
       · rfl
       · rfl))
  have hz := ms.below.size
  have hlow := t3.low
  have hz3 := b3.size
  refine wp_world (fun wq => Box wq w.heap.size p (.slice (some ⟨g, 0, none⟩) L.length L.length) (.slice (some ⟨h, 0, none⟩) Bk.length Bk.length) ∧ Box wq (w.heap.size + 1) zeroNm nilV nilV ∧ Box wq w3.heap.size q (.slice (some ⟨g3, 0, none⟩) L2.length L2.length) (.slice none 0 0) ∧ OTab w2.heap.size wq g3 L2 ∧ OTab B wq h Bk ∧ Below w.heap.size w wq)
    ⟨(ms.box.below b3 ms.box.lt).alloc _, (ms.ans.below b3 ms.ans.lt).alloc _, Box.new _ _ _ _, t3.below ((Below.refl _ _).alloc (Nat.le_refl _) _) (Nat.le_refl _), (HH.out.back.below ms.below (Nat.le_refl _)).below (b3.alloc b3.size _) (Nat.le_refl _), (ms.below.trans (b3.mono ms.below.size)).alloc (by omega) _⟩ ?_
  clear u0 u1 t3
  rintro w4 ⟨x4, a4, o4, t4, k4, b4⟩
  have v14 := x4.cells.c14
  have o14 := o4.cells.c14
  have of := o4.cells.free
  have hz4 := o4.lt
  have hms := ms.ans.lt
  go_upto_region 18 with fail
  have o5 := o4.set_back (.slice (some ⟨h, 0, none⟩) Bk.length Bk.length)
  have a5 := a4.far (q := ⟨w3.heap.size, 14, none⟩) (by exact (by omega : w.heap.size + 1 ≠ w3.heap.size)) (.slice (some ⟨h, 0, none⟩) Bk.length Bk.length)
  have t5 := t4.box o4 (w' := w4.setCell ⟨w3.heap.size, 14, none⟩ (.slice (some ⟨h, 0, none⟩) Bk.length Bk.length)) (by simp) fun b _ hn => Below.heap_setCell w4 ⟨w3.heap.size, 14, none⟩ _ b hn
  have k5 := k4.box o4 (w' := w4.setCell ⟨w3.heap.size, 14, none⟩ (.slice (some ⟨h, 0, none⟩) Bk.length Bk.length)) (by simp) fun b _ hn => Below.heap_setCell w4 ⟨w3.heap.size, 14, none⟩ _ b hn
  have b5 := b4.setCell (p := ⟨w3.heap.size, 14, none⟩) (by exact (by omega : w.heap.size ≤ w3.heap.size)) (.slice (some ⟨h, 0, none⟩) Bk.length Bk.length)
  clear v14 o14 of x4 a4 o4 t4 k4 b4
  generalize (w4.setCell ⟨w3.heap.size, 14, none⟩ (.slice (some ⟨h, 0, none⟩) Bk.length Bk.length)) = w5 at *
  go_wp2_with (first
    | (with_reducible refine wpList_loadB o5 (x := .tmp 5) ?_ ?_ ?_ ?_
       · with_reducible rfl
       · rfl
       · rfl)
    | (with_reducible refine wpList_storeA a5 (x := .tmp 4) (y := .tmp 61) (p := q) (D := some ⟨g3, 0, none⟩) (E := some ⟨h, 0, none⟩) (n := L2.length) (c := L2.length) (m := Bk.length) (d := Bk.length) ?_ ?_ ?_ ?_ ?_
       · with_reducible rfl
       · rfl
       · rfl
       · rfl))
  refine bodyPost_ret (v := gv q (.slice (some ⟨g3, 0, none⟩) L2.length L2.length) (.slice (some ⟨h, 0, none⟩) Bk.length Bk.length)) (results_cell_row (P := Try.prog) Try.results29 _ _ (w.heap.size + 1) 35 _ (0, 0) _ rfl (a5.setRow _ _ _) Try.underlying35 rfl box_size) rfl ?_
  have s6 : OScr B w5 g3 h L2 Bk := ⟨t5.weak (by omega), k5, by omega⟩
  exact ⟨g3, h, rfl, s6.bput a5 _, Chg.of (below_setRow b5 (Nat.le_succ _) _) hgl⟩

set_option maxHeartbeats 4000000 in
theorem seq_m (p : Nm) (D E PD : Option Addr) (n c m d pc : Nat) (xs : List Int) (w : World) (hr : ReadI w (.slice PD xs.length pc) xs) (hx : xs.length ≤ 1000000) :
    Calls Try.prog 30 #[gv p (.slice D n c) (.slice E m d), .int .i32 109, .slice PD xs.length pc] w (ValPost (gv { p with a := Attr.applyF p.a xs } (.slice D n c) (.slice E m d)) w) := by
  have HS := Lib.hid (MS.start w p (.slice D n c) (.slice E m d))
  have HT : Hid (∀ wx, Below w.heap.size w wx → Calls Try.prog 56 #[.slice PD xs.length pc, .int .i64 0, .int .i64 1] wx fun e w' => e = .returned (.int .i64 (toldF xs 0 1)) ∧ wx = w') := fun wx hb => told_any PD pc xs 0 1 wx (hr.below hb (Nat.le_refl _))
  have HA : Hid (∀ wx, Below w.heap.size w wx → Calls Try.prog 58 #[.int .i64 p.a, .slice PD xs.length pc] wx (Attr.ApplyPost wx (Attr.applyF p.a xs))) := fun wx hb => Attr.apply_any p.a xs _ wx (hr.below hb (Nat.le_refl _)) hx
  generalize toldF xs 0 1 = k at *
  obtain ⟨av, hav⟩ : ∃ av, av = Attr.applyF p.a xs := ⟨_, rfl⟩
  rw [← hav] at HA ⊢
  obtain ⟨q, hq0⟩ : ∃ q : Nm, { p with a := av } = q := ⟨_, rfl⟩
  rw [hq0]
  have HQ0 := Lib.hid hq0
  clear hr hq0 hav
  unfold gv gcs
  go_enter Try.func30, Try.ntmps30
  go_upto_region 1 with fail
  refine wp_world (fun wq => MS w p (.slice D n c) (.slice E m d) wq) HS.out ?_
  clear HS
  intro w2 ms
  have HR := Lib.hid ms
  have v5 := ms.box.cells.c5
  have vf := ms.box.cells.free
  clear ms
  go_upto_region 22 with (first
    | (go_at_call 56
       refine (HT.out _ HR.out.below).mono ?_
       rintro e w' ⟨rfl, rfl⟩)
    | (go_at_call 58
       refine (HA.out _ HR.out.below).mono ?_
       rintro e w3 ⟨rfl, b3⟩
       have x3 := HR.out.box.below b3 HR.out.box.lt
       have y5 := x3.cells.c5
       have yf := x3.cells.free
       have hz3 := x3.lt))
  have m3 : MS w p (.slice D n c) (.slice E m d) w3 := ⟨x3, HR.out.ans.below b3 HR.out.ans.lt, HR.out.below.trans (b3.mono HR.out.below.size)⟩
  have m4 : MS w q (.slice D n c) (.slice E m d) (w3.setCell ⟨w.heap.size, 5, none⟩ (.int .i64 av)) := by rw [← HQ0.out]; exact m3.far (m3.box.set_a av)
  clear v5 vf y5 yf hz3 m3 x3 b3
  generalize (w3.setCell ⟨w.heap.size, 5, none⟩ (.int .i64 av)) = w4 at *
  have xg := m4.box
  have xa := m4.ans
  go_wp2_with (first
    | (with_reducible refine wpList_loadB xg (x := .tmp 3) ?_ ?_ ?_ ?_
       · with_reducible rfl
       · rfl
       · rfl)
    | (with_reducible refine wpList_storeA xa (x := .tmp 6) (y := .tmp 95) (p := q) (D := D) (E := E) (n := n) (c := c) (m := m) (d := d) ?_ ?_ ?_ ?_ ?_
       · with_reducible rfl
       · rfl
       · rfl
       · rfl))
  refine bodyPost_ret (v := gv q (.slice D n c) (.slice E m d)) (results_cell_row (P := Try.prog) Try.results30 _ _ (w.heap.size + 1) 35 _ (0, 0) _ rfl (xa.setRow q _ _) Try.underlying35 rfl box_size) rfl ?_
  exact ⟨rfl, below_setRow m4.below (Nat.le_succ _) _⟩

set_option maxHeartbeats 4000000 in
theorem bounded_no (p : Nm) (D E : Option Addr) (n c m d : Nat) (a b t u : Int) (w : World) (hq : On p) (ht : withinF a (p.h - 1) = t) (hu : withinF b (p.h - 1) = u) (htu : ¬ t < u) :
    Calls Try.prog 57 #[gv p (.slice D n c) (.slice E m d), .int .i64 a, .int .i64 b] w (ValPost (gv p (.slice D n c) (.slice E m d)) w) := by
  have HS := Lib.hid (MS.start w p (.slice D n c) (.slice E m d))
  have HA : Hid (∀ w, Calls Try.prog 99 #[.int .i64 a, .int .i64 (p.h - 1)] w fun e w' => e = .returned (.int .i64 t) ∧ w = w') := fun w => by rw [← ht]; exact awithin_any a _ w
  have HB : Hid (∀ w, Calls Try.prog 99 #[.int .i64 b, .int .i64 (p.h - 1)] w fun e w' => e = .returned (.int .i64 u) ∧ w = w') := fun w => by rw [← hu]; exact awithin_any b _ w
  have s1 : IntKind.i64.wrap (p.h - 1) = p.h - 1 := IntWalk.i64_in _ (by have := hq.h0; have := hq.h1; omega)
  clear hq ht hu
  unfold gv gcs
  go_enter Try.func57, Try.ntmps57
  go_upto_region 1 with fail
  refine wp_world (fun wq => MS w p (.slice D n c) (.slice E m d) wq) HS.out ?_
  clear HS
  intro w2 ms
  have msd := ms.drew
  have u1 := msd.box.cells.c1
  go_cut [1, 2] (fun x y wx => x = .int .i64 t ∧ y = .int .i64 u ∧ wx = w2.drew)
  case first =>
    go_region_held3 (fun w' => w'.cell? ⟨w.heap.size, 1, none⟩ = some (.int .i64 p.h))
      (first | with_reducible exact u1 | fail)
      (first
        | (go_at_call 99
           (with_reducible refine (HA.out _).mono ?_)
           rintro e w' ⟨rfl, rfl⟩)
        | (go_at_call 99
           (with_reducible refine (HB.out _).mono ?_)
           rintro e w' ⟨rfl, rfl⟩))
    all_goals go_wp2_with fail
    all_goals go_meet
    all_goals exact ⟨rfl, rfl, rfl⟩
  case rest =>
    obtain ⟨rfl, rfl, rfl⟩ := hcut
    clear ms u1 HA HB s1
    have htu' : t ≥ u := by omega
    have xg := msd.box
    have xa := msd.ans
    have mb := msd.below
    clear msd
    generalize w2.drew = wd at *
    go_wp2_with (first
    | (with_reducible refine wpList_loadB xg (x := .tmp 3) ?_ ?_ ?_ ?_
       · with_reducible rfl
       · rfl
       · rfl)
    | (with_reducible refine wpList_storeA xa (x := .tmp 6) (y := .tmp 20) (p := p) (D := D) (E := E) (n := n) (c := c) (m := m) (d := d) ?_ ?_ ?_ ?_ ?_
       · with_reducible rfl
       · rfl
       · rfl
       · rfl))
    refine bodyPost_ret (v := gv p (.slice D n c) (.slice E m d)) (results_cell_row (P := Try.prog) Try.results57 _ _ (w.heap.size + 1) 35 _ (0, 0) _ rfl (xa.setRow _ _ _) Try.underlying35 rfl box_size) rfl ?_
    exact ⟨rfl, below_setRow mb (Nat.le_succ _) _⟩

set_option maxHeartbeats 4000000 in
theorem seq_r0 (p : Nm) (D E PD : Option Addr) (n c m d pc : Nat) (xs : List Int) (t u : Int) (w : World) (hr : ReadI w (.slice PD xs.length pc) xs) (hp : On p) (ht : withinF (toldF xs 0 1 - 1) (p.h - 1) = t) (hu : withinF (toldF xs 1 p.h - 1) (p.h - 1) = u) (htu : ¬ t < u) :
    Calls Try.prog 30 #[gv p (.slice D n c) (.slice E m d), .int .i32 114, .slice PD xs.length pc] w (ValPost (gv p (.slice D n c) (.slice E m d)) w) := by
  have HS := Lib.hid (MS.start w p (.slice D n c) (.slice E m d))
  have HT : Hid (∀ wx, Below w.heap.size w wx → Calls Try.prog 56 #[.slice PD xs.length pc, .int .i64 0, .int .i64 1] wx fun e w' => e = .returned (.int .i64 (toldF xs 0 1)) ∧ wx = w') := fun wx hb => told_any PD pc xs 0 1 wx (hr.below hb (Nat.le_refl _))
  have HT1 : Hid (∀ wx, Below w.heap.size w wx → Calls Try.prog 56 #[.slice PD xs.length pc, .int .i64 1, .int .i64 p.h] wx fun e w' => e = .returned (.int .i64 (toldF xs 1 p.h)) ∧ wx = w') := fun wx hb => told_any PD pc xs 1 p.h wx (hr.below hb (Nat.le_refl _))
  obtain ⟨k0, k1⟩ := told_le (xs := xs) (i := 0) (o := 1) (by omega) (by omega)
  obtain ⟨j0, j1⟩ := told_le (xs := xs) (i := 1) (o := p.h) hp.h0 (by have := hp.h1; omega)
  generalize toldF xs 0 1 = k at *
  generalize toldF xs 1 p.h = j at *
  have HBD := Lib.hid (fun w => bounded_no p D E n c m d (k - 1) (j - 1) t u w hp ht hu htu)
  have s1 : IntKind.i64.wrap (k - 1) = k - 1 := IntWalk.i64_in _ (by omega)
  have s2 : IntKind.i64.wrap (j - 1) = j - 1 := IntWalk.i64_in _ (by omega)
  clear hr hp ht hu htu
  unfold gv gcs
  go_enter Try.func30, Try.ntmps30
  go_upto_region 1 with fail
  refine wp_world (fun wq => MS w p (.slice D n c) (.slice E m d) wq) HS.out ?_
  clear HS
  intro w2 rs
  have HR0 := Lib.hid rs
  clear rs
  go_upto_region 19 with (
    go_at_call 56
    refine (HT.out _ HR0.out.below).mono ?_
    rintro e w' ⟨rfl, rfl⟩)
  have HR := Lib.hid HR0.out.drew
  clear HR0 HT
  refine wp_region_held_drew (S := fun w' => Box w' w.heap.size p (.slice D n c) (.slice E m d) ∧ w'.cell? ⟨w.heap.size, 1, none⟩ = some (.int .i64 p.h)) (by kernel_rfl) (by exact ⟨HR.out.box, HR.out.box.cells.c1⟩) (fun hH0 => ?_)
  refine wpAnyH_take (i := 0) (oi := _) (v := gv p (.slice D n c) (.slice E m d)) rfl (by kernel_rfl) (by kernel_rfl) (by kernel_rfl) (fun _ _ _ h => h) (yields_loadB (by rfl) rfl (by rfl) (fun _ h => h.1)) hH0 ?_
  change wpAnyH _ _ _ _ _ _ _ (Act.put _ (some 79) (gv p (.slice D n c) (.slice E m d))) _
  simp only [Act.put, List.setIfInBounds_toArray, List.set_cons_zero, List.set_cons_succ]
  refine wpAnyH_take (i := 1) (oi := _) (v := .int .i64 k) rfl (by kernel_rfl) (by kernel_rfl) (by kernel_rfl) (fun _ _ _ h => h) (Or.inl ⟨by rfl, ?_⟩) hH0 ?_
  · intro wv hSw
    try dsimp only at hSw
    go_simp
  change wpAnyH _ _ _ _ _ _ _ (Act.put _ (some 80) (.int .i64 k)) _
  simp only [Act.put, List.setIfInBounds_toArray, List.set_cons_zero, List.set_cons_succ]
  refine wpAnyH_take (i := 2) (oi := _) (v := .int .i64 (k - 1)) rfl (by kernel_rfl) (by kernel_rfl) (by kernel_rfl) (fun _ _ _ h => h) (Or.inl ⟨by rfl, ?_⟩) hH0 ?_
  · intro wv hSw
    try dsimp only at hSw
    go_simp
  change wpAnyH _ _ _ _ _ _ _ (Act.put _ (some 81) (.int .i64 (k - 1))) _
  simp only [Act.put, List.setIfInBounds_toArray, List.set_cons_zero, List.set_cons_succ]
  refine wpAnyH_take (i := 3) (oi := _) (v := .slice PD xs.length pc) rfl (by kernel_rfl) (by kernel_rfl) (by kernel_rfl) (fun _ _ _ h => h) (Or.inl ⟨by rfl, ?_⟩) hH0 ?_
  · intro wv hSw
    try dsimp only at hSw
    go_simp
  change wpAnyH _ _ _ _ _ _ _ (Act.put _ (some 82) (.slice PD xs.length pc)) _
  simp only [Act.put, List.setIfInBounds_toArray, List.set_cons_zero, List.set_cons_succ]
  refine wpAnyH_take (i := 4) (oi := _) (v := .pointer (some ⟨w.heap.size, 1, none⟩)) rfl (by kernel_rfl) (by kernel_rfl) (by kernel_rfl) (fun _ _ _ h => h) (Or.inl ⟨by rfl, ?_⟩) hH0 ?_
  · intro wv hSw
    try dsimp only at hSw
    go_simp
  change wpAnyH _ _ _ _ _ _ _ (Act.put _ (some 83) (.pointer (some ⟨w.heap.size, 1, none⟩))) _
  simp only [Act.put, List.setIfInBounds_toArray, List.set_cons_zero, List.set_cons_succ]
  refine wpAnyH_take (i := 5) (oi := _) (v := .int .i64 p.h) rfl (by kernel_rfl) (by kernel_rfl) (by kernel_rfl) (fun _ _ _ h => h) (Or.inl ⟨by rfl, ?_⟩) hH0 ?_
  · intro wv hSw
    try dsimp only at hSw
    go_simp
  change wpAnyH _ _ _ _ _ _ _ (Act.put _ (some 84) (.int .i64 p.h)) _
  simp only [Act.put, List.setIfInBounds_toArray, List.set_cons_zero, List.set_cons_succ]
  refine wpAnyH_ready (rs := [6]) (by kernel_rfl) (by simp) ?_
  refine AllReadyH.cons (o := _) rfl (fun K hK => ?_) AllReadyH.nil
  go_simp
  refine (HT1.out _ HR.out.below).mono ?_
  rintro e w' ⟨rfl, rfl⟩
  go_wp2_with fail
  refine hK.out _ _ (by exact ⟨HR.out.box, HR.out.box.cells.c1⟩) (fun hH1 => ?_)
  clear hK K
  try simp only [Act.put, List.setIfInBounds_toArray, List.set_cons_zero, List.set_cons_succ]
  refine wpAnyH_take (i := 7) (oi := _) (v := .int .i64 (j - 1)) rfl (by kernel_rfl) (by kernel_rfl) (by kernel_rfl) (fun _ _ _ h => h) (Or.inl ⟨by rfl, ?_⟩) hH1 ?_
  · intro wv hSw
    try dsimp only at hSw
    go_simp
  change wpAnyH _ _ _ _ _ _ _ (Act.put _ (some 86) (.int .i64 (j - 1))) _
  simp only [Act.put, List.setIfInBounds_toArray, List.set_cons_zero, List.set_cons_succ]
  refine wpAnyH_ready (rs := [8]) (by kernel_rfl) (by simp) ?_
  refine AllReadyH.cons (o := _) rfl (fun K hK => ?_) AllReadyH.nil
  go_simp
  refine (HBD.out w2.drew).mono ?_
  rintro e w5 ⟨rfl, b5⟩
  have x5 := HR.out.box.below b5 HR.out.box.lt
  have a5 := HR.out.ans.below b5 HR.out.ans.lt
  go_wp2_with fail
  refine hK.out _ _ (by exact ⟨x5, x5.cells.c1⟩) (fun hH2 => ?_)
  clear hK K
  try simp only [Act.put, List.setIfInBounds_toArray, List.set_cons_zero, List.set_cons_succ]
  refine wpAnyH_ready (rs := [9]) (by kernel_rfl) (by simp) ?_
  refine AllReadyH.cons (o := _) rfl (fun K hK => ?_) AllReadyH.nil
  rw [if_pos (by rfl)]
  refine wp_storeA a5 (x := .tmp 6) (y := .tmp 87) (p := p) (D := D) (E := E) (n := n) (c := c) (m := m) (d := d) rfl rfl rfl ?_
  have x6 : Box (w5.setRow (w.heap.size + 1) (gcs p (.slice D n c) (.slice E m d))) w.heap.size p (.slice D n c) (.slice E m d) := (setRow_other _ _ _ _ (by omega)).trans x5
  refine hK.out _ _ (by exact ⟨x6, x6.cells.c1⟩) (fun hH3 => ?_)
  clear hK K
  dsimp only [Act.put]
  refine wpAnyH_done (by kernel_rfl) ?_ _
  clear hH0 hH1 hH2 hH3
  go_wp2_with fail
  refine bodyPost_ret (v := gv p (.slice D n c) (.slice E m d)) (results_cell_row (P := Try.prog) Try.results30 _ _ (w.heap.size + 1) 35 _ (0, 0) _ rfl (a5.setRow _ _ _) Try.underlying35 rfl box_size) rfl ?_
  exact ⟨rfl, below_setRow (HR.out.below.trans (b5.mono HR.out.below.size)) (Nat.le_succ _) _⟩

/-- What one number switches. -/
def swF (r : Int) (p : Nm) (x : Int) : Nm := if x = 25 then { p with hidden := decide (r = 108) } else if x = 7 then { p with noWrap := decide (r = 108) } else p
def swNm (r : Int) (p : Nm) (xs : List Int) : Nm := if r = 104 ∨ r = 108 then xs.foldl (swF r) p else p
def SwRel (w : World) (r : Int) (p : Nm) (rv bv : Value) (xs : List Int) (i : Value) (wr : World) : Prop := ∃ k : Nat, i = .int .i64 (k : Int) ∧ k ≤ xs.length ∧ MS w ((xs.take k).foldl (swF r) p) rv bv wr
theorem sw_next (r : Int) (p : Nm) (xs : List Int) (k : Nat) (z : Int) (hz : xs[k]? = some z) : (xs.take (k + 1)).foldl (swF r) p = swF r ((xs.take k).foldl (swF r) p) z := by
  obtain ⟨hk, e⟩ := List.getElem?_eq_some_iff.1 hz
  rw [List.take_succ_eq_append_getElem hk, List.foldl_append, e]
  rfl

set_option maxHeartbeats 4000000 in
theorem switched_any (p : Nm) (D E PD : Option Addr) (n c m d pc : Nat) (xs : List Int) (r : Int) (w : World) (hr : ReadI w (.slice PD xs.length pc) xs) (hlx : xs.length ≤ 1000000) :
    Calls Try.prog 31 #[gv p (.slice D n c) (.slice E m d), .int .i32 r, .slice PD xs.length pc] w (ValPost (gv (swNm r p xs) (.slice D n c) (.slice E m d)) w) := by
  have HS := Lib.hid (MS.start w p (.slice D n c) (.slice E m d))
  by_cases h1 : r = 104 ∨ r = 108
  · have e : swNm r p xs = xs.foldl (swF r) p := by unfold swNm; rw [if_pos h1]
    obtain ⟨q, hq⟩ : ∃ q, q = swNm r p xs := ⟨_, rfl⟩
    rw [← hq]
    have HQ := Lib.hid (hq.trans e)
    have HX := Lib.hid hr
    clear e hq hr
    unfold gv gcs
    go_enter Try.func31, Try.ntmps31
    go_upto_region 1 with fail
    refine wp_world (fun wq => MS w p (.slice D n c) (.slice E m d) wq) HS.out ?_
    clear HS
    intro w2 ms
    go_cut [14] (fun v wx => v = .bool false ∧ w2 = wx)
    case first =>
      rcases h1 with rfl | rfl
      all_goals
        go_wp2_with fail
        go_meet
        exact ⟨rfl, rfl⟩
    case rest =>
    obtain ⟨rfl, rfl⟩ := hcut
    go_wp2_with fail
    go_loopw [18] (SwRel w r p (.slice D n c) (.slice E m d) xs) (fun i _ => xs.length - (intOf i).toNat)
    case atStart => exact ⟨0, rfl, Nat.zero_le _, ms⟩
    case round =>
      clear ms
      obtain ⟨k, rfl, hk, ms⟩ := hrel
      by_cases hlt : k < xs.length
      · have hki : (k : Int) < (xs.length : Int) := by omega
        obtain ⟨PD', pc', ee, hx⟩ := HX.out.below ms.below (Nat.le_refl _)
        cases ee
        obtain ⟨xb, xo, z, rfl, hxb, hz, hxc⟩ := hx k hlt
        have HN := Lib.hid (sw_next r p xs k z hz)
        clear hz hx
        have v11 := ms.box.cells.c11
        have v12 := ms.box.cells.c12
        have vf := ms.box.cells.free
        have hz1 := ms.box.lt
        by_cases h25 : z = 25
        · subst h25
          have m2 := ms.far (ms.box.set_hidden (decide (r = 108)))
          have e2 : swF r ((xs.take k).foldl (swF r) p) 25 = { (xs.take k).foldl (swF r) p with hidden := decide (r = 108) } := rfl
          rw [← e2, ← HN.out] at m2
          have HM2 := Lib.hid m2
          clear m2 e2 ms HN
          generalize (xs.take k).foldl (swF r) p = p1 at *
          generalize hd : decide (r = 108) = dd at *
          have hd2 : (r == 108) = dd := by rw [← hd]; rfl
          clear hd
          go_wp2_with fail
          go_roundw
          case rel => exact ⟨k + 1, by go_num, by omega, HM2.out⟩
          case measure => simp [intOf]; omega
        · by_cases h7 : z = 7
          · subst h7
            have m2 := ms.far (ms.box.set_noWrap (decide (r = 108)))
            have e2 : swF r ((xs.take k).foldl (swF r) p) 7 = { (xs.take k).foldl (swF r) p with noWrap := decide (r = 108) } := rfl
            rw [← e2, ← HN.out] at m2
            have HM2 := Lib.hid m2
            clear m2 e2 ms HN h25
            generalize (xs.take k).foldl (swF r) p = p1 at *
            generalize hd : decide (r = 108) = dd at *
            have hd2 : (r == 108) = dd := by rw [← hd]; rfl
            clear hd
            go_wp2_with fail
            go_roundw
            case rel => exact ⟨k + 1, by go_num, by omega, HM2.out⟩
            case measure => simp [intOf]; omega
          · have e2 : swF r ((xs.take k).foldl (swF r) p) z = (xs.take k).foldl (swF r) p := by unfold swF; rw [if_neg h25, if_neg h7]
            have m2 := ms
            rw [← e2, ← HN.out] at m2
            have HM2 := Lib.hid m2
            clear m2 e2 ms HN
            generalize (xs.take k).foldl (swF r) p = p1 at *
            go_wp2_with fail
            go_roundw
            case rel => exact ⟨k + 1, by go_num, by omega, HM2.out⟩
            case measure => simp [intOf]; omega
      · have hki : ¬ (k : Int) < (xs.length : Int) := by omega
        obtain rfl : k = xs.length := by omega
        rw [List.take_length, ← HQ.out] at ms
        have xg := ms.box
        have xa := ms.ans
        go_wp2_with (first
    | (with_reducible refine wpList_loadB xg (x := .tmp 3) ?_ ?_ ?_ ?_
       · with_reducible rfl
       · rfl
       · rfl)
    | (with_reducible refine wpList_storeA xa (x := .tmp 6) (y := .tmp 34) (p := q) (D := D) (E := E) (n := n) (c := c) (m := m) (d := d) ?_ ?_ ?_ ?_ ?_
       · with_reducible rfl
       · rfl
       · rfl
       · rfl))
        refine bodyPost_ret (v := gv q (.slice D n c) (.slice E m d)) (results_cell_row (P := Try.prog) Try.results31 _ _ (w.heap.size + 1) 35 _ (0, 0) _ rfl (xa.setRow q _ _) Try.underlying35 rfl box_size) rfl ?_
        exact ⟨rfl, below_setRow ms.below (Nat.le_succ _) _⟩
  · have e : swNm r p xs = p := by unfold swNm; rw [if_neg h1]
    rw [e]
    have n1 : (r != 104) = true := bne_iff_ne.2 fun h => h1 (.inl h)
    have n2 : (r != 108) = true := bne_iff_ne.2 fun h => h1 (.inr h)
    clear e h1 hr
    unfold gv gcs
    go_enter Try.func31, Try.ntmps31
    go_upto_region 1 with fail
    refine wp_world (fun wq => MS w p (.slice D n c) (.slice E m d) wq) HS.out ?_
    clear HS
    intro w2 ms
    have xg := ms.box
    have xa := ms.ans
    go_wp2_with (first
    | (with_reducible refine wpList_loadB xg (x := .tmp 3) ?_ ?_ ?_ ?_
       · with_reducible rfl
       · rfl
       · rfl)
    | (with_reducible refine wpList_storeA xa (x := .tmp 6) (y := .tmp 15) (p := p) (D := D) (E := E) (n := n) (c := c) (m := m) (d := d) ?_ ?_ ?_ ?_ ?_
       · with_reducible rfl
       · rfl
       · rfl
       · rfl))
    refine bodyPost_ret (v := gv p (.slice D n c) (.slice E m d)) (results_cell_row (P := Try.prog) Try.results31 _ _ (w.heap.size + 1) 35 _ (0, 0) _ rfl (xa.setRow p _ _) Try.underlying35 rfl box_size) rfl ?_
    exact ⟨rfl, below_setRow ms.below (Nat.le_succ _) _⟩
end Go.Proofs.Ytpcpmeihebgncaa
