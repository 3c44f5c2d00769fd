/-
  The walk of PaneSizes: a pane that is made smaller and larger again shows what was within the smaller size. No condition.
-/
import Derived.Test.YtpcpmeihebgncaaB8
import Derived.Test.YtpcpmeihebgncaaLines8
namespace Go.Proofs.Ytpcpmeihebgncaa
open Go.RowKit
set_option maxRecDepth 100000
set_option linter.unusedSimpArgs false

theorem smask15 (z : Int) : ∃ a : Nat, a ≤ 15 ∧ bits .and .i64 z 15 = a := ⟨(z % 16).toNat, by omega, by rw [i64_and15]; omega⟩
/-- The three panes. -/
structure S3 (w : World) (g1 g2 g3 : Nat) (q : PM) (p2 p3 : Nm) (L2 L3 : List (List C)) (F D E : Option Addr) (f qq n c m d : Nat) (F2 D2 E2 : Option Addr) (f2 qq2 n2 c2 m2 d2 : Nat) (F3 D3 E3 : Option Addr) (f3 qq3 n3 c3 m3 d3 : Nat) (wr : World) : Prop where
  one : PSt w g1 q F D E f qq n c m d wr
  two : PSt w g2 ⟨q.e, ⟨p2, L2, q.s.B⟩⟩ F2 D2 E2 f2 qq2 n2 c2 m2 d2 wr
  three : PSt w g3 ⟨q.e, ⟨p3, L3, q.s.B⟩⟩ F3 D3 E3 f3 qq3 n3 c3 m3 d3 wr
theorem S3.next {w : World} {g1 g2 g3 : Nat} {q : PM} {p2 p3 : Nm} {L2 L3 : List (List C)} {F D E : Option Addr} {f qq n c m d : Nat} {F2 D2 E2 : Option Addr} {f2 qq2 n2 c2 m2 d2 : Nat} {F3 D3 E3 : Option Addr} {f3 qq3 n3 c3 m3 d3 : Nat} {wr wy : World}
    (h : S3 w g1 g2 g3 q p2 p3 L2 L3 F D E f qq n c m d F2 D2 E2 f2 qq2 n2 c2 m2 d2 F3 D3 E3 f3 qq3 n3 c3 m3 d3 wr) (hb : Below wr.heap.size wr wy) : S3 w g1 g2 g3 q p2 p3 L2 L3 F D E f qq n c m d F2 D2 E2 f2 qq2 n2 c2 m2 d2 F3 D3 E3 f3 qq3 n3 c3 m3 d3 wy := ⟨h.one.next hb, h.two.next hb, h.three.next hb⟩
theorem newPane_st {w w1 : World} {q : PM} {F D E : Option Addr} {f qq n c m d : Nat} {B : Nat} (hp : Esca.Ints w1 B (.slice F f qq) q.e.par) (hs : Scr B w1 D E n c m d q.s.L q.s.B) (hb : Below w.heap.size w w1) : PSt w w1.heap.size q F D E f qq n c m d (w1.alloc (.cells (pcs q.e (.slice F f qq) q.s.p (.slice D n c) (.slice E m d)) 37)) :=
  ⟨PBox.new _ _ _ _ _ _, (hp.base (Nat.zero_le _)).alloc _, (hs.weak (Nat.zero_le _)).below ((Below.refl _ _).alloc (Nat.le_refl _) _) (Nat.le_refl _), hb.alloc hb.size _, hb.size⟩

set_option maxHeartbeats 8000000 in
theorem sizes_walk (D0 : Option Addr) (c0 : Nat) (xs : List Int) (x0 y0 : Int) (w : World) (hr : ReadI w (.slice D0 xs.length c0) xs) : Calls Try.prog 7 #[.slice D0 xs.length c0, .int .i64 x0, .int .i64 y0] w (TrueBelow w) := by
  obtain ⟨W0, hW, eW⟩ := smask15 x0
  obtain ⟨H0, hH, eH⟩ := lmask7 y0
  have HN : Hid (∀ wx, Calls Try.prog 21 #[.int .i64 12, .int .i64 6] wx (PanePost wx (newP 12 6).e (newP 12 6).s.p (newP 12 6).s.L (newP 12 6).s.B)) := fun wx => newP_any 12 6 wx (by omega) (by omega) (by omega) (by omega)
  have HB : Hid (∀ wx, Below w.heap.size w wx → Calls Try.prog 13 #[.slice D0 xs.length c0] wx (Esca.BytesPost wx (Esca.bytesFn xs))) := fun wx hb => Esca.bytes_any _ xs wx (hr.below hb (Nat.le_refl _))
  have ok0 := newP_ok 12 6 (by omega) (by omega) (by omega) (by omega)
  have HL := Lib.hid (Esca.bytesFn_len xs)
  have HF := Lib.hid (feed_call (newP 12 6) (Esca.bytesFn xs) ok0 (by have := Esca.bytesFn_len xs; omega))
  have HZ := Lib.hid (Esca.bytesFn_ok xs)
  have HK := Lib.hid (ok0.feedP (Esca.bytesFn xs))
  generalize feedP (newP 12 6) (Esca.bytesFn xs) = q at *
  generalize Esca.bytesFn xs = bs at *
  generalize newP 12 6 = q0 at *
  clear ok0 hr
  have s1 : IntKind.i64.wrap ((W0 : Int) + 1) = (W0 : Int) + 1 := IntWalk.i64_in _ (by omega)
  have s2 : IntKind.i64.wrap ((H0 : Int) + 1) = (H0 : Int) + 1 := IntWalk.i64_in _ (by omega)
  go_enter Try.func7, Try.ntmps7
  go_upto_region 2 with (first
    | (go_at_call 21
       refine (HN.out _).mono ?_
       rintro e w1 ⟨F, f, qq, D, n, c, E, m, d, rfl, i1, sc1, b1⟩)
    | (go_at_call 13
       refine (HB.out _ b1).mono ?_
       rintro e w2 ⟨v, rfl, hv, b2⟩
       obtain ⟨V, cv, rfl⟩ := Esca.bytes_form hv)
    | (go_at_call 20
       refine (HF.out w2 F D E V f qq n c m d cv _ (i1.below b2 (Nat.le_refl _)) ((sc1.weak (Nat.zero_le _)).below b2 (Nat.le_refl _)) (hv.read HZ.out)).mono ?_
       rintro e w3 ⟨F3, f3, q3, D3, n3, c3, E3, m3, d3, rfl, i3, sc3, b3⟩
       have b13 : Below w.heap.size w w3 := (b1.trans (b2.mono b1.size)).trans (b3.mono (b1.trans (b2.mono b1.size)).size))
    | (with_reducible refine wpList_storePn (x := .tmp 7) (y := .tmp 16) (e := q.e) (p := q.s.p) (F := F3) (f := f3) (q := q3) (D := D3) (n := n3) (c := c3) (E := E3) (m := m3) (d := d3) ?_ ?_ ?_ ?_ ?_ ?_
       · with_reducible rfl
       · rfl
       · rfl
       · rfl
       · rfl))
  refine wp_world (fun wq => PSt w w3.heap.size q F3 D3 E3 f3 q3 n3 c3 m3 d3 wq) (newPane_st i3 sc3 b13) ?_
  clear i1 sc1 b1 hv b2 i3 sc3 b3 b13 HN HB HF
  intro w4 st1
  generalize w3.heap.size = g1 at *
  have x1 := st1.box
  have hpar : q.e.par.length ≤ 1000 := by have := HK.out.e.par; omega
  have HR1 : Hid (∀ wx, Below w4.heap.size w4 wx → Calls Try.prog 22 #[pv q.e (.slice F3 f3 q3) q.s.p (.slice D3 n3 c3) (.slice E3 m3 d3), .int .i64 ((W0 : Int) + 1), .int .i64 ((H0 : Int) + 1)] wx (PanePost wx q.e (sizedNm q.s.p ((W0 + 1 : Nat) : Int) ((H0 + 1 : Nat) : Int)) (fittedF q.s.L ((W0 + 1 : Nat) : Int) (H0 + 1)) q.s.B)) := fun wx hb => by
    have := presize_any q.e F3 f3 q3 0 q.s.p D3 E3 n3 c3 m3 d3 q.s.L q.s.B ((W0 : Int) + 1) ((H0 : Int) + 1) wx (st1.par.below hb (Nat.le_refl _)) hpar (st1.scr.below hb (Nat.le_refl _)) (by rw [← st1.scr.nb]; exact HK.out.k.ok.bn) HK.out.k.ok.back
    rw [show sideF ((W0 : Int) + 1) = ((W0 + 1 : Nat) : Int) by unfold sideF; omega, show sideF ((H0 : Int) + 1) = ((H0 + 1 : Nat) : Int) by unfold sideF; omega, Int.toNat_natCast] at this
    exact this
  have HPN : Hid (∀ p2 : Nm, p2 = sizedNm q.s.p ((W0 + 1 : Nat) : Int) ((H0 + 1 : Nat) : Int) → p2.x = min q.s.p.x (W0 : Int) ∧ p2.y = min q.s.p.y (H0 : Int)) := fun p2 e => by
    have hx := HK.out.k.ok.x0
    have hy := HK.out.k.ok.y0
    rw [e]
    simp only [sizedNm, withinF]
    omega
  have HL2 := Lib.hid (twice_at q.s.L (W0 + 1) (H0 + 1) 12 6)
  have HW2 := Lib.hid (fitted_w (fittedF q.s.L ((W0 + 1 : Nat) : Int) (H0 + 1)) 12 6)
  have HN2 := Lib.hid (fittedF_len q.s.L ((W0 + 1 : Nat) : Int) (H0 + 1))
  have HN3 := Lib.hid (fittedF_len (fittedF q.s.L ((W0 + 1 : Nat) : Int) (H0 + 1)) ((12 : Nat) : Int) 6)
  have HA3 : Hid (∀ p2, (sizedNm p2 12 6).a = p2.a) := fun p2 => rfl
  have HA2 : Hid ((sizedNm q.s.p ((W0 + 1 : Nat) : Int) ((H0 + 1 : Nat) : Int)).a = q.s.p.a) := rfl
  generalize hp2 : sizedNm q.s.p ((W0 + 1 : Nat) : Int) ((H0 + 1 : Nat) : Int) = p2 at *
  have HP2 := Lib.hid (HPN.out p2 rfl)
  clear hp2 HPN
  generalize fittedF q.s.L ((W0 + 1 : Nat) : Int) (H0 + 1) = L2 at *
  go_upto_region 4 with (first
    | (with_reducible refine wpList_loadP x1 (x := .tmp 7) ?_ ?_ ?_ ?_
       · with_reducible rfl
       · rfl
       · rfl)
    | (go_at_call 22
       refine (HR1.out _ (Below.refl _ _)).mono ?_
       rintro e w5 ⟨F5, f5, q5, D5, n5, c5, E5, m5, d5, rfl, i5, sc5, b5⟩)
    | (with_reducible refine wpList_storePn (x := .tmp 8) (y := .tmp 26) (e := q.e) (p := p2) (F := F5) (f := f5) (q := q5) (D := D5) (n := n5) (c := c5) (E := E5) (m := m5) (d := d5) ?_ ?_ ?_ ?_ ?_ ?_
       · with_reducible rfl
       · rfl
       · rfl
       · rfl
       · rfl))
  refine wp_world (fun wq => PSt w g1 q F3 D3 E3 f3 q3 n3 c3 m3 d3 wq ∧ PSt w w5.heap.size ⟨q.e, ⟨p2, L2, q.s.B⟩⟩ F5 D5 E5 f5 q5 n5 c5 m5 d5 wq) ⟨(st1.next b5).alloc _, newPane_st (q := ⟨q.e, ⟨p2, L2, q.s.B⟩⟩) i5 sc5 (st1.next b5).below⟩ ?_
  clear i5 sc5 b5 HR1 st1 x1
  rintro w6 ⟨st1, st2⟩
  generalize w5.heap.size = g2 at *
  have x2 := st2.box
  have HR2 : Hid (∀ wx, Below w6.heap.size w6 wx → Calls Try.prog 22 #[pv q.e (.slice F5 f5 q5) p2 (.slice D5 n5 c5) (.slice E5 m5 d5), .int .i64 12, .int .i64 6] wx (PanePost wx q.e (sizedNm p2 12 6) (fittedF L2 ((12 : Nat) : Int) 6) q.s.B)) := fun wx hb => by
    have := presize_any q.e F5 f5 q5 0 p2 D5 E5 n5 c5 m5 d5 L2 q.s.B 12 6 wx (st2.par.below hb (Nat.le_refl _)) hpar (st2.scr.below hb (Nat.le_refl _)) (by rw [← st2.scr.nb]; exact HK.out.k.ok.bn) HK.out.k.ok.back
    rw [show sideF 12 = 12 by unfold sideF; omega, show sideF 6 = 6 by unfold sideF; omega] at this
    exact this
  have HA4 := Lib.hid ((HA3.out p2).trans HA2.out)
  generalize sizedNm p2 12 6 = p3 at *
  generalize fittedF L2 ((12 : Nat) : Int) 6 = L3 at *
  go_upto_region 5 with (first
    | (with_reducible refine wpList_loadP x2 (x := .tmp 8) ?_ ?_ ?_ ?_
       · with_reducible rfl
       · rfl
       · rfl)
    | (go_at_call 22
       refine (HR2.out _ (Below.refl _ _)).mono ?_
       rintro e w7 ⟨F7, f7, q7, D7, n7, c7, E7, m7, d7, rfl, i7, sc7, b7⟩)
    | (with_reducible refine wpList_storePn (x := .tmp 9) (y := .tmp 28) (e := q.e) (p := p3) (F := F7) (f := f7) (q := q7) (D := D7) (n := n7) (c := c7) (E := E7) (m := m7) (d := d7) ?_ ?_ ?_ ?_ ?_ ?_
       · with_reducible rfl
       · rfl
       · rfl
       · rfl
       · rfl))
  refine wp_world (fun wq => S3 w g1 g2 w7.heap.size q p2 p3 L2 L3 F3 D3 E3 f3 q3 n3 c3 m3 d3 F5 D5 E5 f5 q5 n5 c5 m5 d5 F7 D7 E7 f7 q7 n7 c7 m7 d7 wq) ⟨(st1.next b7).alloc _, (st2.next b7).alloc _, newPane_st (q := ⟨q.e, ⟨p3, L3, q.s.B⟩⟩) i7 sc7 (st1.next b7).below⟩ ?_
  clear i7 sc7 b7 HR2 st1 st2 x2
  generalize w7.heap.size = g3 at *
  intro w8 st
  obtain rfl : n3 = 6 := by rw [← st.one.scr.nr]; exact HK.out.k.ok.ln
  obtain rfl : n5 = H0 + 1 := by rw [← st.two.scr.nr]; exact HN2.out
  obtain rfl : n7 = 6 := by rw [← st.three.scr.nr]; exact HN3.out
  have HW1 : Hid (∀ y, y < 6 → (rowAt q.s.L y).length = 12) := fun y hy => row_w HK.out.k hy
  obtain ⟨_, _, _, _, _, u21, u22⟩ := st.one.box.at
  obtain ⟨_, _, _, _, _, v21, v22⟩ := st.two.box.at
  obtain ⟨_, _, _, _, _, t21, t22⟩ := st.three.box.at
  have HST := Lib.hid st
  clear st HN2 HN3 HA2 HA3
  go_upto_region 7 with fail
  clear u21 u22 v21 v22 t21 t22
  go_wp2_with fail
  go_loopw [10] (fun i wx => ∃ y : Nat, i = .int .i64 (y : Int) ∧ y ≤ 6 ∧ S3 w g1 g2 g3 q p2 p3 L2 L3 F3 D3 E3 f3 q3 6 c3 m3 d3 F5 D5 E5 f5 q5 (H0 + 1) c5 m5 d5 F7 D7 E7 f7 q7 6 c7 m7 d7 wx) (fun i _ => 6 - (intOf i).toNat)
  case atStart => exact ⟨0, rfl, Nat.zero_le _, HST.out⟩
  case round =>
    clear HST
    obtain ⟨y, rfl, hy, st⟩ := hrel
    by_cases hlt : y < 6
    · have hyi : (y : Int) < 6 := by omega
      have hw1 := HW1.out y hlt
      have hw3 := HW2.out y (by omega) hlt
      go_wp2_with fail
      go_loopw [11] (fun i wx => ∃ x : Nat, i = .int .i64 (x : Int) ∧ x ≤ 12 ∧ S3 w g1 g2 g3 q p2 p3 L2 L3 F3 D3 E3 f3 q3 6 c3 m3 d3 F5 D5 E5 f5 q5 (H0 + 1) c5 m5 d5 F7 D7 E7 f7 q7 6 c7 m7 d7 wx) (fun i _ => 12 - (intOf i).toNat)
      case atStart => exact ⟨0, rfl, Nat.zero_le _, st⟩
      case round =>
        clear st
        obtain ⟨x, rfl, hx, st⟩ := hrel
        by_cases hlx : x < 12
        · have hxi : (x : Int) < 12 := by omega
          have hc := HL2.out y x (by omega) (by omega) hlt hlx
          by_cases h1 : x < W0 + 1 ∧ y < H0 + 1
          · obtain ⟨h1x, h1y⟩ := h1
            have h1xi : (x : Int) < (W0 : Int) + 1 := by omega
            have h1yi : (y : Int) < (H0 : Int) + 1 := by omega
            rw [if_pos ⟨h1x, h1y⟩] at hc
            obtain ⟨tb, tq, rb, ro, cr, eD, t1, hcr, c0', c1'⟩ := cell_at st.one.scr.rows y x (by rw [hw1]; exact hlx)
            rw [hw1] at t1 hcr
            obtain ⟨_, _, _, _, _, u21, _⟩ := st.one.box.at
            rw [eD] at u21
            have l1 := block_lt_of_cell u21
            have l2 := block_lt_of_cell t1
            have l3 := block_lt_of_cell c0'
            dsimp only at l1 l2 l3
            generalize cellAt q.s.L y x = C1 at *
            obtain ⟨r1, a1⟩ := C1
            dsimp only at c0' c1'
            go_upto_region 16 with fail
            refine wp_world (fun wq => S3 w g1 g2 g3 q p2 p3 L2 L3 F3 D3 E3 f3 q3 6 c3 m3 d3 F5 D5 E5 f5 q5 (H0 + 1) c5 m5 d5 F7 D7 E7 f7 q7 6 c7 m7 d7 wq ∧ Held wq wr.heap.size 48 #[.int .i32 r1, .int .i64 a1]) ⟨st.next (by repeat (first | exact (Below.refl _ _).alloc (Nat.le_refl _) _ | refine Below.setCell ?_ (by exact Nat.le_refl _) _)), by first | exact Held.new _ _ _ | exact ((Held.new wr 48 _).set1 0 _).set1 1 _ | exact ((((Held.new wr 48 _).set1 0 _).set1 1 _).set1 0 _).set1 1 _⟩ ?_
            clear eD t1 hcr c0' c1' u21 l1 l2 l3
            clear st
            rintro w9 ⟨st, ha⟩
            have z0 := ha.cell 0
            have z1 := ha.cell 1
            simp only [List.getElem?_toArray, List.getElem?_cons_zero, List.getElem?_cons_succ] at z0 z1
            obtain ⟨tb, tq, rb, ro, cr, eD, t1, hcr, c0', c1'⟩ := cell_at st.three.scr.rows y x (by rw [hw3]; exact hlx)
            rw [hw3] at t1 hcr
            rw [hc] at c0' c1'
            obtain ⟨_, _, _, _, _, t21, _⟩ := st.three.box.at
            rw [eD] at t21
            have HST := Lib.hid st
            clear st ha hc eD
            go_quiet (fail)
            go_wp2_with fail
            go_roundw
            case rel => exact ⟨x + 1, by go_num, by omega, HST.out.next (below_drewN (Below.refl _ _) _)⟩
            case measure => simp [intOf]; omega
          · rw [if_neg h1] at hc
            obtain ⟨r1, er1⟩ : ∃ r1 : C, r1 = C.blank := ⟨_, rfl⟩
            have hb0 : C.blank.r = 32 := rfl
            have hb1 : C.blank.a = 0 := rfl
            clear r1 er1
            by_cases h2 : x < W0 + 1
            · have h1xi : (x : Int) < (W0 : Int) + 1 := by omega
              have h1yi : ¬ (y : Int) < (H0 : Int) + 1 := by omega
              go_upto_region 16 with fail
              refine wp_world (fun wq => S3 w g1 g2 g3 q p2 p3 L2 L3 F3 D3 E3 f3 q3 6 c3 m3 d3 F5 D5 E5 f5 q5 (H0 + 1) c5 m5 d5 F7 D7 E7 f7 q7 6 c7 m7 d7 wq ∧ Held wq wr.heap.size 48 #[.int .i32 32, .int .i64 0]) ⟨st.next (by repeat (first | exact (Below.refl _ _).alloc (Nat.le_refl _) _ | refine Below.setCell ?_ (by exact Nat.le_refl _) _)), by first | exact Held.new _ _ _ | exact ((Held.new wr 48 _).set1 0 _).set1 1 _ | exact ((((Held.new wr 48 _).set1 0 _).set1 1 _).set1 0 _).set1 1 _⟩ ?_
              clear st
              rintro w9 ⟨st, ha⟩
              have z0 := ha.cell 0
              have z1 := ha.cell 1
              simp only [List.getElem?_toArray, List.getElem?_cons_zero, List.getElem?_cons_succ] at z0 z1
              obtain ⟨tb, tq, rb, ro, cr, eD, t1, hcr, c0', c1'⟩ := cell_at st.three.scr.rows y x (by rw [hw3]; exact hlx)
              rw [hw3] at t1 hcr
              rw [hc, hb0] at c0'
              rw [hc, hb1] at c1'
              obtain ⟨_, _, _, _, _, t21, _⟩ := st.three.box.at
              rw [eD] at t21
              have HST := Lib.hid st
              clear st ha hc eD
              go_quiet (fail)
              go_wp2_with fail
              go_roundw
              case rel => exact ⟨x + 1, by go_num, by omega, HST.out.next (below_drewN (Below.refl _ _) _)⟩
              case measure => simp [intOf]; omega
            · have h1xi : ¬ (x : Int) < (W0 : Int) + 1 := by omega
              go_upto_region 16 with fail
              refine wp_world (fun wq => S3 w g1 g2 g3 q p2 p3 L2 L3 F3 D3 E3 f3 q3 6 c3 m3 d3 F5 D5 E5 f5 q5 (H0 + 1) c5 m5 d5 F7 D7 E7 f7 q7 6 c7 m7 d7 wq ∧ Held wq wr.heap.size 48 #[.int .i32 32, .int .i64 0]) ⟨st.next (by repeat (first | exact (Below.refl _ _).alloc (Nat.le_refl _) _ | refine Below.setCell ?_ (by exact Nat.le_refl _) _)), by first | exact Held.new _ _ _ | exact ((Held.new wr 48 _).set1 0 _).set1 1 _ | exact ((((Held.new wr 48 _).set1 0 _).set1 1 _).set1 0 _).set1 1 _⟩ ?_
              clear st
              rintro w9 ⟨st, ha⟩
              have z0 := ha.cell 0
              have z1 := ha.cell 1
              simp only [List.getElem?_toArray, List.getElem?_cons_zero, List.getElem?_cons_succ] at z0 z1
              obtain ⟨tb, tq, rb, ro, cr, eD, t1, hcr, c0', c1'⟩ := cell_at st.three.scr.rows y x (by rw [hw3]; exact hlx)
              rw [hw3] at t1 hcr
              rw [hc, hb0] at c0'
              rw [hc, hb1] at c1'
              obtain ⟨_, _, _, _, _, t21, _⟩ := st.three.box.at
              rw [eD] at t21
              have HST := Lib.hid st
              clear st ha hc eD
              go_quiet (fail)
              go_wp2_with fail
              go_roundw
              case rel => exact ⟨x + 1, by go_num, by omega, HST.out.next (below_drewN (Below.refl _ _) _)⟩
              case measure => simp [intOf]; omega
        · have hxi : ¬ (x : Int) < 12 := by omega
          go_wp2_with fail
          go_roundw
          case rel => exact ⟨y + 1, by go_num, by omega, st⟩
          case measure => simp [intOf]; omega
    · have hyi : ¬ (y : Int) < 6 := by omega
      obtain ⟨_, _, u10, u11, u13, _, u22⟩ := st.one.box.at
      obtain ⟨_, _, v10, v11, _, _, _⟩ := st.two.box.at
      obtain ⟨_, _, _, _, t13, _, t22⟩ := st.three.box.at
      have u0 := st.one.box.at.1
      have t0 := st.three.box.at.1
      dsimp only at v10 v11 t13 t0
      rw [HP2.out.1] at v10
      rw [HP2.out.2] at v11
      rw [HA4.out] at t13
      have hx0 := HK.out.k.ok.x0
      have hy0 := HK.out.k.ok.y0
      have k2 : IntKind.i64.wrap ((W0 : Int) + 1 - 1) = (W0 : Int) := by rw [IntWalk.i64_in _ (by omega)]; omega
      have k3 : IntKind.i64.wrap ((H0 : Int) + 1 - 1) = (H0 : Int) := by rw [IntWalk.i64_in _ (by omega)]; omega
      have hm1 := st.one.scr.nb
      have hm3 := st.three.scr.nb
      dsimp only at hm3
      obtain rfl : m7 = m3 := hm3.symm.trans hm1
      have HSR : Hid (∀ wx, Below wr.heap.size wr wx → Calls Try.prog 23 #[.slice E7 m7 d7, .slice E3 m7 d3] wx (Quiet true wx)) := fun wx hb => by
        have := sameRows_any E7 E3 d7 d3 q.s.B wx (st.three.scr.back.below hb (Nat.le_refl _)) (st.one.scr.back.below hb (Nat.le_refl _)) (by have := HK.out.k.ok.bn; omega) HK.out.k.ok.back
        rw [hm1] at this
        exact this
      generalize q.s.p.x = px at *
      generalize q.s.p.y = py at *
      obtain ⟨mx, emx⟩ : ∃ mx : Int, mx = min px (W0 : Int) := ⟨_, rfl⟩
      obtain ⟨my, emy⟩ : ∃ my : Int, my = min py (H0 : Int) := ⟨_, rfl⟩
      have k4 : (if (W0 : Int) < px then (W0 : Int) else px) = mx := by rw [emx]; split <;> omega
      have k5 : (if (H0 : Int) < py then (H0 : Int) else py) = my := by rw [emy]; split <;> omega
      rw [← emx] at v10
      rw [← emy] at v11
      clear emx emy
      have hb := st.one.below
      have hg1 := st.one.box.lt
      have hg3 := st.three.box.lt
      clear st HP2 HA4 HK hx0 hy0
      go_wp2_with (first
        | (go_at_call 23
           refine (HSR.out _ (Below.refl _ _)).mono ?_
           rintro e w10 ⟨rfl, hw10⟩
           have b10 := quiet_below hw10
           have r13 := (b10.cell (p := ⟨g3, 13, none⟩) (by exact hg3)).trans t13
           have s13 := (b10.cell (p := ⟨g1, 13, none⟩) (by exact hg1)).trans u13
           have r0 := (b10.cell (p := ⟨g3, 0, none⟩) (by exact hg3)).trans t0
           have s0 := (b10.cell (p := ⟨g1, 0, none⟩) (by exact hg1)).trans u0
           clear hw10)
        | (go_at_call 24
           refine (pawake_any _).mono ?_
           rintro e w11 ⟨rfl, b11⟩))
      go_ret
      exact ⟨rfl, (hb.trans (b10.mono hb.size)).trans (b11.mono (hb.trans (b10.mono hb.size)).size)⟩
end Go.Proofs.Ytpcpmeihebgncaa
