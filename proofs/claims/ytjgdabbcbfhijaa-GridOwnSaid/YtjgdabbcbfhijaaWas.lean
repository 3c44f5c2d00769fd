/-
  What the document's Resize answers of a screen to its own size: the same rows, in memory of its own. Conditions: a screen of one to a thousand rows, each as long as the screen is wide, one to a thousand cells.
-/
import Derived.Test.YtjgdabbcbfhijaaNew
import Derived.Deep.RegionHeld3
import Derived.BigRegion
namespace Go.Proofs.Ytjgdabbcbfhijaa
open Go.RowKit

/-- A screen with the rows L, in memory of the call's own. -/
def WasPost (w : World) (n : Nat) (L : List (List C)) (e : Ending) (w' : World) : Prop := ∃ p' D c E m d, e = .returned (gv p' (.slice D n c) (.slice E m d)) ∧ Lines w.heap.size w' D L ∧ Below w.heap.size w w'

theorem fit_self (l : List C) (x : Int) (h : (l.length : Int) = x) (h1 : l.length ≤ 1000) : fitF l x = l := by
  have e : (withinF x 1000).toNat = l.length := by unfold withinF; omega
  unfold fitF blankF
  rw [e]
  simp [splice, blanksF]
theorem held_self (x : Int) (h0 : 1 ≤ x) (h1 : x ≤ 1000) : heldF x 1 1000 = x := by unfold heldF; omega

/-- The rows so far: those of L, behind them blank ones. -/
def wasL (L : List (List C)) (x : Int) (k : Nat) : List (List C) := L.take k ++ blankL x (L.length - k)
theorem wasL_len (L : List (List C)) (x : Int) (k : Nat) (h : k ≤ L.length) : (wasL L x k).length = L.length := by simp [wasL, blankL]; omega
theorem wasL_next (L : List (List C)) (x : Int) (k : Nat) (h : k < L.length) : (wasL L x k).set k L[k] = wasL L x (k + 1) := by
  unfold wasL
  obtain ⟨m, hm⟩ : ∃ m, L.length - k = m + 1 := ⟨L.length - k - 1, by omega⟩
  have hm2 : L.length - (k + 1) = m := by omega
  rw [hm, hm2, List.set_append_right _ _ (by rw [List.length_take]; omega), List.length_take, show min k L.length = k by omega, Nat.sub_self, List.take_succ_eq_append_getElem h]
  simp only [blankL, List.replicate_succ, List.set_cons_zero, List.append_assoc, List.singleton_append]

/-- A table's line is another one now. -/
theorem Lines.set {B : Nat} {w : World} {b o c : Nat} {L : List (List C)} (h : Lines B w (some ⟨b, o, none⟩) L) (k : Nat) (hk : k < L.length) {D : Option Addr} {l : List C} (hc : l.length ≤ c) (hr : RowAt B w D l) :
    Lines B (w.setCell ⟨b, o + k, none⟩ (.slice D l.length c)) (some ⟨b, o, none⟩) (L.set k l) := by
  obtain ⟨vs, h1, h2⟩ := h
  have hv : k < vs.length := by rw [h2.1]; exact hk
  obtain ⟨b', o', e, hB, hlt, hf, hcell⟩ := h1 k hv
  simp only [Option.some.injEq, Addr.mk.injEq, and_true] at e
  obtain ⟨rfl, rfl⟩ := e
  obtain ⟨D0, c0, e0, _, _⟩ := h2.2 k hv hk
  rw [e0] at hcell
  have hne : ∀ kk n, Value.slice D0 L[k].length c0 ≠ .int kk n := by intro _ _ e; cases e
  refine ⟨vs.set k (.slice D l.length c), fun j hj => ?_, by simp [h2.1], fun j hj hj' => ?_⟩
  · rw [List.length_set] at hj
    obtain ⟨b2, o2, e2, q1, q2, q3, q4⟩ := h1 j hj
    simp only [Option.some.injEq, Addr.mk.injEq, and_true] at e2
    obtain ⟨rfl, rfl⟩ := e2
    refine ⟨b, o, rfl, q1, by simpa using q2, q3.set _ _, ?_⟩
    rw [List.getElem_set]
    by_cases e : k = j
    · subst e
      rw [if_pos rfl]
      exact World.cell?_setCell_same _ _ _ hcell
    · rw [if_neg e, World.cell?_setCell_other _ _ _ _ (by intro hh; have := congrArg Addr.off hh; simp at this; omega)]
      exact q4
  · rw [List.getElem_set, List.getElem_set]
    by_cases e : k = j
    · rw [if_pos e, if_pos e]
      exact RowV.set ⟨D, c, rfl, hc, hr⟩ _ _ _ hcell hne
    · rw [if_neg e, if_neg e]
      exact (h2.2 j _ _).set _ _ _ hcell hne

/-- On the way: the screen that came in, the answer's place, the new screen and its rows. -/
structure WasSt (w : World) (p : Nm) (r b : Value) (g2 : Nat) (q : Nm) (rv bv : Value) (tb tq : Nat) (M : List (List C)) (wx : World) : Prop where
  box : Box wx w.heap.size p r b
  ans : Box wx (w.heap.size + 1) zeroNm nilV nilV
  new : Box wx g2 q rv bv
  rows : Lines (w.heap.size + 1 + 1) wx (some ⟨tb, tq, none⟩) M
  below : Below w.heap.size w wx
theorem WasSt.drew {w : World} {p : Nm} {r b : Value} {g2 : Nat} {q : Nm} {rv bv : Value} {tb tq : Nat} {M : List (List C)} {wx : World} (h : WasSt w p r b g2 q rv bv tb tq M wx) : WasSt w p r b g2 q rv bv tb tq M wx.drew := ⟨h.box, h.ans, h.new, h.rows.below (below_drewN (Below.refl _ _) 1) (Nat.le_refl _), below_drewN h.below 1⟩
theorem WasSt.far {w : World} {p p' : Nm} {r r' b b' : Value} {g2 : Nat} {q : Nm} {rv bv : Value} {tb tq : Nat} {M : List (List C)} {wx : World} (h : WasSt w p r b g2 q rv bv tb tq M wx) (hg : w.heap.size + 1 < g2) {o : Nat} {v : Value} (hq : Box (wx.setCell ⟨w.heap.size, o, none⟩ v) w.heap.size p' r' b') : WasSt w p' r' b' g2 q rv bv tb tq M (wx.setCell ⟨w.heap.size, o, none⟩ v) :=
  ⟨hq, h.ans.far (q := ⟨w.heap.size, o, none⟩) (by exact (by omega : w.heap.size + 1 ≠ w.heap.size)) _, h.new.far (q := ⟨w.heap.size, o, none⟩) (by exact (by omega : g2 ≠ w.heap.size)) _, h.rows.far (p := ⟨w.heap.size, o, none⟩) (by exact (by omega : w.heap.size < w.heap.size + 1 + 1)) _,
    h.below.setCell (p := ⟨w.heap.size, o, none⟩) (by exact Nat.le_refl _) _⟩
def WasRel (w : World) (p : Nm) (r b : Value) (g2 : Nat) (q : Nm) (rv bv : Value) (tb tq : Nat) (L : List (List C)) (x : Int) (i : Value) (wr : World) : Prop := ∃ k : Nat, i = .int .i64 (k : Int) ∧ k ≤ L.length ∧ WasSt w p r b g2 q rv bv tb tq (wasL L x k) wr

set_option maxRecDepth 100000 in
set_option maxHeartbeats 4000000 in
theorem rresize_any (p : Nm) (D E : Option Addr) (n c m d : Nat) (L Bk : List (List C)) (x : Nat) (w : World) (hs : Scr 0 w D E n c m d L Bk) (h0 : 1 ≤ n) (hn : n ≤ 1000) (x0 : 1 ≤ x) (x1 : x ≤ 1000) (hl : ∀ r ∈ L, r.length = x) (px : p.x < x) (py : p.y < n) (psx : p.sx < x) (psy : p.sy < n) :
    Calls Try.prog 13 #[gv p (.slice D n c) (.slice E m d), .int .i64 x, .int .i64 n] w (WasPost w n L) := by
  have HN : Hid (∀ w, Calls Try.prog 12 #[.int .i64 x, .int .i64 n] w (GridPost w (newNm x n) (blankL x n) [])) := fun w => by
    have := rnew_any x n w
    rw [held_self x (by omega) (by omega), held_self n (by omega) (by omega), Int.toNat_natCast] at this
    exact this
  obtain ⟨rb, ro, rfl⟩ := hs.some h0
  obtain rfl := hs.nr
  have HS := Lib.hid hs
  clear hs
  unfold gv gcs
  go_enter Try.func13, Try.ntmps13
  go_wp2_with fail
  refine (HN.out _).mono ?_
  rintro e w1 ⟨D1, E1, n1, c1, m1, d1, rfl, hs1, hb1⟩
  obtain ⟨tb, tq, rfl⟩ := hs1.some (by rw [← hs1.nr, blankL_len]; exact h0)
  have hn1 : L.length = n1 := by rw [← hs1.nr, blankL_len]
  have hm1 : 0 = m1 := hs1.nb
  subst hn1
  subst hm1
  unfold gv gcs
  simp only [newNm]
  have q1 : Box w1 w.heap.size p (.slice (some ⟨rb, ro, none⟩) L.length c) (.slice E m d) := ((Box.new w p _ _).alloc _).below hb1 (by simp; omega)
  have q2 : Box w1 (w.heap.size + 1) zeroNm nilV nilV := by
    have := (Box.new (w.alloc (.cells (gcs p (.slice (some ⟨rb, ro, none⟩) L.length c) (.slice E m d)) 25)) zeroNm nilV nilV).below hb1 (by simp)
    rw [World.size_alloc] at this
    exact this
  have hg2 := q2.lt
  have bw1 : Below w.heap.size w w1 := (((Below.refl _ _).alloc (Nat.le_refl _) _).alloc (by simp) _).trans (hb1.mono (by simp; omega))
  have l1 : Lines (w.heap.size + 1 + 1) w1 (some ⟨tb, tq, none⟩) (blankL x L.length) := hs1.rows.weak (by simp)
  have htb : tb < w1.heap.size := by
    obtain ⟨b', o', _, _, e, _, h, _⟩ := l1.at 0 (by rw [blankL_len]; omega)
    cases e
    exact h
  clear hs1 hb1
  go_wp2_with fail
  go_loopw [9] (WasRel w p (.slice (some ⟨rb, ro, none⟩) L.length c) (.slice E m d) w1.heap.size (newNm x L.length) (.slice (some ⟨tb, tq, none⟩) L.length c1) (.slice E1 0 d1) tb tq L x) (fun i _ => L.length - (intOf i).toNat)
  case atStart =>
    refine ⟨0, rfl, Nat.zero_le _, q1.alloc _, q2.alloc _, Box.new w1 (newNm x L.length) _ _, ?_, bw1.alloc bw1.size _⟩
    have : wasL L x 0 = blankL x L.length := by simp [wasL]
    rw [this]
    exact l1.below ((Below.refl _ _).alloc (Nat.le_refl _) _) (Nat.le_refl _)
  case round =>
    clear q1 q2 bw1 l1
    obtain ⟨k, rfl, hk, hst⟩ := hrel
    by_cases hlt : k < L.length
    · have hki : (k : Int) < (L.length : Int) := by omega
      have hstd := hst.drew
      have u1 := hst.new.cells.c1
      have u13 := hst.box.cells.c13
      simp only [newNm] at u1
      obtain ⟨_, _, R, cr, e1, _, hrb, _, hcell, _, hrow⟩ := (HS.out.rows.below hstd.below (Nat.le_refl _)).at k hlt
      cases e1
      go_wp2_with fail
      have v13 := hstd.box.cells.c13
      have v0 := hstd.new.cells.c0
      simp only [newNm] at v0
      have hxl : L[k].length = x := hl _ (List.getElem_mem hlt)
      have HFIT := Lib.hid (rfit_any R cr L[k] x wr.drew hrow.read (by omega))
      rw [fit_self L[k] x (by omega) (by omega)] at HFIT
      have HX := Lib.hid hxl
      have HN2 := Lib.hid (wasL_next L x k hlt)
      have HLN := Lib.hid (wasL_len L x k hk)
      obtain ⟨_, _, T, ct, e2, _, htl, _, tcell, _, _⟩ := hstd.rows.at k (by rw [HLN.out]; exact hlt)
      cases e2
      clear hrow hxl
      generalize L[k] = q at *
      clear hst u1 u13
      have hzb := hstd.box.lt
      have hza := hstd.ans.lt
      have hzn := hstd.new.lt
      have htB : w.heap.size + 1 + 1 ≤ tb := by
        obtain ⟨_, _, _, _, e3, hq, _⟩ := hstd.rows.at k (by rw [HLN.out]; exact hlt)
        cases e3
        exact hq
      have hrb0 : rb < w.heap.size := by
        obtain ⟨_, _, _, _, e3, _, hq, _⟩ := HS.out.rows.at k hlt
        cases e3
        exact hq
      go_region_held3 (fun w' => w'.cell? ⟨w.heap.size, 13, none⟩ = some (.slice (some ⟨rb, ro, none⟩) L.length c) ∧ w'.cell? ⟨w1.heap.size, 0, none⟩ = some (.int .i64 x) ∧ w'.cell? ⟨rb, ro + k, none⟩ = some (.slice R q.length cr))
        (first
          | with_reducible exact ⟨v13, v0, hcell⟩
          | with_reducible exact ⟨v132, v02, hcell2⟩
          | with_reducible exact ⟨v133, v03, hcell3⟩
          | fail)
        ((go_at_call 26
          (with_reducible refine HFIT.out.mono ?_)
          rintro e w2 ⟨g, rfl, hg, hrw, hb2⟩
          have tcell2 := (hb2.cell (p := ⟨tb, tq + k, none⟩) htl).trans tcell
          have tf2 : ∀ o, w2.frozen? ⟨tb, o, none⟩ = false := by
            obtain ⟨_, _, _, _, e3, _, hq, hf, _⟩ := hstd.rows.at k (by rw [HLN.out]; exact hlt)
            cases e3
            exact hf.below hb2 hq
          have v132 := (hstd.box.below hb2 hzb).cells.c13
          have v02 := (hstd.new.below hb2 hzn).cells.c0
          simp only [newNm] at v02
          have hcell2 := (hb2.cell (p := ⟨rb, ro + k, none⟩) hrb).trans hcell
          have HST : Hid (WasSt w p (.slice (some ⟨rb, ro, none⟩) L.length c) (.slice E m d) w1.heap.size (newNm x L.length) (.slice (some ⟨tb, tq, none⟩) L.length c1) (.slice E1 0 d1) tb tq (wasL L x (k + 1)) (w2.setCell ⟨tb, tq + k, none⟩ (.slice (some ⟨g, 0, none⟩) q.length q.length))) := by
            refine ⟨(hstd.box.below hb2 hzb).far (q := ⟨tb, tq + k, none⟩) (by exact (by omega : w.heap.size ≠ tb)) _, (hstd.ans.below hb2 hza).far (q := ⟨tb, tq + k, none⟩) (by exact (by omega : w.heap.size + 1 ≠ tb)) _, (hstd.new.below hb2 hzn).far (q := ⟨tb, tq + k, none⟩) (by exact (by omega : w1.heap.size ≠ tb)) _, ?_, (hstd.below.trans (hb2.mono hstd.below.size)).setCell (p := ⟨tb, tq + k, none⟩) (by exact (by omega : w.heap.size ≤ tb)) _⟩
            rw [← HN2.out]
            exact (hstd.rows.below hb2 (Nat.le_refl _)).set k (by rw [HLN.out]; exact hlt) (Nat.le_refl _) (hrw.at (by omega))
          have v133 := HST.out.box.cells.c13
          have v03 := HST.out.new.cells.c0
          simp only [newNm] at v03
          have hcell3 := (cell_far (o := ro + k) (p := ⟨tb, tq + k, none⟩) (by exact (by omega : rb ≠ tb)) (.slice (some ⟨g, 0, none⟩) q.length q.length)).trans hcell2))
      go_wp2_with fail
      go_roundw
      case rel => exact ⟨k + 1, by go_num, by omega, HST.out⟩
      case measure => simp [intOf]; omega
    · have hki : ¬ (k : Int) < (L.length : Int) := by omega
      obtain rfl : k = L.length := by omega
      have ew : wasL L x L.length = L := by simp [wasL, blankL]
      rw [ew] at hst
      have u1 := hst.new.cells.c1
      simp only [newNm] at u1
      go_upto_region 7 with fail
      have u0 := hst.new.cells.c0
      simp only [newNm] at u0
      obtain ⟨y0, y1, y2, y3, y4, y5, y6, y7, y8, y9, y10, y11, y12, y13, y14, yf⟩ := hst.box.cells
      have hne1 : ¬ w1.heap.size = w.heap.size := by omega
      have hne2 : ¬ w.heap.size = w1.heap.size := by omega
      go_region_held3 (fun w' => w'.cell? ⟨w1.heap.size, 0, none⟩ = some (.int .i64 x) ∧ w'.cell? ⟨w1.heap.size, 1, none⟩ = some (.int .i64 L.length)) (go_keep) (fail)
      have sl : IntKind.i64.wrap ((L.length : Int) - 1) = (L.length : Int) - 1 := IntWalk.i64_in _ (by omega)
      simp only [sl]
      clear y0 y1 y2 y3 y4 y5 y6 y7 y8 y9 y10 y11 y12 y13 y14 yf u0 u1 sl
      have st1 := hst.far hg2 (hst.box.set_w x)
      have st2 := st1.far hg2 (st1.box.set_h L.length)
      have st3 := st2.far hg2 (st2.box.set_rows (.slice (some ⟨tb, tq, none⟩) L.length c1))
      have st4 := st3.far hg2 (st3.box.set_top 0)
      have st5 := st4.far hg2 (st4.box.set_bottom ((L.length : Int) - 1))
      have st6 := (st5.far hg2 (st5.box.set_wrap false)).drew
      clear hst st1 st2 st3 st4 st5
      dsimp only at st6
      generalize ((((((wr.setCell ⟨w.heap.size, 0, none⟩ (.int .i64 x)).setCell ⟨w.heap.size, 1, none⟩ (.int .i64 L.length)).setCell ⟨w.heap.size, 13, none⟩ (.slice (some ⟨tb, tq, none⟩) L.length c1)).setCell ⟨w.heap.size, 6, none⟩ (.int .i64 0)).setCell ⟨w.heap.size, 7, none⟩ (.int .i64 ((L.length : Int) - 1))).setCell ⟨w.heap.size, 4, none⟩ (.bool false)).drew = wa at *
      have u0 := st6.new.cells.c0
      have u1 := st6.new.cells.c1
      simp only [newNm] at u0 u1
      obtain ⟨y0, y1, y2, y3, y4, y5, y6, y7, y8, y9, y10, y11, y12, y13, y14, yf⟩ := st6.box.cells
      dsimp only at y0 y1 y2 y3 y4 y5 y6 y7 y8 y9 y10 y11 y12 y13 y14
      have s1 : IntKind.i64.wrap ((x : Int) - 1) = (x : Int) - 1 := IntWalk.i64_in _ (by omega)
      have s2 : IntKind.i64.wrap ((L.length : Int) - 1) = (L.length : Int) - 1 := IntWalk.i64_in _ (by omega)
      go_wp2_with fail
      have m1 : ¬ ((x : Int) - 1 < p.x) := by omega
      have m2 : ¬ ((L.length : Int) - 1 < p.y) := by omega
      have m3 : ¬ ((x : Int) - 1 < p.sx) := by omega
      have m4 : ¬ ((L.length : Int) - 1 < p.sy) := by omega
      have st6d := st6.drew
      have sk0 := st6.far hg2 (st6.box.set_x p.x)
      have sk0d := sk0.drew
      have sk1 := sk0.far hg2 (sk0.box.set_y p.y)
      have sk1d := sk1.drew
      have sk2 := sk1.far hg2 (sk1.box.set_sx p.sx)
      have sk2d := sk2.drew
      have sk3 := sk2.far hg2 (sk2.box.set_sy p.sy)
      have sk3d := sk3.drew
      have f00 := st6d.new.cells.c0
      have f01 := st6d.new.cells.c1
      have f02 := st6d.box.cells.c2
      have f03 := st6d.box.cells.c3
      have f08 := st6d.box.cells.c8
      have f09 := st6d.box.cells.c9
      simp only [newNm] at f00 f01
      dsimp only at f02 f03 f08 f09
      have f10 := sk0d.new.cells.c0
      have f11 := sk0d.new.cells.c1
      have f12 := sk0d.box.cells.c2
      have f13 := sk0d.box.cells.c3
      have f18 := sk0d.box.cells.c8
      have f19 := sk0d.box.cells.c9
      simp only [newNm] at f10 f11
      dsimp only at f12 f13 f18 f19
      have f20 := sk1d.new.cells.c0
      have f21 := sk1d.new.cells.c1
      have f22 := sk1d.box.cells.c2
      have f23 := sk1d.box.cells.c3
      have f28 := sk1d.box.cells.c8
      have f29 := sk1d.box.cells.c9
      simp only [newNm] at f20 f21
      dsimp only at f22 f23 f28 f29
      have f30 := sk2d.new.cells.c0
      have f31 := sk2d.new.cells.c1
      have f32 := sk2d.box.cells.c2
      have f33 := sk2d.box.cells.c3
      have f38 := sk2d.box.cells.c8
      have f39 := sk2d.box.cells.c9
      simp only [newNm] at f30 f31
      dsimp only at f32 f33 f38 f39
      have f40 := sk3d.new.cells.c0
      have f41 := sk3d.new.cells.c1
      have f42 := sk3d.box.cells.c2
      have f43 := sk3d.box.cells.c3
      have f48 := sk3d.box.cells.c8
      have f49 := sk3d.box.cells.c9
      simp only [newNm] at f40 f41
      dsimp only at f42 f43 f48 f49
      refine wp_region_held_drew (S := (fun w' => w'.cell? ⟨w1.heap.size, 0, none⟩ = some (.int .i64 x) ∧ w'.cell? ⟨w1.heap.size, 1, none⟩ = some (.int .i64 L.length) ∧ w'.cell? ⟨w.heap.size, 2, none⟩ = some (.int .i64 p.x) ∧ w'.cell? ⟨w.heap.size, 3, none⟩ = some (.int .i64 p.y) ∧ w'.cell? ⟨w.heap.size, 8, none⟩ = some (.int .i64 p.sx) ∧ w'.cell? ⟨w.heap.size, 9, none⟩ = some (.int .i64 p.sy))) (by kernel_rfl) (by exact ⟨f00, f01, f02, f03, f08, f09⟩) (fun hH0 => ?_)
      refine wpAnyH_take (i := 0) (oi := _) (v := .pointer (some ⟨w.heap.size, 2, none⟩)) rfl (by kernel_rfl) (by kernel_rfl) (by kernel_rfl) (fun _ _ _ h => h) (Or.inl ⟨by rfl, ?_⟩) hH0 ?_
      · intro wv hSw
        try dsimp only at hSw
        go_simp
      change wpAnyH _ _ _ _ _ _ _ (Act.put _ (some 53) (.pointer (some ⟨w.heap.size, 2, none⟩))) _
      simp only [Act.put, List.setIfInBounds_toArray, List.set_cons_zero, List.set_cons_succ]
      refine wpAnyH_take (i := 1) (oi := _) (v := .int .i64 p.x) rfl (by kernel_rfl) (by kernel_rfl) (by kernel_rfl) (fun _ _ _ h => h) (Or.inl ⟨by rfl, ?_⟩) hH0 ?_
      · intro wv hSw
        try dsimp only at hSw
        go_simp
      change wpAnyH _ _ _ _ _ _ _ (Act.put _ (some 54) (.int .i64 p.x)) _
      simp only [Act.put, List.setIfInBounds_toArray, List.set_cons_zero, List.set_cons_succ]
      refine wpAnyH_take (i := 2) (oi := _) (v := .pointer (some ⟨w1.heap.size, 0, none⟩)) rfl (by kernel_rfl) (by kernel_rfl) (by kernel_rfl) (fun _ _ _ h => h) (Or.inl ⟨by rfl, ?_⟩) hH0 ?_
      · intro wv hSw
        try dsimp only at hSw
        go_simp
      change wpAnyH _ _ _ _ _ _ _ (Act.put _ (some 55) (.pointer (some ⟨w1.heap.size, 0, none⟩))) _
      simp only [Act.put, List.setIfInBounds_toArray, List.set_cons_zero, List.set_cons_succ]
      refine wpAnyH_take (i := 3) (oi := _) (v := .int .i64 x) rfl (by kernel_rfl) (by kernel_rfl) (by kernel_rfl) (fun _ _ _ h => h) (Or.inl ⟨by rfl, ?_⟩) hH0 ?_
      · intro wv hSw
        try dsimp only at hSw
        go_simp
      change wpAnyH _ _ _ _ _ _ _ (Act.put _ (some 56) (.int .i64 x)) _
      simp only [Act.put, List.setIfInBounds_toArray, List.set_cons_zero, List.set_cons_succ]
      refine wpAnyH_take (i := 4) (oi := _) (v := .int .i64 ((x : Int) - 1)) rfl (by kernel_rfl) (by kernel_rfl) (by kernel_rfl) (fun _ _ _ h => h) (Or.inl ⟨by rfl, ?_⟩) hH0 ?_
      · intro wv hSw
        try dsimp only at hSw
        go_simp
      change wpAnyH _ _ _ _ _ _ _ (Act.put _ (some 57) (.int .i64 ((x : Int) - 1))) _
      simp only [Act.put, List.setIfInBounds_toArray, List.set_cons_zero, List.set_cons_succ]
      refine wpAnyH_take (i := 5) (oi := _) (v := .int .i64 p.x) rfl (by kernel_rfl) (by kernel_rfl) (by kernel_rfl) (fun _ _ _ h => h) (Or.inl ⟨by rfl, ?_⟩) hH0 ?_
      · intro wv hSw
        try dsimp only at hSw
        go_simp
      change wpAnyH _ _ _ _ _ _ _ (Act.put _ (some 58) (.int .i64 p.x)) _
      simp only [Act.put, List.setIfInBounds_toArray, List.set_cons_zero, List.set_cons_succ]
      refine wpAnyH_take (i := 6) (oi := _) (v := .pointer (some ⟨w.heap.size, 3, none⟩)) rfl (by kernel_rfl) (by kernel_rfl) (by kernel_rfl) (fun _ _ _ h => h) (Or.inl ⟨by rfl, ?_⟩) hH0 ?_
      · intro wv hSw
        try dsimp only at hSw
        go_simp
      change wpAnyH _ _ _ _ _ _ _ (Act.put _ (some 59) (.pointer (some ⟨w.heap.size, 3, none⟩))) _
      simp only [Act.put, List.setIfInBounds_toArray, List.set_cons_zero, List.set_cons_succ]
      refine wpAnyH_take (i := 7) (oi := _) (v := .int .i64 p.y) rfl (by kernel_rfl) (by kernel_rfl) (by kernel_rfl) (fun _ _ _ h => h) (Or.inl ⟨by rfl, ?_⟩) hH0 ?_
      · intro wv hSw
        try dsimp only at hSw
        go_simp
      change wpAnyH _ _ _ _ _ _ _ (Act.put _ (some 60) (.int .i64 p.y)) _
      simp only [Act.put, List.setIfInBounds_toArray, List.set_cons_zero, List.set_cons_succ]
      refine wpAnyH_take (i := 8) (oi := _) (v := .pointer (some ⟨w1.heap.size, 1, none⟩)) rfl (by kernel_rfl) (by kernel_rfl) (by kernel_rfl) (fun _ _ _ h => h) (Or.inl ⟨by rfl, ?_⟩) hH0 ?_
      · intro wv hSw
        try dsimp only at hSw
        go_simp
      change wpAnyH _ _ _ _ _ _ _ (Act.put _ (some 61) (.pointer (some ⟨w1.heap.size, 1, none⟩))) _
      simp only [Act.put, List.setIfInBounds_toArray, List.set_cons_zero, List.set_cons_succ]
      refine wpAnyH_take (i := 9) (oi := _) (v := .int .i64 L.length) rfl (by kernel_rfl) (by kernel_rfl) (by kernel_rfl) (fun _ _ _ h => h) (Or.inl ⟨by rfl, ?_⟩) hH0 ?_
      · intro wv hSw
        try dsimp only at hSw
        go_simp
      change wpAnyH _ _ _ _ _ _ _ (Act.put _ (some 62) (.int .i64 L.length)) _
      simp only [Act.put, List.setIfInBounds_toArray, List.set_cons_zero, List.set_cons_succ]
      refine wpAnyH_take (i := 10) (oi := _) (v := .int .i64 ((L.length : Int) - 1)) rfl (by kernel_rfl) (by kernel_rfl) (by kernel_rfl) (fun _ _ _ h => h) (Or.inl ⟨by rfl, ?_⟩) hH0 ?_
      · intro wv hSw
        try dsimp only at hSw
        go_simp
      change wpAnyH _ _ _ _ _ _ _ (Act.put _ (some 63) (.int .i64 ((L.length : Int) - 1))) _
      simp only [Act.put, List.setIfInBounds_toArray, List.set_cons_zero, List.set_cons_succ]
      refine wpAnyH_take (i := 11) (oi := _) (v := .int .i64 p.y) rfl (by kernel_rfl) (by kernel_rfl) (by kernel_rfl) (fun _ _ _ h => h) (Or.inl ⟨by rfl, ?_⟩) hH0 ?_
      · intro wv hSw
        try dsimp only at hSw
        go_simp
      change wpAnyH _ _ _ _ _ _ _ (Act.put _ (some 64) (.int .i64 p.y)) _
      simp only [Act.put, List.setIfInBounds_toArray, List.set_cons_zero, List.set_cons_succ]
      refine wpAnyH_take (i := 12) (oi := _) (v := .pointer (some ⟨w.heap.size, 8, none⟩)) rfl (by kernel_rfl) (by kernel_rfl) (by kernel_rfl) (fun _ _ _ h => h) (Or.inl ⟨by rfl, ?_⟩) hH0 ?_
      · intro wv hSw
        try dsimp only at hSw
        go_simp
      change wpAnyH _ _ _ _ _ _ _ (Act.put _ (some 65) (.pointer (some ⟨w.heap.size, 8, none⟩))) _
      simp only [Act.put, List.setIfInBounds_toArray, List.set_cons_zero, List.set_cons_succ]
      refine wpAnyH_take (i := 13) (oi := _) (v := .int .i64 p.sx) rfl (by kernel_rfl) (by kernel_rfl) (by kernel_rfl) (fun _ _ _ h => h) (Or.inl ⟨by rfl, ?_⟩) hH0 ?_
      · intro wv hSw
        try dsimp only at hSw
        go_simp
      change wpAnyH _ _ _ _ _ _ _ (Act.put _ (some 66) (.int .i64 p.sx)) _
      simp only [Act.put, List.setIfInBounds_toArray, List.set_cons_zero, List.set_cons_succ]
      refine wpAnyH_take (i := 14) (oi := _) (v := .pointer (some ⟨w1.heap.size, 0, none⟩)) rfl (by kernel_rfl) (by kernel_rfl) (by kernel_rfl) (fun _ _ _ h => h) (Or.inl ⟨by rfl, ?_⟩) hH0 ?_
      · intro wv hSw
        try dsimp only at hSw
        go_simp
      change wpAnyH _ _ _ _ _ _ _ (Act.put _ (some 67) (.pointer (some ⟨w1.heap.size, 0, none⟩))) _
      simp only [Act.put, List.setIfInBounds_toArray, List.set_cons_zero, List.set_cons_succ]
      refine wpAnyH_take (i := 15) (oi := _) (v := .int .i64 x) rfl (by kernel_rfl) (by kernel_rfl) (by kernel_rfl) (fun _ _ _ h => h) (Or.inl ⟨by rfl, ?_⟩) hH0 ?_
      · intro wv hSw
        try dsimp only at hSw
        go_simp
      change wpAnyH _ _ _ _ _ _ _ (Act.put _ (some 68) (.int .i64 x)) _
      simp only [Act.put, List.setIfInBounds_toArray, List.set_cons_zero, List.set_cons_succ]
      refine wpAnyH_take (i := 16) (oi := _) (v := .int .i64 ((x : Int) - 1)) rfl (by kernel_rfl) (by kernel_rfl) (by kernel_rfl) (fun _ _ _ h => h) (Or.inl ⟨by rfl, ?_⟩) hH0 ?_
      · intro wv hSw
        try dsimp only at hSw
        go_simp
      change wpAnyH _ _ _ _ _ _ _ (Act.put _ (some 69) (.int .i64 ((x : Int) - 1))) _
      simp only [Act.put, List.setIfInBounds_toArray, List.set_cons_zero, List.set_cons_succ]
      refine wpAnyH_take (i := 17) (oi := _) (v := .int .i64 p.sx) rfl (by kernel_rfl) (by kernel_rfl) (by kernel_rfl) (fun _ _ _ h => h) (Or.inl ⟨by rfl, ?_⟩) hH0 ?_
      · intro wv hSw
        try dsimp only at hSw
        go_simp
      change wpAnyH _ _ _ _ _ _ _ (Act.put _ (some 70) (.int .i64 p.sx)) _
      simp only [Act.put, List.setIfInBounds_toArray, List.set_cons_zero, List.set_cons_succ]
      refine wpAnyH_take (i := 18) (oi := _) (v := .pointer (some ⟨w.heap.size, 9, none⟩)) rfl (by kernel_rfl) (by kernel_rfl) (by kernel_rfl) (fun _ _ _ h => h) (Or.inl ⟨by rfl, ?_⟩) hH0 ?_
      · intro wv hSw
        try dsimp only at hSw
        go_simp
      change wpAnyH _ _ _ _ _ _ _ (Act.put _ (some 71) (.pointer (some ⟨w.heap.size, 9, none⟩))) _
      simp only [Act.put, List.setIfInBounds_toArray, List.set_cons_zero, List.set_cons_succ]
      refine wpAnyH_take (i := 19) (oi := _) (v := .int .i64 p.sy) rfl (by kernel_rfl) (by kernel_rfl) (by kernel_rfl) (fun _ _ _ h => h) (Or.inl ⟨by rfl, ?_⟩) hH0 ?_
      · intro wv hSw
        try dsimp only at hSw
        go_simp
      change wpAnyH _ _ _ _ _ _ _ (Act.put _ (some 72) (.int .i64 p.sy)) _
      simp only [Act.put, List.setIfInBounds_toArray, List.set_cons_zero, List.set_cons_succ]
      refine wpAnyH_take (i := 20) (oi := _) (v := .pointer (some ⟨w1.heap.size, 1, none⟩)) rfl (by kernel_rfl) (by kernel_rfl) (by kernel_rfl) (fun _ _ _ h => h) (Or.inl ⟨by rfl, ?_⟩) hH0 ?_
      · intro wv hSw
        try dsimp only at hSw
        go_simp
      change wpAnyH _ _ _ _ _ _ _ (Act.put _ (some 73) (.pointer (some ⟨w1.heap.size, 1, none⟩))) _
      simp only [Act.put, List.setIfInBounds_toArray, List.set_cons_zero, List.set_cons_succ]
      refine wpAnyH_take (i := 21) (oi := _) (v := .int .i64 L.length) rfl (by kernel_rfl) (by kernel_rfl) (by kernel_rfl) (fun _ _ _ h => h) (Or.inl ⟨by rfl, ?_⟩) hH0 ?_
      · intro wv hSw
        try dsimp only at hSw
        go_simp
      change wpAnyH _ _ _ _ _ _ _ (Act.put _ (some 74) (.int .i64 L.length)) _
      simp only [Act.put, List.setIfInBounds_toArray, List.set_cons_zero, List.set_cons_succ]
      refine wpAnyH_take (i := 22) (oi := _) (v := .int .i64 ((L.length : Int) - 1)) rfl (by kernel_rfl) (by kernel_rfl) (by kernel_rfl) (fun _ _ _ h => h) (Or.inl ⟨by rfl, ?_⟩) hH0 ?_
      · intro wv hSw
        try dsimp only at hSw
        go_simp
      change wpAnyH _ _ _ _ _ _ _ (Act.put _ (some 75) (.int .i64 ((L.length : Int) - 1))) _
      simp only [Act.put, List.setIfInBounds_toArray, List.set_cons_zero, List.set_cons_succ]
      refine wpAnyH_take (i := 23) (oi := _) (v := .int .i64 p.sy) rfl (by kernel_rfl) (by kernel_rfl) (by kernel_rfl) (fun _ _ _ h => h) (Or.inl ⟨by rfl, ?_⟩) hH0 ?_
      · intro wv hSw
        try dsimp only at hSw
        go_simp
      change wpAnyH _ _ _ _ _ _ _ (Act.put _ (some 76) (.int .i64 p.sy)) _
      simp only [Act.put, List.setIfInBounds_toArray, List.set_cons_zero, List.set_cons_succ]
      refine wpAnyH_take (i := 24) (oi := _) (v := .pointer (some ⟨w.heap.size, 2, none⟩)) rfl (by kernel_rfl) (by kernel_rfl) (by kernel_rfl) (fun _ _ _ h => h) (Or.inl ⟨by rfl, ?_⟩) hH0 ?_
      · intro wv hSw
        try dsimp only at hSw
        go_simp
      change wpAnyH _ _ _ _ _ _ _ (Act.put _ (some 77) (.pointer (some ⟨w.heap.size, 2, none⟩))) _
      simp only [Act.put, List.setIfInBounds_toArray, List.set_cons_zero, List.set_cons_succ]
      refine wpAnyH_ready (rs := [25]) (by kernel_rfl) (by simp) ?_
      refine AllReadyH.cons (o := _) rfl (fun K hK => ?_) AllReadyH.nil
      go_simp
      refine hK.out _ _ (by exact ⟨f10, f11, f12, f13, f18, f19⟩) (fun hH1 => ?_)
      clear hK K
      try simp only [Act.put, List.setIfInBounds_toArray, List.set_cons_zero, List.set_cons_succ]
      refine wpAnyH_take (i := 26) (oi := _) (v := .pointer (some ⟨w.heap.size, 3, none⟩)) rfl (by kernel_rfl) (by kernel_rfl) (by kernel_rfl) (fun _ _ _ h => h) (Or.inl ⟨by rfl, ?_⟩) hH1 ?_
      · intro wv hSw
        try dsimp only at hSw
        go_simp
      change wpAnyH _ _ _ _ _ _ _ (Act.put _ (some 78) (.pointer (some ⟨w.heap.size, 3, none⟩))) _
      simp only [Act.put, List.setIfInBounds_toArray, List.set_cons_zero, List.set_cons_succ]
      refine wpAnyH_ready (rs := [27]) (by kernel_rfl) (by simp) ?_
      refine AllReadyH.cons (o := _) rfl (fun K hK => ?_) AllReadyH.nil
      go_simp
      refine hK.out _ _ (by exact ⟨f20, f21, f22, f23, f28, f29⟩) (fun hH2 => ?_)
      clear hK K
      try simp only [Act.put, List.setIfInBounds_toArray, List.set_cons_zero, List.set_cons_succ]
      refine wpAnyH_take (i := 28) (oi := _) (v := .pointer (some ⟨w.heap.size, 8, none⟩)) rfl (by kernel_rfl) (by kernel_rfl) (by kernel_rfl) (fun _ _ _ h => h) (Or.inl ⟨by rfl, ?_⟩) hH2 ?_
      · intro wv hSw
        try dsimp only at hSw
        go_simp
      change wpAnyH _ _ _ _ _ _ _ (Act.put _ (some 79) (.pointer (some ⟨w.heap.size, 8, none⟩))) _
      simp only [Act.put, List.setIfInBounds_toArray, List.set_cons_zero, List.set_cons_succ]
      refine wpAnyH_ready (rs := [29]) (by kernel_rfl) (by simp) ?_
      refine AllReadyH.cons (o := _) rfl (fun K hK => ?_) AllReadyH.nil
      go_simp
      refine hK.out _ _ (by exact ⟨f30, f31, f32, f33, f38, f39⟩) (fun hH3 => ?_)
      clear hK K
      try simp only [Act.put, List.setIfInBounds_toArray, List.set_cons_zero, List.set_cons_succ]
      refine wpAnyH_take (i := 30) (oi := _) (v := .pointer (some ⟨w.heap.size, 9, none⟩)) rfl (by kernel_rfl) (by kernel_rfl) (by kernel_rfl) (fun _ _ _ h => h) (Or.inl ⟨by rfl, ?_⟩) hH3 ?_
      · intro wv hSw
        try dsimp only at hSw
        go_simp
      change wpAnyH _ _ _ _ _ _ _ (Act.put _ (some 80) (.pointer (some ⟨w.heap.size, 9, none⟩))) _
      simp only [Act.put, List.setIfInBounds_toArray, List.set_cons_zero, List.set_cons_succ]
      refine wpAnyH_ready (rs := [31]) (by kernel_rfl) (by simp) ?_
      refine AllReadyH.cons (o := _) rfl (fun K hK => ?_) AllReadyH.nil
      go_simp
      refine hK.out _ _ (by exact ⟨f40, f41, f42, f43, f48, f49⟩) (fun hH4 => ?_)
      clear hK K
      try simp only [Act.put, List.setIfInBounds_toArray, List.set_cons_zero, List.set_cons_succ]
      refine wpAnyH_done (by kernel_rfl) ?_ _
      clear hH0 hH1 hH2 hH3 hH4
      clear f00 f01 f02 f03 f08 f09 f10 f11 f12 f13 f18 f19 f20 f21 f22 f23 f28 f29 f30 f31 f32 f33 f38 f39 f40 f41 f42 f43 f48 f49 y0 y1 y2 y3 y4 y5 y6 y7 y8 y9 y10 y11 y12 y13 y14 yf u0 u1 st6 st6d sk0 sk1 sk2 sk0d sk1d sk2d sk3
      dsimp only at sk3d
      obtain ⟨p1, hp1⟩ : ∃ p1 : Nm, p1 = { w := (x : Int), h := (L.length : Int), x := p.x, y := p.y, wrap := false, a := p.a, top := 0, bottom := (L.length : Int) - 1, sx := p.sx, sy := p.sy, sa := p.sa, noWrap := p.noWrap, hidden := p.hidden } := ⟨_, rfl⟩
      rw [← hp1] at sk3d
      clear hp1
      generalize ((((wa.setCell ⟨w.heap.size, 2, none⟩ (.int .i64 p.x)).setCell ⟨w.heap.size, 3, none⟩ (.int .i64 p.y)).setCell ⟨w.heap.size, 8, none⟩ (.int .i64 p.sx)).setCell ⟨w.heap.size, 9, none⟩ (.int .i64 p.sy)).drew = wb at *
      have HL1 := Lib.hid (sk3d.rows.put15 (g := w.heap.size + 1) (by omega) p1 (.slice (some ⟨tb, tq, none⟩) L.length c1) (.slice E m d))
      have HZ := Lib.hid (put15_box sk3d.ans (p := p1) (.slice (some ⟨tb, tq, none⟩) L.length c1) (.slice E m d)).cells
      have HBA := Lib.hid (put15_below sk3d.below (Nat.le_succ _) p1 (.slice (some ⟨tb, tq, none⟩) L.length c1) (.slice E m d))
      have hc2 := sk3d.ans.cells
      have hc3 := sk3d.box.cells
      have hzz := sk3d.ans.lt
      simp only [zeroNm, nilV] at hc2
      obtain ⟨a0, a1, a2, a3, a4, a5, a6, a7, a8, a9, a10, a11, a12, a13, a14, af⟩ := hc2
      obtain ⟨y0, y1, y2, y3, y4, y5, y6, y7, y8, y9, y10, y11, y12, y13, y14, yf⟩ := hc3
      clear sk3d s1 s2 m1 m2 m3 m4
      go_wp2_with fail
      change bodyPost _ _ _ _ _ (put15 wb (w.heap.size + 1) p1 (.slice (some ⟨tb, tq, none⟩) L.length c1) (.slice E m d))
      clear a0 a1 a2 a3 a4 a5 a6 a7 a8 a9 a10 a11 a12 a13 a14 af y0 y1 y2 y3 y4 y5 y6 y7 y8 y9 y10 y11 y12 y13 y14 yf
      generalize (put15 wb (w.heap.size + 1) p1 (.slice (some ⟨tb, tq, none⟩) L.length c1) (.slice E m d)) = wz at *
      obtain ⟨y0, y1, y2, y3, y4, y5, y6, y7, y8, y9, y10, y11, y12, y13, y14, yf⟩ := HZ.out
      refine bodyPost_ret (v := gv p1 (.slice (some ⟨tb, tq, none⟩) L.length c1) (.slice E m d)) (by simp [results, Try.results13, go_sem, gv, gcs, y0, y1, y2, y3, y4, y5, y6, y7, y8, y9, y10, y11, y12, y13, y14]) rfl ?_
      exact ⟨p1, _, _, _, _, _, rfl, HL1.out.weak (by omega), HBA.out⟩
end Go.Proofs.Ytjgdabbcbfhijaa
