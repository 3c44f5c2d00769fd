/-
  The walk of GridTurns. Conditions: the row that came in reads as numbers.
-/
import Derived.Test.YtjgdabbcbfhijaaGrid
import Derived.Test.YtjgdabbcbfhijaaTur
import Derived.Test.YtjgdabbcbfhijaaAwake
namespace Go.Proofs.Ytjgdabbcbfhijaa
open Go.RowKit

/-- The screen g. -/
structure T1 (w : World) (G : Nat) (p : Nm) (D E : Option Addr) (n c m d : Nat) (L Bk : List (List C)) (wr : World) : Prop where
  box : Box wr G p (.slice D n c) (.slice E m d)
  scr : Scr 0 wr D E n c m d L Bk
  below : Below w.heap.size w wr
theorem T1.next {w : World} {G : Nat} {p : Nm} {D E : Option Addr} {n c m d : Nat} {L Bk : List (List C)} {wr wx : World} (h : T1 w G p D E n c m d L Bk wr) (hb : Below wr.heap.size wr wx) : T1 w G p D E n c m d L Bk wx :=
  ⟨h.box.below hb h.box.lt, h.scr.below hb (Nat.le_refl _), h.below.trans (hb.mono h.below.size)⟩
def TwoRel (w : World) (G : Nat) (p : Nm) (D E : Option Addr) (n c m d : Nat) (L Bk : List (List C)) (u v : Value) (wr : World) : Prop :=
  (∃ x : Nat, x < n ∧ u = .int .i64 (x : Int)) ∧ (∃ x : Nat, x < n ∧ v = .int .i64 (x : Int)) ∧ T1 w G p D E n c m d L Bk wr
def TopRel (w : World) (G : Nat) (p : Nm) (D E : Option Addr) (n c m d : Nat) (L Bk : List (List C)) (u v : Value) (wr : World) : Prop :=
  (∃ t b : Nat, t ≤ b ∧ b < n ∧ u = .int .i64 (t : Int) ∧ v = .int .i64 (b : Int)) ∧ T1 w G p D E n c m d L Bk wr
/-- The three screens: g, what came of it upwards, what came of that downwards. -/
structure T3 (w : World) (G H I : Nat) (p : Nm) (D E D2 E2 D3 E3 : Option Addr) (n c m d c2 m2 d2 c3 d3 : Nat) (L U V : List (List C)) (wr : World) : Prop where
  g : Box wr G p (.slice D n c) (.slice E m d)
  u : Box wr H p (.slice D2 n c2) (.slice E2 m2 d2)
  d : Box wr I p (.slice D3 n c3) (.slice E3 m2 d3)
  lg : Lines 0 wr D L
  lu : Lines 0 wr D2 U
  ld : Lines 0 wr D3 V
  below : Below w.heap.size w wr
theorem T3.next {w : World} {G H I : Nat} {p : Nm} {D E D2 E2 D3 E3 : Option Addr} {n c m d c2 m2 d2 c3 d3 : Nat} {L U V : List (List C)} {wr wx : World} (h : T3 w G H I p D E D2 E2 D3 E3 n c m d c2 m2 d2 c3 d3 L U V wr) (hb : Below wr.heap.size wr wx) : T3 w G H I p D E D2 E2 D3 E3 n c m d c2 m2 d2 c3 d3 L U V wx :=
  ⟨h.g.below hb h.g.lt, h.u.below hb h.u.lt, h.d.below hb h.d.lt, h.lg.below hb (Nat.le_refl _), h.lu.below hb (Nat.le_refl _), h.ld.below hb (Nat.le_refl _), h.below.trans (hb.mono h.below.size)⟩
/-- Two screens: g, and what came of it. -/
structure T2 (w : World) (G H : Nat) (p : Nm) (D E D2 E2 : Option Addr) (n c m d c2 m2 d2 : Nat) (L Bk U Uk : List (List C)) (wr : World) : Prop where
  g : Box wr G p (.slice D n c) (.slice E m d)
  u : Box wr H p (.slice D2 n c2) (.slice E2 m2 d2)
  sg : Scr 0 wr D E n c m d L Bk
  su : Scr 0 wr D2 E2 n c2 m2 d2 U Uk
  below : Below w.heap.size w wr
def KRel (S : World → Prop) (k : Nat) (v : Value) (wr : World) : Prop := v = .int .i64 (k : Int) ∧ S wr
def YRel (S : World → Prop) (n : Nat) (v : Value) (wr : World) : Prop := ∃ y : Nat, v = .int .i64 (y : Int) ∧ y ≤ n ∧ S wr
def BRel (S : World → Prop) (b : Bool) (v : Value) (wr : World) : Prop := v = .bool b ∧ S wr
/-- Two rows that are what the rows y of U and V should be. -/
def RowRel (S : World → Prop) (U V : List (List C)) (y : Nat) (u v : Value) (wr : World) : Prop :=
  ∃ (lu ld : List C) (Du Dd : Option Addr) (cu cd : Nat), u = .slice Du lu.length cu ∧ v = .slice Dd ld.length cd ∧ RowAt 0 wr Du lu ∧ RowAt 0 wr Dd ld ∧ U[y]? = some lu ∧ V[y]? = some ld ∧ S wr
theorem Lines.at? {B : Nat} {w : World} {D : Option Addr} {L : List (List C)} (h : Lines B w D L) {k : Nat} {l : List C} (hl : L[k]? = some l) :
    ∃ (b off : Nat) (E : Option Addr) (c : Nat), D = some ⟨b, off, none⟩ ∧ b < w.heap.size ∧ w.cell? ⟨b, off + k, none⟩ = some (.slice E l.length c) ∧ l.length ≤ c ∧ RowAt B w E l := by
  have hk := (List.getElem?_eq_some_iff.1 hl).1
  have e := (List.getElem?_eq_some_iff.1 hl).2
  obtain ⟨b, off, E, c, h1, _, h2, _, h3, h4, h5⟩ := h.at k hk
  rw [e] at h3 h4 h5
  exact ⟨b, off, E, c, h1, h2, h3, h4, h5⟩
set_option maxRecDepth 100000 in
set_option maxHeartbeats 4000000 in
theorem turns_walk (D0 : Option Addr) (c0 : Nat) (xs : List Int) (a b z : Int) (w : World) (hr : ReadI w (.slice D0 xs.length c0) xs) :
    Calls Try.prog 3 #[.slice D0 xs.length c0, .int .i64 a, .int .i64 b, .int .i64 z] w (TrueBelow w) := by
  have HG := Lib.hid (grid_any D0 c0 xs w hr)
  clear hr
  go_enter Try.func3, Try.ntmps3
  go_upto_region 2 with (first
  | (with_reducible refine wpList_storeB (x := .tmp 9) (y := .tmp 19) (p := p) (D := D) (E := E) (n := n) (c := c) (m := m) (d := d) ?_ ?_ ?_ ?_ ?_ ?_
     · with_reducible rfl
     · rfl
     · rfl
     · rfl
     · rfl)
  | (go_at_call 6
     refine HG.out.mono ?_
     rintro e w1 ⟨p, D, E, n, c, m, d, W, L, Bk, rfl, ok⟩))
  clear HG
  obtain ⟨scr, bel, hW0, hW1, hn0, hn1, hp, hrow, hm, hone⟩ := ok
  have hpw := hp.w
  have hph := hp.h
  have hl : ∀ r ∈ L, r.length ≤ 1000 := fun r h => by rw [hrow r h]; omega
  have hlb : ∀ r ∈ Bk, r.length ≤ 1000 := fun r h => by obtain ⟨x, e, _⟩ := hone r h; rw [e]; simp
  have HPW := Lib.hid hpw
  have HL := Lib.hid hl
  have HLB := Lib.hid hlb
  have HN := Lib.hid scr.nr
  clear hone hp hl hlb hrow
  refine wp_world (T1 w w1.heap.size p D E n c m d L Bk) ⟨Box.new _ p _ _, (scr.weak (Nat.zero_le _)).below ((Below.refl _ _).alloc (Nat.le_refl _) _) (Nat.le_refl _), bel.alloc bel.size _⟩ ?_
  clear scr bel
  generalize w1.heap.size = G at *
  rintro wa sa
  dsimp only [Act.put]
  go_cut [1, 2] (TwoRel w G p D E n c m d L Bk)
  case first =>
    have y1 := sa.box.cells.c1
    rw [hph] at y1
    have hnz : ¬ n = 0 := by omega
    obtain ⟨a1, ha1, hA1⟩ := mask255 a
    obtain ⟨b1, hb1, hB1⟩ := mask255 b
    go_quiet (fail)
    clear y1 hA1 hB1
    go_wp2_with fail
    go_meet
    exact ⟨⟨a1 % n, Nat.mod_lt _ (by omega), rfl⟩, ⟨b1 % n, Nat.mod_lt _ (by omega), rfl⟩, sa.next (below_drewN (Below.refl _ _) _)⟩
  case rest =>
    clear sa
    obtain ⟨⟨a1, ha1, rfl⟩, ⟨b1, hb1, rfl⟩, sa⟩ := hcut
    go_upto_region 3 with fail
    go_cut [10, 11] (TopRel w G p D E n c m d L Bk)
    case first =>
      rcases Nat.lt_or_ge a1 b1 with h | h
      · have h1 : (a1 : Int) < (b1 : Int) := by omega
        have h2 : ¬ (b1 : Int) < (a1 : Int) := by omega
        go_wp2_with fail
        go_meet
        exact ⟨⟨a1, b1, by omega, hb1, rfl, rfl⟩, sa⟩
      · by_cases h' : b1 < a1
        · have h1 : (b1 : Int) < (a1 : Int) := by omega
          have h2 : ¬ (a1 : Int) < (b1 : Int) := by omega
          go_wp2_with fail
          go_meet
          exact ⟨⟨b1, a1, by omega, ha1, rfl, rfl⟩, sa⟩
        · obtain rfl : a1 = b1 := by omega
          have h1 : ¬ (a1 : Int) < (a1 : Int) := by omega
          go_wp2_with fail
          go_meet
          exact ⟨⟨a1, a1, by omega, ha1, rfl, rfl⟩, sa⟩
    case rest =>
      clear sa
      obtain ⟨⟨top, bot, htb, hbn, rfl, rfl⟩, sa⟩ := hcut
      obtain ⟨s, hs7, hS⟩ := mask7 z
      obtain ⟨k, hk⟩ : ∃ k, min s (bot + 1 - top) = k := ⟨_, rfl⟩
      have HU := Lib.hid (up_nat p D E n c m d L Bk top bot s wc sa.scr htb hbn (by omega) hm HL.out HLB.out)
      rw [hk, HPW.out] at HU
      have x1 := sa.box
      go_upto_region 6 with (first
      | (with_reducible refine wpList_loadB x1 (x := .tmp 9) ?_ ?_ ?_ ?_
         · with_reducible rfl
         · rfl
         · rfl)
      | (with_reducible refine wpList_storeB (x := .tmp 12) (y := .tmp 42) (p := p) (D := D2) (E := E2) (n := n) (c := c2) (m := m2) (d := d2) ?_ ?_ ?_ ?_ ?_ ?_
         · with_reducible rfl
         · rfl
         · rfl
         · rfl
         · rfl)
      | (go_at_call 7
         refine HU.out.mono ?_
         rintro e w2 ⟨D2, E2, n2, c2, m2, d2, rfl, s2, hb2⟩
         have hn2 : n = n2 := by rw [← s2.nr]; exact (upL_len _ HN.out (by omega) (by omega)).symm
         subst hn2))
      try dsimp only [Act.put]
      have hm2 : m2 ≤ 50 := by rw [← s2.nb]; exact upBack_len (by rw [sa.scr.nb]; exact hm)
      have HM2 : Hid (¬ top = 0 → m2 = m) := fun h => by rw [← s2.nb, ← sa.scr.nb]; unfold upBack; rw [if_neg h]
      have HUR := Lib.hid (upL_rows (f := top) (t := bot + 1) (k := k) (x := (W : Int)) HL.out)
      have HUB := Lib.hid (upBack_rows (f := top) (k := k) HL.out HLB.out)
      have HUL := Lib.hid (upL_len (W : Int) HN.out (show top + k ≤ bot + 1 by omega) (show bot + 1 ≤ n by omega))
      have HVL := Lib.hid (downL_len (W : Int) HUL.out (show top + k ≤ bot + 1 by omega) (show bot + 1 ≤ n by omega))
      have HUA := Lib.hid (fun y => upL_at (W : Int) HN.out (show top + k ≤ bot + 1 by omega) (show bot + 1 ≤ n by omega) y)
      have HVA := Lib.hid (fun y => again_at (W : Int) HN.out (show top + k ≤ bot + 1 by omega) (show bot + 1 ≤ n by omega) y)
      generalize upBack L Bk top k = Uk at *
      obtain ⟨V, hV⟩ : ∃ V, downL (upL L top (bot + 1) k (W : Int)) top (bot + 1) k (W : Int) = V := ⟨_, rfl⟩
      have HV := Lib.hid hV
      rw [hV] at HVL HVA
      obtain ⟨U, hU⟩ : ∃ U, upL L top (bot + 1) k (W : Int) = U := ⟨_, rfl⟩
      rw [hU] at HUR HUL HUA HV s2
      clear hV hU
      have HVR : Hid (∀ r ∈ V, r.length ≤ 1000) := by
        show ∀ r ∈ V, r.length ≤ 1000
        rw [← HV.out]
        exact downL_rows HUR.out
      refine wp_world (T2 w G w2.heap.size p D E D2 E2 n c m d c2 m2 d2 L Bk U Uk) ⟨(sa.box.below hb2 sa.box.lt).alloc _, Box.new _ p _ _, sa.scr.below (hb2.alloc hb2.size _) (Nat.le_refl _), (s2.weak (Nat.zero_le _)).below ((Below.refl _ _).alloc (Nat.le_refl _) _) (Nat.le_refl _), (sa.below.trans (hb2.mono sa.below.size)).alloc (Nat.le_trans sa.below.size hb2.size) _⟩ ?_
      clear sa s2 hb2 x1 HU
      generalize w2.heap.size = H at *
      rintro wb tb
      have HD := Lib.hid (down_nat p D2 E2 n c2 m2 d2 U Uk top bot s wb tb.su htb hbn (by omega) hm2 HUR.out HUB.out)
      rw [hk, HPW.out, HV.out] at HD
      have x2 := tb.u
      go_upto_region 7 with (first
      | (with_reducible refine wpList_loadB x2 (x := .tmp 12) ?_ ?_ ?_ ?_
         · with_reducible rfl
         · rfl
         · rfl)
      | (with_reducible refine wpList_storeB (x := .tmp 13) (y := .tmp 47) (p := p) (D := D3) (E := E3) (n := n) (c := c3) (m := m2) (d := d3) ?_ ?_ ?_ ?_ ?_ ?_
         · with_reducible rfl
         · rfl
         · rfl
         · rfl
         · rfl)
      | (go_at_call 8
         refine HD.out.mono ?_
         rintro e w3 ⟨D3, E3, n3, c3, m3, d3, rfl, s3, hb3⟩
         have hn3 : n = n3 := by rw [← s3.nr]; exact HVL.out.symm
         subst hn3
         have hm3 : m2 = m3 := by rw [← s3.nb]; exact tb.su.nb.symm
         subst hm3))
      try dsimp only [Act.put]
      refine wp_world (T3 w G H w3.heap.size p D E D2 E2 D3 E3 n c m d c2 m2 d2 c3 d3 L U V) ⟨(tb.g.below hb3 tb.g.lt).alloc _, (tb.u.below hb3 tb.u.lt).alloc _, Box.new _ p _ _, tb.sg.rows.below (hb3.alloc hb3.size _) (Nat.le_refl _), tb.su.rows.below (hb3.alloc hb3.size _) (Nat.le_refl _), (s3.rows.weak (Nat.zero_le _)).below ((Below.refl _ _).alloc (Nat.le_refl _) _) (Nat.le_refl _), (tb.below.trans (hb3.mono tb.below.size)).alloc (Nat.le_trans tb.below.size hb3.size) _⟩ ?_
      clear tb s3 hb3 x2 HD
      generalize w3.heap.size = I at *
      rintro wb tb
      go_cut [14] (KRel (T3 w G H I p D E D2 E2 D3 E3 n c m d c2 m2 d2 c3 d3 L U V) k)
      case first =>
        by_cases h : s < bot + 1 - top
        · have h1 : (s : Int) < (bot : Int) - (top : Int) + 1 := by omega
          have h2 : ¬ (bot : Int) - (top : Int) + 1 < (s : Int) := by omega
          go_wp2_with fail
          go_meet
          exact ⟨by rw [← hk]; congr 1; omega, tb⟩
        · by_cases h' : bot + 1 - top < s
          · have h1 : ¬ (s : Int) < (bot : Int) - (top : Int) + 1 := by omega
            have h2 : (bot : Int) - (top : Int) + 1 < (s : Int) := by omega
            go_wp2_with fail
            go_meet
            exact ⟨by rw [← hk]; congr 1; omega, tb⟩
          · have h1 : ¬ (s : Int) < (bot : Int) - (top : Int) + 1 := by omega
            have h2 : ¬ (bot : Int) - (top : Int) + 1 < (s : Int) := by omega
            go_wp2_with fail
            go_meet
            exact ⟨by rw [← hk]; congr 1; omega, tb⟩
      case rest =>
        clear tb
        obtain ⟨rfl, tb⟩ := hcut
        have e1 := tb.g.cells.c1
        rw [hph] at e1
        have u13 := tb.u.cells.c13
        have d13 := tb.d.cells.c13
        go_wp2_with fail
        clear e1 u13 d13
        obtain ⟨gb, go, rfl⟩ : ∃ b o, D = some ⟨b, o, none⟩ := by
          obtain ⟨b, o, _, _, e, _⟩ := tb.lg.at 0 (by rw [HN.out]; omega)
          exact ⟨b, o, e⟩
        obtain ⟨ub, uo, rfl⟩ : ∃ b o, D2 = some ⟨b, o, none⟩ := by
          obtain ⟨b, o, _, _, e, _⟩ := tb.lu.at 0 (by rw [HUL.out]; omega)
          exact ⟨b, o, e⟩
        obtain ⟨db, dq, rfl⟩ : ∃ b o, D3 = some ⟨b, o, none⟩ := by
          obtain ⟨b, o, _, _, e, _⟩ := tb.ld.at 0 (by rw [HVL.out]; omega)
          exact ⟨b, o, e⟩
        have HB : Hid (∀ w, Calls Try.prog 9 #[.int .i64 (W : Int)] w (RowPost w (blankF W))) := fun w => rblank_any W w
        go_loopw [15] (YRel (T3 w G H I p (some ⟨gb, go, none⟩) E (some ⟨ub, uo, none⟩) E2 (some ⟨db, dq, none⟩) E3 n c m d c2 m2 d2 c3 d3 L U V) n) (fun i _ => n + 1 - (intOf i).toNat)
        case atStart => exact ⟨0, rfl, Nat.zero_le _, tb⟩
        case round =>
          clear tb
          obtain ⟨y, rfl, hy, tb⟩ := hrel
          have e1 := tb.g.cells.c1
          rw [hph] at e1
          by_cases hlt : y < n
          · have hyi : (y : Int) < (n : Int) := by omega
            obtain ⟨ly, hly⟩ : ∃ l, L[y]? = some l := ⟨_, List.getElem?_eq_getElem (by rw [HN.out]; exact hlt)⟩
            obtain ⟨_, _, Ey, cy, eD, _, hcy, _, hry⟩ := tb.lg.at? hly
            cases eD
            have y13 := tb.g.cells.c13
            go_upto_region 13 with fail
            go_quiet (fail)
            go_upto_region 14 with fail
            clear y13 hcy e1
            have tc := tb.next (below_drewN (Below.refl _ _) nq)
            have hryq := hry.drewN nq
            clear tb hry
            generalize wr.drewN nq = wd at *
            obtain ⟨bb, hbb⟩ : ∃ bb, decide (top ≤ y ∧ y ≤ bot) = bb := ⟨_, rfl⟩
            go_cut [91] (BRel (fun wr => RowAt 0 wr Ey ly ∧ (T3 w G H I p (some ⟨gb, go, none⟩) E (some ⟨ub, uo, none⟩) E2 (some ⟨db, dq, none⟩) E3 n c m d c2 m2 d2 c3 d3 L U V) wr) bb)
            case first =>
              by_cases h1 : y < top
              · have i1 : ¬ (top : Int) ≤ (y : Int) := by omega
                go_wp2_with fail
                go_meet
                exact ⟨by rw [← hbb, decide_eq_false (by omega)], hryq, tc⟩
              · have i1 : (top : Int) ≤ (y : Int) := by omega
                by_cases h2 : y ≤ bot
                · have i2 : (y : Int) ≤ (bot : Int) := by omega
                  go_wp2_with fail
                  go_meet
                  exact ⟨by rw [← hbb, decide_eq_true (by omega)], hryq, tc⟩
                · have i2 : ¬ (y : Int) ≤ (bot : Int) := by omega
                  go_wp2_with fail
                  go_meet
                  exact ⟨by rw [← hbb, decide_eq_false (by omega)], hryq, tc⟩
            case rest =>
              clear tc hryq
              obtain ⟨rfl, hry, tc⟩ := hcut
              go_upto_if 91 with fail
              go_cut [16, 17] (RowRel (T3 w G H I p (some ⟨gb, go, none⟩) E (some ⟨ub, uo, none⟩) E2 (some ⟨db, dq, none⟩) E3 n c m d c2 m2 d2 c3 d3 L U V) U V y)
              case first =>
                cases bb with
                | false =>
                  have hno : ¬ (top ≤ y ∧ y ≤ bot) := of_decide_eq_false hbb
                  go_wp2_with fail
                  go_meet
                  refine ⟨ly, ly, Ey, Ey, cy, cy, rfl, rfl, hry, hry, ?_, ?_, tc⟩
                  · rw [HUA.out y, if_pos (by omega), hly]
                  · rw [HVA.out y, if_pos (by omega), hly]
                | true =>
                  have hyes : top ≤ y ∧ y ≤ bot := of_decide_eq_true hbb
                  obtain ⟨_, _, Ez, cz, eD, hgbl, hcz, _, hrz⟩ := tc.lg.at? hly
                  cases eD
                  have y0 := tc.g.cells.c0
                  rw [HPW.out] at y0
                  by_cases hA : top + k ≤ y
                  · by_cases hB : y + k ≤ bot
                    · have iA : (top : Int) + (k : Int) ≤ (y : Int) := by omega
                      have iB : (y : Int) + (k : Int) ≤ (bot : Int) := by omega
                      obtain ⟨lk, hlk⟩ : ∃ l, L[y + k]? = some l := ⟨_, List.getElem?_eq_getElem (by rw [HN.out]; omega)⟩
                      obtain ⟨_, _, Ek, ck, eD, _, hck, _, hrk⟩ := tc.lg.at? hlk
                      cases eD
                      have j1 : (0 : Int) ≤ (y : Int) + (k : Int) := by omega
                      have j2 : ((y : Int) + (k : Int)).toNat = y + k := by omega
                      have j3 : (y : Int) + (k : Int) < (n : Int) := by omega
                      have HCK := Lib.hid hck
                      clear hck
                      go_wp2_with (first
                        | (go_at_call 9
                           refine (HB.out wc).mono ?_
                           rintro e w5 ⟨g5, rfl, hg5, hr5, hb5⟩
                           have t5 := tc.next hb5
                           have z0 := t5.g.cells.c0
                           rw [HPW.out] at z0
                           have z13 := t5.g.cells.c13
                           have hcz5 := (hb5.cell (p := ⟨gb, go + y, none⟩) hgbl).trans hcz)
                        | (go_at_call 9
                           refine (HB.out w5).mono ?_
                           rintro e w6 ⟨g6, rfl, hg6, hr6, hb6⟩
                           have t6 := t5.next hb6
                           have v13 := t6.g.cells.c13
                           have hr5' := hr5.below hb6 hr5.lt
                           have hck6 := (hb6.cell (p := ⟨gb, go + (y + k), none⟩) (Nat.lt_of_lt_of_le hgbl hb5.size)).trans ((hb5.cell (p := ⟨gb, go + (y + k), none⟩) hgbl).trans HCK.out)))
                      have b56 : Below wc.heap.size wc w6 := hb5.trans (hb6.mono hb5.size)
                      go_meet
                      refine ⟨lk, ly, Ek, Ez, ck, cz, rfl, rfl, hrk.below b56 (Nat.le_refl _), hrz.below b56 (Nat.le_refl _), ?_, ?_, t6⟩
                      · rw [HUA.out y, if_neg (by omega), if_pos (by omega), hlk]
                      · rw [HVA.out y, if_neg (by omega), if_neg (by omega), hly]
                    · have iA : (top : Int) + (k : Int) ≤ (y : Int) := by omega
                      have iB : ¬ (y : Int) + (k : Int) ≤ (bot : Int) := by omega
                      go_wp2_with (first
                        | (go_at_call 9
                           refine (HB.out wc).mono ?_
                           rintro e w5 ⟨g5, rfl, hg5, hr5, hb5⟩
                           have t5 := tc.next hb5
                           have z0 := t5.g.cells.c0
                           rw [HPW.out] at z0
                           have z13 := t5.g.cells.c13
                           have hcz5 := (hb5.cell (p := ⟨gb, go + y, none⟩) hgbl).trans hcz)
                        | (go_at_call 9
                           refine (HB.out w5).mono ?_
                           rintro e w6 ⟨g6, rfl, hg6, hr6, hb6⟩
                           have t6 := t5.next hb6
                           have v13 := t6.g.cells.c13
                           have hr5' := hr5.below hb6 hr5.lt))
                      have b56 : Below wc.heap.size wc w6 := hb5.trans (hb6.mono hb5.size)
                      go_meet
                      refine ⟨blankF W, ly, _, Ez, _, cz, rfl, rfl, hr6.at (Nat.zero_le _), hrz.below b56 (Nat.le_refl _), ?_, ?_, t6⟩
                      · rw [HUA.out y, if_neg (by omega), if_neg (by omega)]
                      · rw [HVA.out y, if_neg (by omega), if_neg (by omega), hly]
                  · by_cases hB : y + k ≤ bot
                    · have iA : ¬ (top : Int) + (k : Int) ≤ (y : Int) := by omega
                      have iB : (y : Int) + (k : Int) ≤ (bot : Int) := by omega
                      obtain ⟨lk, hlk⟩ : ∃ l, L[y + k]? = some l := ⟨_, List.getElem?_eq_getElem (by rw [HN.out]; omega)⟩
                      obtain ⟨_, _, Ek, ck, eD, _, hck, _, hrk⟩ := tc.lg.at? hlk
                      cases eD
                      have j1 : (0 : Int) ≤ (y : Int) + (k : Int) := by omega
                      have j2 : ((y : Int) + (k : Int)).toNat = y + k := by omega
                      have j3 : (y : Int) + (k : Int) < (n : Int) := by omega
                      have HCK := Lib.hid hck
                      clear hck
                      go_wp2_with (first
                        | (go_at_call 9
                           refine (HB.out wc).mono ?_
                           rintro e w5 ⟨g5, rfl, hg5, hr5, hb5⟩
                           have t5 := tc.next hb5
                           have z0 := t5.g.cells.c0
                           rw [HPW.out] at z0
                           have z13 := t5.g.cells.c13
                           have hcz5 := (hb5.cell (p := ⟨gb, go + y, none⟩) hgbl).trans hcz)
                        | (go_at_call 9
                           refine (HB.out w5).mono ?_
                           rintro e w6 ⟨g6, rfl, hg6, hr6, hb6⟩
                           have t6 := t5.next hb6
                           have v13 := t6.g.cells.c13
                           have hr5' := hr5.below hb6 hr5.lt
                           have hck6 := (hb6.cell (p := ⟨gb, go + (y + k), none⟩) (Nat.lt_of_lt_of_le hgbl hb5.size)).trans ((hb5.cell (p := ⟨gb, go + (y + k), none⟩) hgbl).trans HCK.out)))
                      have b56 : Below wc.heap.size wc w6 := hb5.trans (hb6.mono hb5.size)
                      go_meet
                      refine ⟨lk, blankF W, Ek, _, ck, _, rfl, rfl, hrk.below b56 (Nat.le_refl _), hr5'.at (Nat.zero_le _), ?_, ?_, t6⟩
                      · rw [HUA.out y, if_neg (by omega), if_pos (by omega), hlk]
                      · rw [HVA.out y, if_neg (by omega), if_pos (by omega)]
                    · have iA : ¬ (top : Int) + (k : Int) ≤ (y : Int) := by omega
                      have iB : ¬ (y : Int) + (k : Int) ≤ (bot : Int) := by omega
                      go_wp2_with (first
                        | (go_at_call 9
                           refine (HB.out wc).mono ?_
                           rintro e w5 ⟨g5, rfl, hg5, hr5, hb5⟩
                           have t5 := tc.next hb5
                           have z0 := t5.g.cells.c0
                           rw [HPW.out] at z0
                           have z13 := t5.g.cells.c13
                           have hcz5 := (hb5.cell (p := ⟨gb, go + y, none⟩) hgbl).trans hcz)
                        | (go_at_call 9
                           refine (HB.out w5).mono ?_
                           rintro e w6 ⟨g6, rfl, hg6, hr6, hb6⟩
                           have t6 := t5.next hb6
                           have v13 := t6.g.cells.c13
                           have hr5' := hr5.below hb6 hr5.lt))
                      have b56 : Below wc.heap.size wc w6 := hb5.trans (hb6.mono hb5.size)
                      go_meet
                      refine ⟨blankF W, blankF W, _, _, _, _, rfl, rfl, hr6.at (Nat.zero_le _), hr5'.at (Nat.zero_le _), ?_, ?_, t6⟩
                      · rw [HUA.out y, if_neg (by omega), if_neg (by omega)]
                      · rw [HVA.out y, if_neg (by omega), if_pos (by omega)]
              case rest =>
                clear tc hry
                obtain ⟨lu, ld, Du, Dd, cu, cd, rfl, rfl, hru, hrd, hU, hV, tc⟩ := hcut
                have hlu : lu.length ≤ 100000 := Nat.le_trans (HUR.out lu (List.mem_of_getElem? hU)) (by decide)
                have hld : ld.length ≤ 100000 := Nat.le_trans (HVR.out ld (List.mem_of_getElem? hV)) (by decide)
                obtain ⟨_, _, Eu, cu', eD, _, hcu, _, hru'⟩ := tc.lu.at? hU
                cases eD
                obtain ⟨_, _, Ed, cd', eD, _, hcd, _, hrd'⟩ := tc.ld.at? hV
                cases eD
                have HSU := Lib.hid (sameRow_any Eu Du cu' cu lu wc hru' hru hlu)
                have HSD := Lib.hid (fun m => sameRow_any Ed Dd cd' cd ld (wc.drewN m) (hrd'.drewN m) (hrd.drewN m) hld)
                have u13 := tc.u.cells.c13
                have d13 := tc.d.cells.c13
                clear hru hrd hru' hrd' hlu hld
                go_wp2_with (first
                  | (go_at_call 10
                     (with_reducible refine HSU.out.mono ?_)
                     rintro e w5 ⟨rfl, m5, rfl⟩)
                  | (go_at_call 10
                     (with_reducible refine (HSD.out _).mono ?_)
                     rintro e w6 ⟨rfl, m6, rfl⟩))
                go_roundw
                case rel => exact ⟨y + 1, by go_num, by omega, tc.next (below_drewN (Below.refl _ _) _)⟩
                case measure => simp [intOf]; omega
          · have hyi : ¬ (y : Int) < (n : Int) := by omega
            go_upto_region 23 with fail
            clear e1
            have g2 := tb.g.cells.c2
            have g3 := tb.g.cells.c3
            have g14 := tb.g.cells.c14
            have u14 := tb.u.cells.c14
            have d2' := tb.d.cells.c2
            have d3' := tb.d.cells.c3
            have d14 := tb.d.cells.c14
            have ql : (m2 == m2) = true := beq_self_eq_true _
            by_cases ht0 : top = 0
            · subst ht0
              go_wp2_with (go_at_call 11; refine (awake_any _).mono ?_; rintro e w9 ⟨rfl, hb9⟩)
              go_ret
              exact ⟨rfl, tb.below.trans (hb9.mono tb.below.size)⟩
            · have hti : ¬ (top : Int) = 0 := by omega
              have htb' : ((top : Int) == 0) = false := beq_eq_false_iff_ne.2 hti
              obtain rfl := HM2.out ht0
              go_wp2_with (go_at_call 11; refine (awake_any _).mono ?_; rintro e w9 ⟨rfl, hb9⟩)
              go_ret
              exact ⟨rfl, tb.below.trans (hb9.mono tb.below.size)⟩
end Go.Proofs.Ytjgdabbcbfhijaa
