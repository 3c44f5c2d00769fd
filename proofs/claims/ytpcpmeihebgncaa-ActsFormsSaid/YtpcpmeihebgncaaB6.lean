/-
  That the document's Same answers true of a screen and its equal. Conditions: at most a thousand rows, and fifty lines that went, of at most a thousand cells.
-/
import Derived.Test.YtpcpmeihebgncaaB3
import Derived.Test.YtpcpmeihebgncaaB2
import Derived.Deep.RegionHeld3
import Derived.Deep.Cut
import Derived.Deep.DeepCutAuto
import Derived.ChangeKeysEq
namespace Go.Proofs.Ytpcpmeihebgncaa
open Go.RowKit
set_option maxRecDepth 100000

theorem Quiet.below {b : Bool} {w : World} {e : Ending} {w' : World} (h : Quiet b w e w') : e = .returned (.bool b) ∧ Below w.heap.size w w' := by
  obtain ⟨rfl, m, rfl⟩ := h
  exact ⟨rfl, below_drewN (Below.refl _ _) m⟩
def TrueBelow (w : World) (e : Ending) (w' : World) : Prop := e = .returned (.bool true) ∧ Below w.heap.size w w'

set_option maxHeartbeats 4000000 in
theorem rsame_any (p : Nm) (D E D' E' : Option Addr) (n c m d c' d' : Nat) (L Bk : List (List C)) (w : World) (h1 : Scr 0 w D E n c m d L Bk) (h2 : Scr 0 w D' E' n c' m d' L Bk) (hn : n ≤ 1000) (hm : m ≤ 1000) (hl : ∀ r ∈ L, r.length ≤ 1000) (hlb : ∀ r ∈ Bk, r.length ≤ 1000) :
    Calls Try.prog 15 #[gv p (.slice D n c) (.slice E m d), gv p (.slice D' n c') (.slice E' m d')] w (TrueBelow w) := by
  have HS := Lib.hid (show Box ((w.alloc (.cells (gcs p (.slice D n c) (.slice E m d)) 35)).alloc (.cells (gcs p (.slice D' n c') (.slice E' m d')) 35)) w.heap.size p (.slice D n c) (.slice E m d) ∧ Box ((w.alloc (.cells (gcs p (.slice D n c) (.slice E m d)) 35)).alloc (.cells (gcs p (.slice D' n c') (.slice E' m d')) 35)) (w.heap.size + 1) p (.slice D' n c') (.slice E' m d') ∧ Below w.heap.size w ((w.alloc (.cells (gcs p (.slice D n c) (.slice E m d)) 35)).alloc (.cells (gcs p (.slice D' n c') (.slice E' m d')) 35)) from
    ⟨(Box.new w p _ _).alloc _, by have := Box.new (w.alloc (.cells (gcs p (.slice D n c) (.slice E m d)) 35)) p (.slice D' n c') (.slice E' m d'); simpa using this, ((Below.refl _ _).alloc (Nat.le_refl _) _).alloc (by simp) _⟩)
  have HA : Hid (∀ wx, Below w.heap.size w wx → Calls Try.prog 23 #[.slice D n c, .slice D' n c'] wx (Quiet true wx)) := fun wx hb => by
    have := sameRows_any D D' c c' L wx (h1.rows.below hb (Nat.le_refl _)) (h2.rows.below hb (Nat.le_refl _)) (by rw [h1.nr]; omega) hl
    rwa [h1.nr] at this
  have HB : Hid (∀ wx, Below w.heap.size w wx → Calls Try.prog 23 #[.slice E m d, .slice E' m d'] wx (Quiet true wx)) := fun wx hb => by
    have := sameRows_any E E' d d' Bk wx (h1.back.below hb (Nat.le_refl _)) (h2.back.below hb (Nat.le_refl _)) (by rw [h1.nb]; omega) hlb
    rwa [h1.nb] at this
  clear h1 h2 hl hlb
  unfold gv gcs
  go_enter Try.func15, Try.ntmps15
  go_wp2_with (first
    | (go_at_call 23
       refine (HA.out _ HS.out.2.2).mono ?_
       clear HA
       rintro e w3 hq3
       obtain ⟨rfl, b3⟩ := hq3.below
       have x3 := HS.out.1.below b3 HS.out.1.lt
       have z3 := HS.out.2.1.below b3 HS.out.2.1.lt
       have u14 := x3.cells.c14
       have v14 := z3.cells.c14
       have b4 := HS.out.2.2.trans (b3.mono HS.out.2.2.size)
       clear b3 x3 z3 hq3)
    | (go_at_call 23
       refine (HB.out _ b4).mono ?_
       rintro e w5 hq5
       obtain ⟨rfl, b50⟩ := hq5.below
       have b5 := b4.trans (b50.mono b4.size)
       clear hq5))
  go_ret
  exact ⟨rfl, b5⟩
end Go.Proofs.Ytpcpmeihebgncaa

/-
  slices.Equal, slices.EqualFunc and sameLines of package grid, of equal rows and of rows whose first runes differ. Conditions: at most a hundred thousand rows of at most a thousand cells.
-/
namespace Go.Proofs.Ytpcpmeihebgncaa
open Go.RowKit
set_option maxRecDepth 100000

set_option maxHeartbeats 400000 in
theorem equal_true (D E : Option Addr) (c d : Nat) (l : List C) (w : World) (h1 : RowAt 0 w D l) (h2 : RowAt 0 w E l) (hn : l.length ≤ 100000) : Calls Try.prog 151 #[.slice D l.length c, .slice E l.length d] w (Quiet true w) := by
  have H1 := Lib.hid h1
  have H2 := Lib.hid h2
  clear h1 h2
  go_enter Try.func151, Try.ntmps151
  go_wp2_with fail
  go_loopw [13] (QRel w l.length) (fun i _ => l.length - (intOf i).toNat)
  case atStart => exact ⟨0, rfl, Nat.zero_le _, 0, rfl⟩
  case round =>
    obtain ⟨k, rfl, hle, m, hm⟩ := hrel
    by_cases hlt : k < l.length
    · have hki : (k : Int) < (l.length : Int) := by omega
      obtain ⟨rb, ro, rfl, _, _, _, y0, y1⟩ := (H1.out.drewN m) k hlt
      obtain ⟨wb, wo, rfl, _, _, _, z0, z1⟩ := (H2.out.drewN m) k hlt
      rw [← hm] at y0 y1 z0 z1
      have HM := Lib.hid hm
      clear hm
      generalize l[k] = z at y0 y1 z0 z1
      obtain ⟨zr, za⟩ := z
      go_wp2_with fail
      go_quiet (fail)
      go_wp2_with fail
      go_roundw
      case rel => exact ⟨k + 1, by go_num, by omega, _, by rw [HM.out, World.drewN_drewN]⟩
      case measure => simp [intOf]; omega
    · have hki : ¬ (k : Int) < (l.length : Int) := by omega
      have HM := Lib.hid hm
      clear hm
      go_wp2_with fail
      go_ret
      exact ⟨rfl, m, HM.out⟩
set_option maxHeartbeats 400000 in
theorem equal_false (D E : Option Addr) (c d : Nat) (x y : C) (l r : List C) (w : World) (h1 : RowAt 0 w D (x :: l)) (h2 : RowAt 0 w E (y :: r)) (hne : ¬ x.r = y.r) (hn : l.length ≤ 100000) :
    Calls Try.prog 151 #[.slice D (l.length + 1) c, .slice E (l.length + 1) d] w (Quiet false w) := by
  obtain ⟨rb, ro, rfl, _, _, _, y0, y1⟩ := h1 0 (by simp)
  obtain ⟨wb, wo, rfl, _, _, _, z0, z1⟩ := h2 0 (by simp)
  simp only [List.getElem_cons_zero, Nat.zero_mul, Nat.add_zero] at y0 y1 z0 z1
  obtain ⟨xr, xa⟩ := x
  obtain ⟨yr, ya⟩ := y
  dsimp only at *
  clear h1 h2
  have hb : (xr == yr) = false := beq_eq_false_iff_ne.2 hne
  have hz : (0 : Int) < (l.length : Int) + 1 := by omega
  have hzn : 0 < l.length + 1 := by omega
  go_enter Try.func151, Try.ntmps151
  go_wp2_with fail
  go_loopw [13] (fun i wr => i = .int .i64 0 ∧ w = wr) (fun _ _ => 0)
  case atStart => exact ⟨rfl, rfl⟩
  case round =>
    obtain ⟨rfl, rfl⟩ := hrel
    go_wp2_with fail
    go_quiet (fail)
    go_wp2_with fail
    go_ret
    exact ⟨rfl, _, rfl⟩

def fnV : Value := .func (.func 150) #[] #[]
set_option maxHeartbeats 400000 in
theorem eqLit_true (D E : Option Addr) (c d : Nat) (l : List C) (w : World) (h1 : RowAt 0 w D l) (h2 : RowAt 0 w E l) (hn : l.length ≤ 100000) : Calls Try.prog 150 #[.slice D l.length c, .slice E l.length d] w (Quiet true w) := by
  have H := Lib.hid (equal_true D E c d l w h1 h2 hn)
  clear h1 h2
  go_enter Try.func150, Try.ntmps150
  go_wp2_with (go_at_call 151; refine H.out.mono ?_; rintro e w' ⟨rfl, m, hm⟩; have HM := Lib.hid hm; clear hm)
  go_ret
  exact ⟨rfl, m, HM.out⟩
set_option maxHeartbeats 400000 in
theorem eqLit_false (D E : Option Addr) (c d : Nat) (x y : C) (l r : List C) (w : World) (h1 : RowAt 0 w D (x :: l)) (h2 : RowAt 0 w E (y :: r)) (hne : ¬ x.r = y.r) (hn : l.length ≤ 100000) :
    Calls Try.prog 150 #[.slice D (l.length + 1) c, .slice E (l.length + 1) d] w (Quiet false w) := by
  have H := Lib.hid (equal_false D E c d x y l r w h1 h2 hne hn)
  clear h1 h2
  go_enter Try.func150, Try.ntmps150
  go_wp2_with (go_at_call 151; refine H.out.mono ?_; rintro e w' ⟨rfl, m, hm⟩; have HM := Lib.hid hm; clear hm)
  go_ret
  exact ⟨rfl, m, HM.out⟩

set_option maxHeartbeats 400000 in
theorem eqf_true (D E : Option Addr) (c d : Nat) (L : List (List C)) (w : World) (h1 : Lines 0 w D L) (h2 : Lines 0 w E L) (hn : L.length ≤ 100000) (hl : ∀ r ∈ L, r.length ≤ 1000) : Calls Try.prog 149 #[.slice D L.length c, .slice E L.length d, fnV] w (Quiet true w) := by
  unfold fnV
  have H1 := Lib.hid h1
  have H2 := Lib.hid h2
  clear h1 h2
  go_enter Try.func149, Try.ntmps149
  go_wp2_with fail
  go_loopw [17] (QRel w L.length) (fun i _ => L.length - (intOf i).toNat)
  case atStart => exact ⟨0, rfl, Nat.zero_le _, 0, rfl⟩
  case round =>
    obtain ⟨k, rfl, hle, m, hm⟩ := hrel
    by_cases hlt : k < L.length
    · have hki : (k : Int) < (L.length : Int) := by omega
      obtain ⟨rb, ro, R, rc, rfl, _, _, _, y0, _, hr1⟩ := (H1.out.drewN m).at k hlt
      obtain ⟨wb, wo, S, sc, rfl, _, _, _, z0, _, hr2⟩ := (H2.out.drewN m).at k hlt
      rw [← hm] at y0 z0 hr1 hr2
      have HM := Lib.hid hm
      have HQ := Lib.hid (eqLit_true R S rc sc L[k] wr hr1 hr2 (by have := hl _ (List.getElem_mem hlt); omega))
      clear hm hr1 hr2
      generalize L[k] = z at *
      go_wp2_with (go_at_call 150; refine HQ.out.mono ?_; rintro e w' ⟨rfl, m', hm'⟩; have HM' := Lib.hid hm'; clear hm')
      go_roundw
      case rel => exact ⟨k + 1, by go_num, by omega, _, by rw [HM'.out, HM.out, World.drewN_drewN]⟩
      case measure => simp [intOf]; omega
    · have hki : ¬ (k : Int) < (L.length : Int) := by omega
      have HM := Lib.hid hm
      clear hm
      go_wp2_with fail
      go_ret
      exact ⟨rfl, m, HM.out⟩
set_option maxHeartbeats 400000 in
theorem eqf_false (D E : Option Addr) (c d : Nat) (x y : C) (l r : List C) (L M : List (List C)) (w : World) (h1 : Lines 0 w D ((x :: l) :: L)) (h2 : Lines 0 w E ((y :: r) :: M)) (hn : L.length ≤ 100000) (hr : r.length = l.length) (hne : ¬ x.r = y.r) (hl : l.length ≤ 1000) :
    Calls Try.prog 149 #[.slice D (L.length + 1) c, .slice E (L.length + 1) d, fnV] w (Quiet false w) := by
  unfold fnV
  obtain ⟨rb, ro, R, rc, rfl, _, _, _, y0, _, hr1⟩ := h1.at 0 (by simp)
  obtain ⟨wb, wo, S, sc, rfl, _, _, _, z0, _, hr2⟩ := h2.at 0 (by simp)
  have HQ := Lib.hid (eqLit_false R S rc sc x y l r w hr1 hr2 hne (by omega))
  simp only [List.getElem_cons_zero, List.length_cons, Nat.add_zero, hr] at y0 z0
  clear h1 h2 hr1 hr2 hr
  have hz : (0 : Int) < (L.length : Int) + 1 := by omega
  have hzn : 0 < L.length + 1 := by omega
  go_enter Try.func149, Try.ntmps149
  go_wp2_with fail
  go_loopw [17] (fun i wr => i = .int .i64 0 ∧ w = wr) (fun _ _ => 0)
  case atStart => exact ⟨rfl, rfl⟩
  case round =>
    obtain ⟨rfl, rfl⟩ := hrel
    go_wp2_with (go_at_call 150; refine HQ.out.mono ?_; rintro e w' ⟨rfl, m', hm'⟩; have HM' := Lib.hid hm'; clear hm')
    go_ret
    exact ⟨rfl, _, HM'.out⟩
set_option maxHeartbeats 400000 in
theorem sameLines_true (D E : Option Addr) (c d : Nat) (L : List (List C)) (w : World) (h1 : Lines 0 w D L) (h2 : Lines 0 w E L) (hn : L.length ≤ 100000) (hl : ∀ r ∈ L, r.length ≤ 1000) : Calls Try.prog 132 #[.slice D L.length c, .slice E L.length d] w (Quiet true w) := by
  have H := Lib.hid (eqf_true D E c d L w h1 h2 hn hl)
  clear h1 h2
  go_enter Try.func132, Try.ntmps132
  go_wp2_with (go_at_call 149; refine H.out.mono ?_; rintro e w' ⟨rfl, m, hm⟩; have HM := Lib.hid hm; clear hm)
  go_ret
  exact ⟨rfl, m, HM.out⟩
set_option maxHeartbeats 400000 in
theorem sameLines_false (D E : Option Addr) (c d : Nat) (x y : C) (l r : List C) (L M : List (List C)) (w : World) (h1 : Lines 0 w D ((x :: l) :: L)) (h2 : Lines 0 w E ((y :: r) :: M)) (hn : L.length ≤ 100000) (hr : r.length = l.length) (hne : ¬ x.r = y.r) (hl : l.length ≤ 1000) :
    Calls Try.prog 132 #[.slice D (L.length + 1) c, .slice E (L.length + 1) d] w (Quiet false w) := by
  have H := Lib.hid (eqf_false D E c d x y l r L M w h1 h2 hn hr hne hl)
  clear h1 h2 hr
  go_enter Try.func132, Try.ntmps132
  go_wp2_with (go_at_call 149; refine H.out.mono ?_; rintro e w' ⟨rfl, m, hm⟩; have HM := Lib.hid hm; clear hm)
  go_ret
  exact ⟨rfl, m, HM.out⟩

end Go.Proofs.Ytpcpmeihebgncaa

/-
  What Resize of package grid answers. Conditions: at most fifty lines that went, of at most a thousand cells.
-/
namespace Go.Proofs.Ytpcpmeihebgncaa
open Go.RowKit
set_option maxRecDepth 100000

theorem side_nat7 (y : Int) : ∃ h : Nat, sideF y = h ∧ 1 ≤ h ∧ h ≤ 1000 := ⟨(sideF y).toNat, by unfold sideF; omega, by unfold sideF; omega, by unfold sideF; omega⟩
structure RS (w : World) (p : Nm) (r b : Value) (D : Option Addr) (L : List (List C)) (p' : Nm) (rv : Value) (wx : World) : Prop where
  box : Box wx w.heap.size p r b
  ans : Box wx (w.heap.size + 1) zeroNm nilV nilV
  out : Box wx (w.heap.size + 1 + 1) p' rv b
  rows : Lines (w.heap.size + 1 + 1 + 1) wx D L
  below : Below w.heap.size w wx
theorem RS.far {w : World} {p : Nm} {r b : Value} {D : Option Addr} {L : List (List C)} {p' q : Nm} {rv : Value} {wx : World} (h : RS w p r b D L p' rv wx) {o : Nat} {v : Value} (hq : Box (wx.setCell ⟨w.heap.size + 1 + 1, o, none⟩ v) (w.heap.size + 1 + 1) q rv b) : RS w p r b D L q rv (wx.setCell ⟨w.heap.size + 1 + 1, o, none⟩ v) :=
  ⟨h.box.far (q := ⟨w.heap.size + 1 + 1, o, none⟩) (by exact (by omega : w.heap.size ≠ w.heap.size + 1 + 1)) _, h.ans.far (q := ⟨w.heap.size + 1 + 1, o, none⟩) (by exact (by omega : w.heap.size + 1 ≠ w.heap.size + 1 + 1)) _, hq, h.rows.far (p := ⟨w.heap.size + 1 + 1, o, none⟩) (by exact (by omega : w.heap.size + 1 + 1 < w.heap.size + 1 + 1 + 1)) _,
    h.below.setCell (p := ⟨w.heap.size + 1 + 1, o, none⟩) (by exact (by omega : w.heap.size ≤ w.heap.size + 1 + 1)) _⟩
theorem RS.drew {w : World} {p : Nm} {r b : Value} {D : Option Addr} {L : List (List C)} {p' : Nm} {rv : Value} {wx : World} (h : RS w p r b D L p' rv wx) : RS w p r b D L p' rv wx.drew := ⟨h.box, h.ans, h.out, h.rows.below (below_drewN (Below.refl _ _) 1) (Nat.le_refl _), below_drewN h.below 1⟩
/-- The numbers of a screen that is made x by y. -/
def sizedNm (p : Nm) (x y : Int) : Nm := ⟨x, y, withinF p.x (x - 1), withinF p.y (y - 1), false, p.a, 0, y - 1, withinF p.sx (x - 1), withinF p.sy (y - 1), p.sa, p.noWrap, p.hidden⟩

set_option maxRecDepth 100000 in
set_option maxHeartbeats 4000000 in
theorem gresize_any (p : Nm) (D E : Option Addr) (n c m d : Nat) (L Bk : List (List C)) (x0 y0 : Int) (w : World) (hs : Scr 0 w D E n c m d L Bk) (hm : m ≤ 50) (hlb : ∀ r ∈ Bk, r.length ≤ 1000) :
    Calls Try.prog 44 #[gv p (.slice D n c) (.slice E m d), .int .i64 x0, .int .i64 y0] w (GridPost w (sizedNm p (sideF x0) (sideF y0)) (fittedF L (sideF x0) (sideF y0).toNat) Bk) := by
  obtain ⟨x, hx, hx0, hx1⟩ := side_nat7 x0
  have HX : Hid (∀ w, Calls Try.prog 87 #[.int .i64 x0] w fun e w' => e = .returned (.int .i64 x) ∧ w = w') := fun w => by rw [← hx]; exact side_any x0 w
  obtain ⟨y, hy, hy0, hy1⟩ := side_nat7 y0
  have HY : Hid (∀ w, Calls Try.prog 87 #[.int .i64 y0] w fun e w' => e = .returned (.int .i64 y) ∧ w = w') := fun w => by rw [← hy]; exact side_any y0 w
  rw [hx, hy, Int.toNat_natCast]
  clear hx hy
  have HF : Hid (∀ w', Below w.heap.size w w' → Calls Try.prog 90 #[.slice D n c, .int .i64 x, .int .i64 y] w' (LinesPost w' (fittedF L x y))) := fun w' hb => by
    rw [← hs.nr]
    exact fitted_any D c L x y w' (hs.rows.below hb (Nat.le_refl _)) (by omega)
  have HO : Hid (∀ w', Below w.heap.size w w' → Calls Try.prog 92 #[.slice E m d] w' (LinesPost w' Bk)) := fun w' hb => by
    rw [← hs.nb]
    exact own_any E d Bk w' (hs.back.below hb (Nat.le_refl _)) (by rw [hs.nb]; omega) hlb
  have HLN := Lib.hid (fittedF_len L x y)
  generalize fittedF L x y = M at *
  clear hs
  unfold gv gcs
  go_enter Try.func44, Try.ntmps44
  go_upto_region 3 with (go_at_call 87; (first | refine (HX.out _).mono ?_ | refine (HY.out _).mono ?_); rintro e w' ⟨rfl, rfl⟩)
  refine wp_world (fun wq => Box wq w.heap.size p (.slice D n c) (.slice E m d) ∧ Box wq (w.heap.size + 1) zeroNm nilV nilV ∧ Box wq (w.heap.size + 1 + 1) { p with w := x, h := y } (.slice D n c) (.slice E m d) ∧ Below w.heap.size w wq) ⟨?_, ?_, ?_, ?_⟩ ?_
  · exact ((Box.new w p _ _).alloc _).alloc _
  · have := (Box.new (w.alloc (.cells (gcs p (.slice D n c) (.slice E m d)) 35)) zeroNm nilV nilV).alloc (.cells (gcs { p with w := (x : Int), h := (y : Int) } (.slice D n c) (.slice E m d)) 35)
    rw [World.size_alloc] at this
    exact this
  · have := Box.new ((w.alloc (.cells (gcs p (.slice D n c) (.slice E m d)) 35)).alloc (.cells (gcs zeroNm nilV nilV) 35)) { p with w := (x : Int), h := (y : Int) } (.slice D n c) (.slice E m d)
    rw [World.size_alloc, World.size_alloc] at this
    exact this
  · exact (((Below.refl _ _).alloc (Nat.le_refl _) _).alloc (by simp) _).alloc (by simp; omega) _
  rintro wq ⟨q1, q2, q3, bq⟩
  have y13 := q1.cells.c13
  have z0 := q3.cells.c0
  have z1 := q3.cells.c1
  dsimp only at z0 z1
  have hz1 := q1.lt
  have hz2 := q2.lt
  have hz3 := q3.lt
  go_upto_region 4 with (
    go_at_call 90
    refine (HF.out _ bq).mono ?_
    rintro e w1 ⟨g1, rfl, l1, hb1⟩
    have z13 := (q3.below hb1 hz3).cells.c13
    have zf := (q3.below hb1 hz3).cells.free)
  have rs : RS w p (.slice D n c) (.slice E m d) (some ⟨g1, 0, none⟩) M { p with w := x, h := y } (.slice (some ⟨g1, 0, none⟩) M.length M.length) (w1.setCell ⟨w.heap.size + 1 + 1, 13, none⟩ (.slice (some ⟨g1, 0, none⟩) M.length M.length)) :=
    ⟨(q1.below hb1 hz1).far (q := ⟨w.heap.size + 1 + 1, 13, none⟩) (by exact (by omega : w.heap.size ≠ w.heap.size + 1 + 1)) _, (q2.below hb1 hz2).far (q := ⟨w.heap.size + 1 + 1, 13, none⟩) (by exact (by omega : w.heap.size + 1 ≠ w.heap.size + 1 + 1)) _, (q3.below hb1 hz3).set_rows _,
      (l1.weak (by omega)).far (p := ⟨w.heap.size + 1 + 1, 13, none⟩) (by exact (by omega : w.heap.size + 1 + 1 < w.heap.size + 1 + 1 + 1)) _, (bq.trans (hb1.mono bq.size)).setCell (p := ⟨w.heap.size + 1 + 1, 13, none⟩) (by exact (by omega : w.heap.size ≤ w.heap.size + 1 + 1)) _⟩
  clear y13 z0 z1 z13 zf q1 q2 q3 bq hb1 l1 hz1 hz2 hz3
  generalize (w1.setCell ⟨w.heap.size + 1 + 1, 13, none⟩ (.slice (some ⟨g1, 0, none⟩) M.length M.length)) = w2 at *
  have rsd := rs.drew
  have rs1q := rs.far (rs.out.set_x (withinF p.x ((x : Int) - 1)))
  have rs1 := rs1q.drew
  have rs2 := (rs1q.far (rs1q.out.set_y (withinF p.y ((y : Int) - 1)))).drew
  have u0 := rsd.box.cells.c2
  have u1 := rsd.box.cells.c3
  have u2 := rsd.out.cells.c0
  have u3 := rsd.out.cells.c1
  have u4 := rsd.out.cells.c2
  have uf := rsd.out.cells.free
  have v0 := rs1.box.cells.c2
  have v1 := rs1.box.cells.c3
  have v2 := rs1.out.cells.c0
  have v3 := rs1.out.cells.c1
  have v4 := rs1.out.cells.c3
  have vf := rs1.out.cells.free
  have t0 := rs2.box.cells.c2
  have t1 := rs2.box.cells.c3
  have t2 := rs2.out.cells.c0
  have t3 := rs2.out.cells.c1
  dsimp only at u0 u1 u2 u3 u4 v0 v1 v2 v3 v4 t0 t1 t2 t3
  have s1 : IntKind.i64.wrap ((x : Int) - 1) = (x : Int) - 1 := IntWalk.i64_in _ (by omega)
  have s2 : IntKind.i64.wrap ((y : Int) - 1) = (y : Int) - 1 := IntWalk.i64_in _ (by omega)
  go_region_held3 (fun w' => w'.cell? ⟨w.heap.size, 2, none⟩ = some (.int .i64 p.x) ∧ w'.cell? ⟨w.heap.size, 3, none⟩ = some (.int .i64 p.y) ∧ w'.cell? ⟨w.heap.size + 1 + 1, 0, none⟩ = some (.int .i64 x) ∧ w'.cell? ⟨w.heap.size + 1 + 1, 1, none⟩ = some (.int .i64 y))
    (first
      | with_reducible exact ⟨u0, u1, u2, u3⟩
      | with_reducible exact ⟨v0, v1, v2, v3⟩
      | with_reducible exact ⟨t0, t1, t2, t3⟩
      | fail)
    ((go_at_call 91
      (with_reducible refine (gwithin_any _ _ _).mono ?_)
      rintro e w' ⟨rfl, rfl⟩))
  clear u0 u1 u2 u3 u4 uf v0 v1 v2 v3 v4 vf t0 t1 t2 t3 s1 s2 rs1 rs1q rsd
  generalize (((w2.setCell ⟨w.heap.size + 1 + 1, 2, none⟩ (.int .i64 (withinF p.x ((x : Int) - 1)))).setCell ⟨w.heap.size + 1 + 1, 3, none⟩ (.int .i64 (withinF p.y ((y : Int) - 1)))).drew) = w3 at *
  clear rs
  go_wp2_with fail
  have rs2d := rs2.drew
  have rs21q := rs2.far (rs2.out.set_sx (withinF p.sx ((x : Int) - 1)))
  have rs21 := rs21q.drew
  have rs3 := (rs21q.far (rs21q.out.set_sy (withinF p.sy ((y : Int) - 1)))).drew
  have u0 := rs2d.box.cells.c8
  have u1 := rs2d.box.cells.c9
  have u2 := rs2d.out.cells.c0
  have u3 := rs2d.out.cells.c1
  have u4 := rs2d.out.cells.c8
  have uf := rs2d.out.cells.free
  have v0 := rs21.box.cells.c8
  have v1 := rs21.box.cells.c9
  have v2 := rs21.out.cells.c0
  have v3 := rs21.out.cells.c1
  have v4 := rs21.out.cells.c9
  have vf := rs21.out.cells.free
  have t0 := rs3.box.cells.c8
  have t1 := rs3.box.cells.c9
  have t2 := rs3.out.cells.c0
  have t3 := rs3.out.cells.c1
  dsimp only at u0 u1 u2 u3 u4 v0 v1 v2 v3 v4 t0 t1 t2 t3
  have s1 : IntKind.i64.wrap ((x : Int) - 1) = (x : Int) - 1 := IntWalk.i64_in _ (by omega)
  have s2 : IntKind.i64.wrap ((y : Int) - 1) = (y : Int) - 1 := IntWalk.i64_in _ (by omega)
  go_region_held3 (fun w' => w'.cell? ⟨w.heap.size, 8, none⟩ = some (.int .i64 p.sx) ∧ w'.cell? ⟨w.heap.size, 9, none⟩ = some (.int .i64 p.sy) ∧ w'.cell? ⟨w.heap.size + 1 + 1, 0, none⟩ = some (.int .i64 x) ∧ w'.cell? ⟨w.heap.size + 1 + 1, 1, none⟩ = some (.int .i64 y))
    (first
      | with_reducible exact ⟨u0, u1, u2, u3⟩
      | with_reducible exact ⟨v0, v1, v2, v3⟩
      | with_reducible exact ⟨t0, t1, t2, t3⟩
      | fail)
    ((go_at_call 91
      (with_reducible refine (gwithin_any _ _ _).mono ?_)
      rintro e w' ⟨rfl, rfl⟩))
  clear u0 u1 u2 u3 u4 uf v0 v1 v2 v3 v4 vf t0 t1 t2 t3 s1 s2 rs21 rs21q rs2d
  generalize (((w3.setCell ⟨w.heap.size + 1 + 1, 8, none⟩ (.int .i64 (withinF p.sx ((x : Int) - 1)))).setCell ⟨w.heap.size + 1 + 1, 9, none⟩ (.int .i64 (withinF p.sy ((y : Int) - 1)))).drew) = w4 at *
  clear rs2
  have u1 := rs3.out.cells.c1
  have u4 := rs3.out.cells.c4
  have u6 := rs3.out.cells.c6
  have u7 := rs3.out.cells.c7
  have uf := rs3.out.cells.free
  dsimp only at u1 u4 u6 u7
  go_upto_region 8 with fail
  have rs4 := rs3.far (rs3.out.set_top 0)
  have rs5 := rs4.far (rs4.out.set_bottom ((y : Int) - 1))
  have rs6 := rs5.far (rs5.out.set_wrap false)
  clear u1 u4 u6 u7 uf rs3 rs4 rs5
  obtain ⟨p1, hp1⟩ : ∃ p1 : Nm, p1 = { w := (x : Int), h := (y : Int), x := withinF p.x ((x : Int) - 1), y := withinF p.y ((y : Int) - 1), wrap := false, a := p.a, top := 0, bottom := (y : Int) - 1, sx := withinF p.sx ((x : Int) - 1), sy := withinF p.sy ((y : Int) - 1), sa := p.sa, noWrap := p.noWrap, hidden := p.hidden } := ⟨_, rfl⟩
  have hp1q : sizedNm p (x : Int) (y : Int) = p1 := by rw [hp1]; rfl
  dsimp only at rs6
  rw [← hp1] at rs6
  have HPQ := Lib.hid hp1q
  clear hp1 hp1q
  generalize (((w4.setCell ⟨w.heap.size + 1 + 1, 6, none⟩ (.int .i64 0)).setCell ⟨w.heap.size + 1 + 1, 7, none⟩ (.int .i64 ((y : Int) - 1))).setCell ⟨w.heap.size + 1 + 1, 4, none⟩ (.bool false)) = w5 at *
  have y14 := rs6.box.cells.c14
  have hz1 := rs6.ans.lt
  have hz2 := rs6.out.lt
  go_upto_region 9 with (
    go_at_call 92
    refine (HO.out _ rs6.below).mono ?_
    rintro e w6 ⟨g6, rfl, l6, hb6⟩
    have z14 := (rs6.out.below hb6 hz2).cells.c14
    have zf := (rs6.out.below hb6 hz2).cells.free)
  have x2 := (rs6.ans.below hb6 hz1).far (q := ⟨w.heap.size + 1 + 1, 14, none⟩) (by exact (by omega : w.heap.size + 1 ≠ w.heap.size + 1 + 1)) (.slice (some ⟨g6, 0, none⟩) Bk.length Bk.length)
  have x3 := (rs6.out.below hb6 hz2).set_back (.slice (some ⟨g6, 0, none⟩) Bk.length Bk.length)
  have l1 := (rs6.rows.below hb6 (Nat.le_refl _)).far (p := ⟨w.heap.size + 1 + 1, 14, none⟩) (by exact (by omega : w.heap.size + 1 + 1 < w.heap.size + 1 + 1 + 1)) (.slice (some ⟨g6, 0, none⟩) Bk.length Bk.length)
  have l2 := l6.far (p := ⟨w.heap.size + 1 + 1, 14, none⟩) (by exact hz2) (.slice (some ⟨g6, 0, none⟩) Bk.length Bk.length)
  have bz := (rs6.below.trans (hb6.mono rs6.below.size)).setCell (p := ⟨w.heap.size + 1 + 1, 14, none⟩) (by exact (by omega : w.heap.size ≤ w.heap.size + 1 + 1)) (.slice (some ⟨g6, 0, none⟩) Bk.length Bk.length)
  clear y14 z14 zf l6 hb6 rs6
  generalize (w6.setCell ⟨w.heap.size + 1 + 1, 14, none⟩ (.slice (some ⟨g6, 0, none⟩) Bk.length Bk.length)) = w7 at *
  have HL1 := Lib.hid (l1.put15 (g := w.heap.size + 1) (by omega) p1 (.slice (some ⟨g1, 0, none⟩) M.length M.length) (.slice (some ⟨g6, 0, none⟩) Bk.length Bk.length))
  have HL2 := Lib.hid (l2.put15 (g := w.heap.size + 1) (by omega) p1 (.slice (some ⟨g1, 0, none⟩) M.length M.length) (.slice (some ⟨g6, 0, none⟩) Bk.length Bk.length))
  have HZ := Lib.hid (put15_box x2 (p := p1) (.slice (some ⟨g1, 0, none⟩) M.length M.length) (.slice (some ⟨g6, 0, none⟩) Bk.length Bk.length)).cells
  have HBA := Lib.hid (put15_below bz (Nat.le_succ _) p1 (.slice (some ⟨g1, 0, none⟩) M.length M.length) (.slice (some ⟨g6, 0, none⟩) Bk.length Bk.length))
  have hc2 := x2.cells
  have hc3 := x3.cells
  have hzz := x2.lt
  simp only [zeroNm, nilV] at hc2
  obtain ⟨a0, a1, a2, a3, a4, a5, a6, a7, a8, a9, a10, a11, a12, a13, a14, af⟩ := hc2
  obtain ⟨y0, y1, y2, y3, y4, y5, y6, y7, y8, y9, y10, y11, y12, y13, y14, yf⟩ := hc3
  clear x2 x3 l1 l2 bz
  go_wp2_with fail
  change bodyPost _ _ _ _ _ (put15 w7 (w.heap.size + 1) p1 (.slice (some ⟨g1, 0, none⟩) M.length M.length) (.slice (some ⟨g6, 0, none⟩) Bk.length Bk.length))
  clear a0 a1 a2 a3 a4 a5 a6 a7 a8 a9 a10 a11 a12 a13 a14 af y0 y1 y2 y3 y4 y5 y6 y7 y8 y9 y10 y11 y12 y13 y14 yf
  generalize (put15 w7 (w.heap.size + 1) p1 (.slice (some ⟨g1, 0, none⟩) M.length M.length) (.slice (some ⟨g6, 0, none⟩) Bk.length Bk.length)) = wz at *
  obtain ⟨y0, y1, y2, y3, y4, y5, y6, y7, y8, y9, y10, y11, y12, y13, y14, yf⟩ := HZ.out
  refine bodyPost_ret (v := gv p1 (.slice (some ⟨g1, 0, none⟩) M.length M.length) (.slice (some ⟨g6, 0, none⟩) Bk.length Bk.length)) (by simp [results, Try.results44, go_sem, gv, gcs, y0, y1, y2, y3, y4, y5, y6, y7, y8, y9, y10, y11, y12, y13, y14]) rfl ?_
  rw [HPQ.out]
  exact ⟨_, _, _, _, _, _, rfl, ⟨HL1.out.weak (by omega), HL2.out.weak (by omega), rfl, rfl, Nat.le_refl _, Nat.le_refl _⟩, HBA.out⟩
end Go.Proofs.Ytpcpmeihebgncaa

/-
  What Same of package grid answers of equal screens. Conditions: at most a thousand rows and lines of at most a thousand cells.
-/
namespace Go.Proofs.Ytpcpmeihebgncaa
open Go.RowKit
set_option maxRecDepth 100000


def numsV (p : Nm) : Value := .agg #[.int .i64 p.w, .int .i64 p.h, .int .i64 p.x, .int .i64 p.y, .int .i64 p.a, .int .i64 p.top, .int .i64 p.bottom, .int .i64 p.sx, .int .i64 p.sy, .int .i64 p.sa]
def flagsV (p : Nm) : Value := .agg #[.bool p.wrap, .bool p.noWrap, .bool p.hidden]
set_option maxRecDepth 100000 in
set_option maxHeartbeats 2000000 in
theorem numbers_any (p : Nm) (r b : Value) (w : World) : Calls Try.prog 130 #[gv p r b] w (ValPost (numsV p) w) := by
  unfold gv gcs
  obtain ⟨p0, p1, p2, p3, p4, p5, p6, p7, p8, p9, p10, p11, p12⟩ := p
  dsimp only
  go_enter Try.func130, Try.ntmps130
  go_wp2_with fail
  refine bodyPost_ret (v := numsV ⟨p0, p1, p2, p3, p4, p5, p6, p7, p8, p9, p10, p11, p12⟩) (by simp [results, Try.results130, go_sem, numsV]) rfl ⟨rfl, ?_⟩
  exact ((Below.refl _ _).alloc (Nat.le_refl _) _).alloc (by simp) _

set_option maxRecDepth 100000 in
set_option maxHeartbeats 2000000 in
theorem flags_any (p : Nm) (r b : Value) (w : World) : Calls Try.prog 131 #[gv p r b] w (ValPost (flagsV p) w) := by
  unfold gv gcs
  obtain ⟨p0, p1, p2, p3, p4, p5, p6, p7, p8, p9, p10, p11, p12⟩ := p
  dsimp only
  go_enter Try.func131, Try.ntmps131
  go_wp2_with fail
  refine bodyPost_ret (v := flagsV ⟨p0, p1, p2, p3, p4, p5, p6, p7, p8, p9, p10, p11, p12⟩) (by simp [results, Try.results131, go_sem, flagsV]) rfl ⟨rfl, ?_⟩
  exact ((Below.refl _ _).alloc (Nat.le_refl _) _).alloc (by simp) _

theorem cells3 : Try.prog.cellsOf 3 = 1 := by kernel_rfl
theorem cells4 : Try.prog.cellsOf 4 = 1 := by kernel_rfl
theorem info3 : ∃ i, Try.prog.info? 3 = some i ∧ i.size = 1 := ⟨_, by rfl, by rfl⟩
theorem info4 : ∃ i, Try.prog.info? 4 = some i ∧ i.size = 1 := ⟨_, by rfl, by rfl⟩
theorem eql_nums (p : Nm) (w : World) : (binOp .eql 115 (numsV p) (numsV p)).run Try.prog w = .ok (.bool true) w := by
  obtain ⟨i, hi, hs⟩ := info3
  unfold numsV
  rw [run_eql_struct, show (10000 : Nat) = 9999 + 1 from rfl, run_equalIn_array w 9999 _ _ Try.underlying115 hi, cells3]
  have hr : List.range 10 = [0, 1, 2, 3, 4, 5, 6, 7, 8, 9] := rfl
  rw [hr]
  have u3 := Try.underlying3
  simp [Op.eqItems, sizeOf, typeInfo, hi, hs, go_sem, u3]
theorem eql_flags (p : Nm) (w : World) : (binOp .eql 117 (flagsV p) (flagsV p)).run Try.prog w = .ok (.bool true) w := by
  obtain ⟨i, hi, hs⟩ := info4
  unfold flagsV
  rw [run_eql_struct, show (10000 : Nat) = 9999 + 1 from rfl, run_equalIn_array w 9999 _ _ Try.underlying117 hi, cells4]
  have hr : List.range 3 = [0, 1, 2] := rfl
  rw [hr]
  have u4 := Try.underlying4
  simp [Op.eqItems, sizeOf, typeInfo, hi, hs, go_sem, u4]
theorem guard_nums (p : Nm) (x y : Operand) (w : World) : (eqGuard .eql 115 x y (numsV p) (numsV p)).run Try.prog w = .ok () w := run_eqGuard_agg (P := Try.prog) w .eql 115 x y _ _ (by kernel_rfl)
theorem guard_flags (p : Nm) (x y : Operand) (w : World) : (eqGuard .eql 117 x y (flagsV p) (flagsV p)).run Try.prog w = .ok () w := run_eqGuard_agg (P := Try.prog) w .eql 117 x y _ _ (by kernel_rfl)
theorem two_S {w wx : World} {p : Nm} {D E D2 E2 : Option Addr} {n c m d c2 m2 d2 : Nat} (ha : BoxCells wx w.heap.size p (.slice D n c) (.slice E m d)) (hb : BoxCells wx (w.heap.size + 1) p (.slice D2 n c2) (.slice E2 m2 d2)) :
    wx.cell? ⟨w.heap.size, 0, none⟩ = some (.int .i64 p.w) ∧ wx.cell? ⟨w.heap.size, 1, none⟩ = some (.int .i64 p.h) ∧ wx.cell? ⟨w.heap.size, 2, none⟩ = some (.int .i64 p.x) ∧ wx.cell? ⟨w.heap.size, 3, none⟩ = some (.int .i64 p.y) ∧ wx.cell? ⟨w.heap.size, 4, none⟩ = some (.bool p.wrap) ∧ wx.cell? ⟨w.heap.size, 5, none⟩ = some (.int .i64 p.a) ∧ wx.cell? ⟨w.heap.size, 6, none⟩ = some (.int .i64 p.top) ∧ wx.cell? ⟨w.heap.size, 7, none⟩ = some (.int .i64 p.bottom) ∧ wx.cell? ⟨w.heap.size, 8, none⟩ = some (.int .i64 p.sx) ∧ wx.cell? ⟨w.heap.size, 9, none⟩ = some (.int .i64 p.sy) ∧ wx.cell? ⟨w.heap.size, 10, none⟩ = some (.int .i64 p.sa) ∧ wx.cell? ⟨w.heap.size, 11, none⟩ = some (.bool p.noWrap) ∧ wx.cell? ⟨w.heap.size, 12, none⟩ = some (.bool p.hidden) ∧ wx.cell? ⟨w.heap.size, 13, none⟩ = some (.slice D n c) ∧ wx.cell? ⟨w.heap.size, 14, none⟩ = some (.slice E m d) ∧ wx.cell? ⟨w.heap.size + 1, 0, none⟩ = some (.int .i64 p.w) ∧ wx.cell? ⟨w.heap.size + 1, 1, none⟩ = some (.int .i64 p.h) ∧ wx.cell? ⟨w.heap.size + 1, 2, none⟩ = some (.int .i64 p.x) ∧ wx.cell? ⟨w.heap.size + 1, 3, none⟩ = some (.int .i64 p.y) ∧ wx.cell? ⟨w.heap.size + 1, 4, none⟩ = some (.bool p.wrap) ∧ wx.cell? ⟨w.heap.size + 1, 5, none⟩ = some (.int .i64 p.a) ∧ wx.cell? ⟨w.heap.size + 1, 6, none⟩ = some (.int .i64 p.top) ∧ wx.cell? ⟨w.heap.size + 1, 7, none⟩ = some (.int .i64 p.bottom) ∧ wx.cell? ⟨w.heap.size + 1, 8, none⟩ = some (.int .i64 p.sx) ∧ wx.cell? ⟨w.heap.size + 1, 9, none⟩ = some (.int .i64 p.sy) ∧ wx.cell? ⟨w.heap.size + 1, 10, none⟩ = some (.int .i64 p.sa) ∧ wx.cell? ⟨w.heap.size + 1, 11, none⟩ = some (.bool p.noWrap) ∧ wx.cell? ⟨w.heap.size + 1, 12, none⟩ = some (.bool p.hidden) ∧ wx.cell? ⟨w.heap.size + 1, 13, none⟩ = some (.slice D2 n c2) ∧ wx.cell? ⟨w.heap.size + 1, 14, none⟩ = some (.slice E2 m2 d2) :=
  ⟨ha.c0, ha.c1, ha.c2, ha.c3, ha.c4, ha.c5, ha.c6, ha.c7, ha.c8, ha.c9, ha.c10, ha.c11, ha.c12, ha.c13, ha.c14, hb.c0, hb.c1, hb.c2, hb.c3, hb.c4, hb.c5, hb.c6, hb.c7, hb.c8, hb.c9, hb.c10, hb.c11, hb.c12, hb.c13, hb.c14⟩
def BoolPost (b : Bool) (w : World) (e : Ending) (w' : World) : Prop := e = .returned (.bool b) ∧ Below w.heap.size w w'

set_option maxRecDepth 100000 in
set_option maxHeartbeats 4000000 in
theorem same_true (p : Nm) (D E D2 E2 : Option Addr) (n c m d c2 d2 : Nat) (L Bk : List (List C)) (w : World) (h1 : Scr 0 w D E n c m d L Bk) (h2 : Scr 0 w D2 E2 n c2 m d2 L Bk) (hn : n ≤ 1000) (hm : m ≤ 1000) (hl : ∀ r ∈ L, r.length ≤ 1000) (hlb : ∀ r ∈ Bk, r.length ≤ 1000) :
    Calls Try.prog 94 #[gv p (.slice D n c) (.slice E m d), gv p (.slice D2 n c2) (.slice E2 m d2)] w (BoolPost true w) := by
  have HR : Hid (∀ w', Below w.heap.size w w' → Calls Try.prog 132 #[.slice D n c, .slice D2 n c2] w' (Quiet true w')) := fun w' hb => by
    rw [← h1.nr]
    exact sameLines_true D D2 c c2 L w' (h1.rows.below hb (Nat.le_refl _)) (h2.rows.below hb (Nat.le_refl _)) (by rw [h1.nr]; omega) hl
  have HB : Hid (∀ w', Below w.heap.size w w' → Calls Try.prog 132 #[.slice E m d, .slice E2 m d2] w' (Quiet true w')) := fun w' hb => by
    rw [← h1.nb]
    exact sameLines_true E E2 d d2 Bk w' (h1.back.below hb (Nat.le_refl _)) (h2.back.below hb (Nat.le_refl _)) (by rw [h1.nb]; omega) hlb
  clear h1 h2
  unfold gv gcs
  go_enter Try.func94, Try.ntmps94
  go_wp2_with fail
  refine wp_world (fun wq => Box wq w.heap.size p (.slice D n c) (.slice E m d) ∧ Box wq (w.heap.size + 1) p (.slice D2 n c2) (.slice E2 m d2) ∧ Below w.heap.size w wq) ⟨?_, ?_, ?_⟩ ?_
  · exact (Box.new w p _ _).alloc _
  · have := Box.new (w.alloc (.cells (gcs p (.slice D n c) (.slice E m d)) 35)) p (.slice D2 n c2) (.slice E2 m d2)
    rw [World.size_alloc] at this
    exact this
  · exact ((Below.refl _ _).alloc (Nat.le_refl _) _).alloc (by simp) _
  rintro wq ⟨q1, q2, bq⟩
  have q1d : Box wq.drew w.heap.size p (.slice D n c) (.slice E m d) := q1
  have q2d : Box wq.drew (w.heap.size + 1) p (.slice D2 n c2) (.slice E2 m d2) := q2
  have bqd : Below w.heap.size w wq.drew := below_drewN bq 1
  clear q1 q2 bq
  have S0 := two_S q1d.cells q2d.cells
  have qn := eql_nums p
  have qf := eql_flags p
  have gn := guard_nums p
  have gf := guard_flags p
  go_region_held3 (fun w' => w'.cell? ⟨w.heap.size, 0, none⟩ = some (.int .i64 p.w) ∧ w'.cell? ⟨w.heap.size, 1, none⟩ = some (.int .i64 p.h) ∧ w'.cell? ⟨w.heap.size, 2, none⟩ = some (.int .i64 p.x) ∧ w'.cell? ⟨w.heap.size, 3, none⟩ = some (.int .i64 p.y) ∧ w'.cell? ⟨w.heap.size, 4, none⟩ = some (.bool p.wrap) ∧ w'.cell? ⟨w.heap.size, 5, none⟩ = some (.int .i64 p.a) ∧ w'.cell? ⟨w.heap.size, 6, none⟩ = some (.int .i64 p.top) ∧ w'.cell? ⟨w.heap.size, 7, none⟩ = some (.int .i64 p.bottom) ∧ w'.cell? ⟨w.heap.size, 8, none⟩ = some (.int .i64 p.sx) ∧ w'.cell? ⟨w.heap.size, 9, none⟩ = some (.int .i64 p.sy) ∧ w'.cell? ⟨w.heap.size, 10, none⟩ = some (.int .i64 p.sa) ∧ w'.cell? ⟨w.heap.size, 11, none⟩ = some (.bool p.noWrap) ∧ w'.cell? ⟨w.heap.size, 12, none⟩ = some (.bool p.hidden) ∧ w'.cell? ⟨w.heap.size, 13, none⟩ = some (.slice D n c) ∧ w'.cell? ⟨w.heap.size, 14, none⟩ = some (.slice E m d) ∧ w'.cell? ⟨w.heap.size + 1, 0, none⟩ = some (.int .i64 p.w) ∧ w'.cell? ⟨w.heap.size + 1, 1, none⟩ = some (.int .i64 p.h) ∧ w'.cell? ⟨w.heap.size + 1, 2, none⟩ = some (.int .i64 p.x) ∧ w'.cell? ⟨w.heap.size + 1, 3, none⟩ = some (.int .i64 p.y) ∧ w'.cell? ⟨w.heap.size + 1, 4, none⟩ = some (.bool p.wrap) ∧ w'.cell? ⟨w.heap.size + 1, 5, none⟩ = some (.int .i64 p.a) ∧ w'.cell? ⟨w.heap.size + 1, 6, none⟩ = some (.int .i64 p.top) ∧ w'.cell? ⟨w.heap.size + 1, 7, none⟩ = some (.int .i64 p.bottom) ∧ w'.cell? ⟨w.heap.size + 1, 8, none⟩ = some (.int .i64 p.sx) ∧ w'.cell? ⟨w.heap.size + 1, 9, none⟩ = some (.int .i64 p.sy) ∧ w'.cell? ⟨w.heap.size + 1, 10, none⟩ = some (.int .i64 p.sa) ∧ w'.cell? ⟨w.heap.size + 1, 11, none⟩ = some (.bool p.noWrap) ∧ w'.cell? ⟨w.heap.size + 1, 12, none⟩ = some (.bool p.hidden) ∧ w'.cell? ⟨w.heap.size + 1, 13, none⟩ = some (.slice D2 n c2) ∧ w'.cell? ⟨w.heap.size + 1, 14, none⟩ = some (.slice E2 m d2))
    (first
      | with_reducible exact S0
      | with_reducible exact S1
      | with_reducible exact S2
      | with_reducible exact S3
      | with_reducible exact S4
      | with_reducible exact S5
      | with_reducible exact S6
      | fail)
    (first
      | (go_at_call 130
         refine (numbers_any p _ _ wq.drew).mono ?_
         rintro e w1 ⟨rfl, hb1⟩
         have q11 := q1d.below hb1 q1d.lt
         have q21 := q2d.below hb1 q2d.lt
         have b1 : Below w.heap.size w w1 := bqd.trans (hb1.mono bqd.size)
         have S1 := two_S q11.cells q21.cells)
      | (go_at_call 130
         refine (numbers_any p _ _ w1).mono ?_
         rintro e w2 ⟨rfl, hb2⟩
         have q12 := q11.below hb2 q11.lt
         have q22 := q21.below hb2 q21.lt
         have b2 : Below w.heap.size w w2 := b1.trans (hb2.mono b1.size)
         have S2 := two_S q12.cells q22.cells)
      | (go_at_call 131
         refine (flags_any p _ _ w2).mono ?_
         rintro e w3 ⟨rfl, hb3⟩
         have q13 := q12.below hb3 q12.lt
         have q23 := q22.below hb3 q22.lt
         have b3 : Below w.heap.size w w3 := b2.trans (hb3.mono b2.size)
         have S3 := two_S q13.cells q23.cells)
      | (go_at_call 131
         refine (flags_any p _ _ w3).mono ?_
         rintro e w4 ⟨rfl, hb4⟩
         have q14 := q13.below hb4 q13.lt
         have q24 := q23.below hb4 q23.lt
         have b4 : Below w.heap.size w w4 := b3.trans (hb4.mono b3.size)
         have S4 := two_S q14.cells q24.cells)
      | (go_at_call 132
         refine (HR.out w4 b4).mono ?_
         rintro e w5 ⟨rfl, m5, hm5⟩
         have hb5 : Below w4.heap.size w4 w5 := by rw [hm5]; exact below_drewN (Below.refl _ _) m5
         have q15 := q14.below hb5 q14.lt
         have q25 := q24.below hb5 q24.lt
         have b5 : Below w.heap.size w w5 := b4.trans (hb5.mono b4.size)
         have S5 := two_S q15.cells q25.cells
         clear hm5)
      | (go_at_call 132
         refine (HB.out w5 b5).mono ?_
         rintro e w6 ⟨rfl, m6, hm6⟩
         have hb6 : Below w5.heap.size w5 w6 := by rw [hm6]; exact below_drewN (Below.refl _ _) m6
         have b6 : Below w.heap.size w w6 := b5.trans (hb6.mono b5.size)
         have S6 := two_S (q15.below hb6 q15.lt).cells (q25.below hb6 q25.lt).cells
         clear hm6))
  go_wp2_with fail
  go_ret
  exact ⟨rfl, b6⟩
end Go.Proofs.Ytpcpmeihebgncaa
