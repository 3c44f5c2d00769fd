/-
  What signs one behind the other make of a blank screen, as plain lists, for every size and number that ActsWrap asks: reckoned. Nothing of the program is walked here. No condition.
-/
import Derived.Test.YtpcpmeihebgncaaLineUp
namespace Go.Proofs.Ytpcpmeihebgncaa
open Go.RowKit

/-- A screen: its numbers, its rows, the lines that went. -/
structure WS where
  p : Nm
  L : List (List C)
  B : List (List C)
def rowAt (L : List (List C)) (y : Nat) : List C := L.getD y []
def wline (s : WS) : WS := if s.p.wrap then (if s.p.y = s.p.bottom then ⟨{ s.p with x := 0 }, upG { s.p with x := 0 } s.L, upGB { s.p with x := 0 } s.L s.B⟩ else ⟨lineNm { s.p with x := 0 }, s.L, s.B⟩) else s
def wput (s : WS) (r : Int) : WS := ⟨printNm s.p, s.L.set s.p.y.toNat (putF (rowAt s.L s.p.y.toNat) s.p.x ⟨r, s.p.a⟩), s.B⟩
def wfirst (W H : Nat) (nw : Bool) : WS := ⟨{ newNm W H with noWrap := nw }, blankL W H, []⟩
def wst (W H : Nat) (nw : Bool) : Nat → WS
  | 0 => wfirst W H nw
  | i + 1 => wput (wline (wst W H nw i)) (65 + i)
/-- The screen is whole. -/
def okB (W H : Nat) (s : WS) : Bool := decide (s.p.w = W) && decide (s.p.h = H) && decide (0 ≤ s.p.x) && decide (s.p.x < W) && decide (0 ≤ s.p.y) && decide (s.p.y < H) && decide (s.L.length = H) && s.L.all (fun l => decide (l.length = W)) && decide (s.B.length ≤ 50) && s.B.all (fun l => decide (l.length ≤ 1000))
def runeAt (L : List (List C)) (y x : Nat) : Int := ((rowAt L y).getD x ⟨0, 0⟩).r
def linesN (W n : Nat) : Nat := max ((n + W - 1) / W) 1
/-- What the statement asks behind n signs. -/
def finB (W H : Nat) (nw : Bool) (n : Nat) (s : WS) : Bool :=
  if nw then decide (s.p.y = 0) && decide (s.p.x = min (n : Int) (W - 1)) && !s.p.wrap && decide (s.B.length = 0) && (decide (n < W) || decide (runeAt s.L 0 (W - 1) = 65 + n - 1))
  else decide (s.p.y = min (linesN W n : Int) H - 1) && decide (s.B.length = min (linesN W n - H) 50) && (s.p.wrap == (decide (0 < n) && decide (n % W = 0))) &&
    (List.range H).all fun y => (List.range W).all fun x => decide (runeAt s.L y x = if (linesN W n - H + y) * W + x < n then 65 + (((linesN W n - H + y) * W + x : Nat) : Int) else 32)
def chkB (W H : Nat) (nw : Bool) (n : Nat) (s : WS) : Bool := okB W H s && okB W H (wline s) && finB W H nw n s
def runB (W H : Nat) (nw : Bool) : Nat → Nat → WS → Bool
  | 0, i, s => chkB W H nw i s
  | f + 1, i, s => chkB W H nw i s && runB W H nw f (i + 1) (wput (wline s) (65 + i))
set_option maxRecDepth 100000 in
theorem run_all : ((List.range 8).all fun w => (List.range 4).all fun h => runB (w + 1) (h + 1) false 63 0 (wfirst (w + 1) (h + 1) false) && runB (w + 1) (h + 1) true 63 0 (wfirst (w + 1) (h + 1) true)) = true := by decide +kernel
theorem run_at {W H : Nat} {nw : Bool} : ∀ (f i : Nat), runB W H nw f i (wst W H nw i) = true → ∀ j, j ≤ f → chkB W H nw (i + j) (wst W H nw (i + j)) = true
  | 0, i, h, j, hj => by
    obtain rfl : j = 0 := by omega
    exact h
  | f + 1, i, h, j, hj => by
    simp only [runB, Bool.and_eq_true] at h
    cases j with
    | zero => exact h.1
    | succ j =>
      have := run_at f (i + 1) (by simpa [wst] using h.2) j (by omega)
      rw [show i + (j + 1) = i + 1 + j by omega]
      exact this
theorem chk_all (W H : Nat) (nw : Bool) (n : Nat) (hW : W < 8) (hH : H < 4) (hn : n ≤ 63) : chkB (W + 1) (H + 1) nw n (wst (W + 1) (H + 1) nw n) = true := by
  have h := run_all
  rw [List.all_eq_true] at h
  have h1 := h W (List.mem_range.2 hW)
  rw [List.all_eq_true] at h1
  have h2 := h1 H (List.mem_range.2 hH)
  rw [Bool.and_eq_true] at h2
  cases nw with
  | false => simpa using run_at 63 0 h2.1 n hn
  | true => simpa using run_at 63 0 h2.2 n hn

/-- The screen is whole. -/
structure OkS (W H : Nat) (s : WS) : Prop where
  pw : s.p.w = W
  ph : s.p.h = H
  x0 : 0 ≤ s.p.x
  x1 : s.p.x < W
  y0 : 0 ≤ s.p.y
  y1 : s.p.y < H
  ln : s.L.length = H
  rows : ∀ l ∈ s.L, l.length = W
  bn : s.B.length ≤ 50
  back : ∀ l ∈ s.B, l.length ≤ 1000
theorem okS {W H : Nat} {s : WS} (h : okB W H s = true) : OkS W H s := by
  simp only [okB, Bool.and_eq_true, decide_eq_true_eq, List.all_eq_true] at h
  obtain ⟨⟨⟨⟨⟨⟨⟨⟨⟨h0, h1⟩, h2⟩, h3⟩, h4⟩, h5⟩, h6⟩, h7⟩, h8⟩, h9⟩ := h
  exact ⟨h0, h1, h2, h3, h4, h5, h6, h7, h8, h9⟩
theorem OkS.on {W H : Nat} {s : WS} (h : OkS W H s) (hW : W ≤ 1000) (hH : H ≤ 1000) : On s.p := by
  have a := h.pw; have b := h.ph; have c := h.x0; have d := h.x1; have e := h.y0; have f := h.y1
  exact ⟨by omega, by omega, by omega, by omega, by omega, by omega, by omega, by omega⟩
theorem chk_ok {W H : Nat} {nw : Bool} {n : Nat} {s : WS} (h : chkB W H nw n s = true) : OkS W H s ∧ OkS W H (wline s) ∧ finB W H nw n s = true := by
  simp only [chkB, Bool.and_eq_true] at h
  exact ⟨okS h.1.1, okS h.1.2, h.2⟩

/-- A sign is printed. -/
theorem wprint_any (B : Nat) (s : WS) (W H : Nat) (g h : Nat) (r : Int) (w : World) (hs : OScr B w g h s.L s.B) (hW : W ≤ 1000) (hH : H ≤ 1000) (h1 : OkS W H s) (h2 : OkS W H (wline s)) :
    Calls Try.prog 27 #[ov s.p g h s.L s.B, .int .i32 r] w (InPost B g w (wput (wline s) r).p (wput (wline s) r).L (wput (wline s) r).B) := by
  obtain ⟨y, hy⟩ : ∃ y : Nat, (wline s).p.y = y := ⟨(wline s).p.y.toNat, by have := h2.y0; omega⟩
  have hyl : y < (wline s).L.length := by have := h2.y1; have := h2.ln; omega
  have e : (wline s).p.y.toNat = y := by omega
  have hr : rowAt (wline s).L y = (wline s).L[y] := by simp [rowAt, hyl]
  have hn : (wline s).L[y].length ≤ 1000 := by have := h2.rows _ (List.getElem_mem hyl); omega
  have := printed_any B s.p (wline s).p g h s.L s.B (wline s).L (wline s).B r y w hs ?_ (h2.on hW hH) hy hyl hn
  · simp only [wput, e, hr]
    exact this
  · by_cases hw : s.p.wrap = true
    · refine .inr ⟨hw, fun wx hb => ?_⟩
      have hx := hs.below hb (Nat.le_refl _)
      by_cases hb' : s.p.y = s.p.bottom
      · have e1 : wline s = ⟨{ s.p with x := 0 }, upG { s.p with x := 0 } s.L, upGB { s.p with x := 0 } s.L s.B⟩ := by simp [wline, hw, hb']
        rw [e1]
        exact lineUp_any B { s.p with x := 0 } g h s.L s.B wx hx hb' (by have := h1.ln; have := h1.y0; have := h1.y1; omega) (by have := h1.ln; omega) h1.bn (fun l hl => by have := h1.rows l hl; omega) h1.back
      · have e1 : wline s = ⟨lineNm { s.p with x := 0 }, s.L, s.B⟩ := by simp [wline, hw, hb']
        rw [e1]
        refine (line_any { s.p with x := 0 } _ _ _ _ _ _ wx (by have := h1.ph; have := h1.y0; have := h1.y1; show 1 ≤ s.p.h; omega) (by have := h1.ph; show s.p.h ≤ 1000; omega) h1.y0 hb').mono ?_
        rintro e w' ⟨rfl, hb2⟩
        exact ⟨g, h, rfl, hx.below hb2 (Nat.le_refl _), .inl rfl, hb2⟩
    · have hw' : s.p.wrap = false := by simpa using hw
      have e1 : wline s = s := by simp [wline, hw']
      rw [e1]
      exact .inl ⟨hw', rfl, rfl, rfl⟩
/-- A sign is printed, by Apply. -/
theorem wapply_any (s : WS) (W H : Nat) (D E : Option Addr) (n c m d : Nat) (r : Int) (w : World) (hs : Scr 0 w D E n c m d s.L s.B) (hW : W ≤ 1000) (hH : H ≤ 1000) (h1 : OkS W H s) (h2 : OkS W H (wline s)) :
    Calls Try.prog 14 #[gv s.p (.slice D n c) (.slice E m d), .agg #[.int .i64 1, .int .i32 r, .slice none 0 0]] w (GridPost w (wput (wline s) r).p (wput (wline s) r).L (wput (wline s) r).B) := by
  refine app_print s.p _ D E none n c m d 0 0 s.L s.B _ _ r w hs (by have := hs.nr; have := h1.ln; omega) (by have := hs.nb; have := h1.bn; omega) (fun l hl => by have := h1.rows l hl; omega) h1.back fun B wx g h hb ho => ?_
  exact wprint_any B s W H g h r wx ho hW hH h1 h2
end Go.Proofs.Ytpcpmeihebgncaa
