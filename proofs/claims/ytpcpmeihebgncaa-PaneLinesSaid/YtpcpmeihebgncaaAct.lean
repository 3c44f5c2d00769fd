/-
  What an action makes of a screen, as one plain function; what controlled, escaped, rewritten, sequenced, switched and Apply of package acts answer, told by it. Conditions: the screen is whole (its sides between 1 and 1,000, its rows as wide as it, at most fifty lines that went), at most a million parameters.
-/
import Derived.Test.YtpcpmeihebgncaaRest
import Derived.Test.YtpcpmeihebgncaaWrapM
import Derived.Test.YtpcpmeihebgncaaSeqH
namespace Go.Proofs.Ytpcpmeihebgncaa
open Go.RowKit
set_option maxRecDepth 100000

def mvS (s : WS) (X Y : Int) : WS := ⟨movedNm s.p X Y, s.L, s.B⟩
def lineS (s : WS) : WS := if s.p.y = s.p.bottom then ⟨s.p, upG s.p s.L, upGB s.p s.L s.B⟩ else ⟨lineNm s.p, s.L, s.B⟩
def backS (s : WS) : WS := if s.p.y = s.p.top then ⟨movedNm s.p s.p.x s.p.y, downG s.p s.L, s.B⟩ else mvS s s.p.x (s.p.y - 1)
def ctlF (s : WS) (r : Int) : WS :=
  if r = 8 then mvS s (s.p.x - 1) s.p.y
  else if r = 9 then mvS s ((s.p.x / 8 + 1) * 8) s.p.y
  else if r = 10 ∨ r = 11 ∨ r = 12 then mvS (lineS s) (lineS s).p.x (lineS s).p.y
  else if r = 13 then mvS s 0 s.p.y
  else s
def escF (s : WS) (r : Int) : WS :=
  if r = 68 then mvS (lineS s) (lineS s).p.x (lineS s).p.y
  else if r = 77 then backS s
  else if r = 69 then mvS (lineS s) 0 (lineS s).p.y
  else if r = 55 then ⟨{ s.p with sx := s.p.x, sy := s.p.y, sa := s.p.a }, s.L, s.B⟩
  else if r = 56 then ⟨movedNm { s.p with a := s.p.sa } s.p.sx s.p.sy, s.L, s.B⟩
  else if r = 99 then ⟨newNm s.p.w s.p.h, blankL s.p.w s.p.h.toNat, s.B⟩
  else s
/-- The cursor's row is another one. -/
def rowS (s : WS) (f : List C → List C) : WS := ⟨s.p, s.L.set s.p.y.toNat (f (rowAt s.L s.p.y.toNat)), s.B⟩
def rewF (s : WS) (r n part : Int) : WS :=
  if r = 74 then (if part = 0 ∨ part = 1 ∨ part = 2 then ⟨s.p, scrF (rowS s fun l => rclearF l part s.p.x).L part s.p.y.toNat s.L.length, s.B⟩ else s)
  else if r = 75 then (if part = 0 ∨ part = 1 ∨ part = 2 then rowS s fun l => rclearF l part s.p.x else s)
  else if r = 76 then (if s.p.y < s.p.top ∨ s.p.bottom < s.p.y then s else ⟨movedNm s.p 0 s.p.y, downT s.L s.p.w s.p.y s.p.bottom n, s.B⟩)
  else if r = 77 then (if s.p.y < s.p.top ∨ s.p.bottom < s.p.y then s else ⟨movedNm s.p 0 s.p.y, upT s.L s.p.w s.p.y s.p.bottom n, s.B⟩)
  else if r = 64 then rowS s fun l => insertF l s.p.x n
  else if r = 80 then rowS s fun l => deleteF l s.p.x n
  else if r = 88 then rowS s fun l => clearF l s.p.x (s.p.x + n)
  else if r = 83 then ⟨s.p, upT s.L s.p.w s.p.top s.p.bottom n, upTB s.L s.B s.p.top s.p.bottom n⟩
  else if r = 84 then ⟨s.p, downT s.L s.p.w s.p.top s.p.bottom n, s.B⟩
  else s
def csiF (s : WS) (r : Int) (xs : List Int) : WS :=
  if r = 65 then mvS s s.p.x (s.p.y - toldF xs 0 1)
  else if r = 66 then mvS s s.p.x (s.p.y + toldF xs 0 1)
  else if r = 67 then mvS s (s.p.x + toldF xs 0 1) s.p.y
  else if r = 68 then mvS s (s.p.x - toldF xs 0 1) s.p.y
  else if r = 71 then mvS s (toldF xs 0 1 - 1) s.p.y
  else if r = 100 then mvS s s.p.x (toldF xs 0 1 - 1)
  else if r = 72 ∨ r = 102 then mvS s (toldF xs 1 1 - 1) (toldF xs 0 1 - 1)
  else if r = 114 then (if withinF (toldF xs 0 1 - 1) (s.p.h - 1) < withinF (toldF xs 1 s.p.h - 1) (s.p.h - 1) then ⟨movedNm { s.p with top := withinF (toldF xs 0 1 - 1) (s.p.h - 1), bottom := withinF (toldF xs 1 s.p.h - 1) (s.p.h - 1) } 0 0, s.L, s.B⟩ else s)
  else if r = 109 then ⟨{ s.p with a := Attr.applyF s.p.a xs }, s.L, s.B⟩
  else rewF s r (toldF xs 0 1) (toldF xs 0 0)
/-- What an action makes of a screen. -/
def actF (s : WS) (kind r : Int) (xs : List Int) : WS :=
  if kind = 1 then wput (wline s) r
  else if kind = 2 then ctlF s r
  else if kind = 3 then escF s r
  else if kind = 4 then csiF s r xs
  else if kind = 5 then ⟨swNm r s.p xs, s.L, s.B⟩
  else s

/-! ### a whole screen stays whole -/
/-- The screen is whole: its sides, its rows, its cursor, its region, its lines that went. -/
structure Wk (W H : Nat) (s : WS) : Prop where
  ok : OkS W H s
  W1 : 1 ≤ W
  W2 : W ≤ 1000
  H1 : 1 ≤ H
  H2 : H ≤ 1000
  t0 : 0 ≤ s.p.top
  tb : s.p.top ≤ s.p.bottom
  b1 : s.p.bottom < H
theorem Wk.on {W H : Nat} {s : WS} (h : Wk W H s) : On s.p := h.ok.on h.W2 h.H2
theorem Wk.rows {W H : Nat} {s : WS} (h : Wk W H s) : ∀ r ∈ s.L, r.length ≤ 1000 := fun l hl => by have := h.ok.rows l hl; have := h.W2; omega
theorem within_lt (a : Int) (n : Nat) (hn : 1 ≤ n) : 0 ≤ withinF a ((n : Int) - 1) ∧ withinF a ((n : Int) - 1) < n := by unfold withinF; omega
theorem Wk.mv {W H : Nat} {s : WS} (h : Wk W H s) (X Y : Int) : Wk W H (mvS s X Y) := by
  have hx := within_lt X W h.W1
  have hy := within_lt Y H h.H1
  have ew := h.ok.pw
  have eh := h.ok.ph
  exact ⟨⟨ew, eh, by show 0 ≤ withinF X (s.p.w - 1); rw [ew]; exact hx.1, by show withinF X (s.p.w - 1) < W; rw [ew]; exact hx.2, by show 0 ≤ withinF Y (s.p.h - 1); rw [eh]; exact hy.1, by show withinF Y (s.p.h - 1) < H; rw [eh]; exact hy.2, h.ok.ln, h.ok.rows, h.ok.bn, h.ok.back⟩, h.W1, h.W2, h.H1, h.H2, h.t0, h.tb, h.b1⟩
theorem blankF_w (W : Nat) (h : W ≤ 1000) : (blankF (W : Int)).length = W := by rw [blankF_len]; unfold withinF; omega
theorem upL_w {L : List (List C)} {f t k : Nat} {W : Nat} (hW : W ≤ 1000) (hl : ∀ r ∈ L, r.length = W) : ∀ r ∈ upL L f t k (W : Int), r.length = W := by
  intro r hr
  simp only [upL, List.flatten_cons, List.flatten_nil, List.mem_append, List.append_nil] at hr
  rcases hr with h | h | h | h
  · exact hl r (List.mem_of_mem_take h)
  · exact hl r (List.mem_of_mem_take (List.mem_of_mem_drop h))
  · rw [(List.mem_replicate.1 h).2]; exact blankF_w W hW
  · exact hl r (List.mem_of_mem_drop h)
theorem downL_w {L : List (List C)} {f t k : Nat} {W : Nat} (hW : W ≤ 1000) (hl : ∀ r ∈ L, r.length = W) : ∀ r ∈ downL L f t k (W : Int), r.length = W := by
  intro r hr
  simp only [downL, List.flatten_cons, List.flatten_nil, List.mem_append, List.append_nil] at hr
  rcases hr with h | h | h | h
  · exact hl r (List.mem_of_mem_take h)
  · rw [(List.mem_replicate.1 h).2]; exact blankF_w W hW
  · exact hl r (List.mem_of_mem_take (List.mem_of_mem_drop h))
  · exact hl r (List.mem_of_mem_drop h)
theorem part_in (n : Nat) (h : 1 ≤ n) (top bottom z : Int) : fromF n top + (withinF z (toF n top bottom - fromF n top)).toNat ≤ toF n top bottom ∧ toF n top bottom ≤ n := by
  unfold toF fromF withinF
  omega
theorem upBack_ge {L Bk : List (List C)} {f k : Nat} (hb : Bk.length ≤ 50) : Bk.length ≤ (upBack L Bk f k).length := by
  unfold upBack
  split
  · rw [List.length_drop]
    simp only [List.flatten_cons, List.flatten_nil, List.length_append, List.append_nil]
    omega
  · exact Nat.le_refl _
theorem Wk.up {W H : Nat} {s : WS} (h : Wk W H s) (q : Nm) (top bottom n : Int) (B2 : List (List C)) (hq : Wk W H ⟨q, s.L, s.B⟩) (hb : B2.length ≤ 50) (hbr : ∀ l ∈ B2, l.length ≤ 1000) : Wk W H ⟨q, upT s.L s.p.w top bottom n, B2⟩ := by
  have ew := h.ok.pw
  have hp := part_in s.L.length (by rw [h.ok.ln]; exact h.H1) top bottom n
  refine ⟨⟨hq.ok.pw, hq.ok.ph, hq.ok.x0, hq.ok.x1, hq.ok.y0, hq.ok.y1, ?_, ?_, hb, hbr⟩, h.W1, h.W2, h.H1, h.H2, hq.t0, hq.tb, hq.b1⟩
  · show (upT s.L s.p.w top bottom n).length = H
    unfold upT
    rw [upL_len s.p.w rfl hp.1 hp.2, h.ok.ln]
  · show ∀ l ∈ upT s.L s.p.w top bottom n, l.length = W
    unfold upT
    rw [ew]
    exact upL_w h.W2 h.ok.rows
theorem Wk.down {W H : Nat} {s : WS} (h : Wk W H s) (q : Nm) (top bottom n : Int) (hq : Wk W H ⟨q, s.L, s.B⟩) : Wk W H ⟨q, downT s.L s.p.w top bottom n, s.B⟩ := by
  have ew := h.ok.pw
  have hp := part_in s.L.length (by rw [h.ok.ln]; exact h.H1) top bottom n
  refine ⟨⟨hq.ok.pw, hq.ok.ph, hq.ok.x0, hq.ok.x1, hq.ok.y0, hq.ok.y1, ?_, ?_, h.ok.bn, h.ok.back⟩, h.W1, h.W2, h.H1, h.H2, hq.t0, hq.tb, hq.b1⟩
  · show (downT s.L s.p.w top bottom n).length = H
    unfold downT
    rw [downL_len s.p.w rfl hp.1 hp.2, h.ok.ln]
  · show ∀ l ∈ downT s.L s.p.w top bottom n, l.length = W
    unfold downT
    rw [ew]
    exact downL_w h.W2 h.ok.rows
theorem Wk.line {W H : Nat} {s : WS} (h : Wk W H s) : Wk W H (lineS s) := by
  unfold lineS
  split
  · exact h.up s.p s.p.top s.p.bottom 1 (upGB s.p s.L s.B) h (upBack_len h.ok.bn) (upBack_rows h.rows h.ok.back)
  · have eh := h.ok.ph
    have y0 := h.ok.y0
    have y1 := h.ok.y1
    refine ⟨⟨h.ok.pw, h.ok.ph, h.ok.x0, h.ok.x1, ?_, ?_, h.ok.ln, h.ok.rows, h.ok.bn, h.ok.back⟩, h.W1, h.W2, h.H1, h.H2, h.t0, h.tb, h.b1⟩
    · show 0 ≤ (lineNm s.p).y
      simp only [lineNm]
      split <;> omega
    · show (lineNm s.p).y < H
      simp only [lineNm]
      split <;> omega
theorem Wk.x {W H : Nat} {s : WS} (h : Wk W H s) : Wk W H ⟨{ s.p with x := 0 }, s.L, s.B⟩ := ⟨⟨h.ok.pw, h.ok.ph, Int.le_refl _, by have := h.W1; show (0 : Int) < W; omega, h.ok.y0, h.ok.y1, h.ok.ln, h.ok.rows, h.ok.bn, h.ok.back⟩, h.W1, h.W2, h.H1, h.H2, h.t0, h.tb, h.b1⟩
theorem Wk.wline {W H : Nat} {s : WS} (h : Wk W H s) : Wk W H (Ytpcpmeihebgncaa.wline s) := by
  unfold Ytpcpmeihebgncaa.wline
  split
  · exact h.x.line
  · exact h
/-- The cursor's row is there. -/
theorem Wk.at {W H : Nat} {s : WS} (h : Wk W H s) : ∃ (y : Nat) (hy : y < s.L.length), s.p.y = y ∧ s.p.y.toNat = y ∧ rowAt s.L y = s.L[y] ∧ s.L[y].length = W ∧ s.L[y].length ≤ 1000 := by
  have y0 := h.ok.y0
  have y1 := h.ok.y1
  have hl : s.p.y.toNat < s.L.length := by rw [h.ok.ln]; omega
  have hw := h.ok.rows _ (List.getElem_mem hl)
  exact ⟨s.p.y.toNat, hl, by omega, rfl, by simp [rowAt, hl], hw, by have := h.W2; omega⟩
theorem Wk.set {W H : Nat} {s : WS} (h : Wk W H s) (q : Nm) (y : Nat) (l : List C) (hl : l.length = W) (hq : Wk W H ⟨q, s.L, s.B⟩) : Wk W H ⟨q, s.L.set y l, s.B⟩ := by
  refine ⟨⟨hq.ok.pw, hq.ok.ph, hq.ok.x0, hq.ok.x1, hq.ok.y0, hq.ok.y1, ?_, ?_, h.ok.bn, h.ok.back⟩, h.W1, h.W2, h.H1, h.H2, hq.t0, hq.tb, hq.b1⟩
  · show (s.L.set y l).length = H
    rw [List.length_set, h.ok.ln]
  · intro r hr
    rcases List.mem_or_eq_of_mem_set hr with hr | rfl
    · exact h.ok.rows r hr
    · exact hl
theorem Wk.put {W H : Nat} {s : WS} (h : Wk W H s) (r : Int) : Wk W H (wput s r) := by
  obtain ⟨y, hy, e1, e2, e3, e4, _⟩ := h.at
  have ew := h.ok.pw
  have x0 := h.ok.x0
  have x1 := h.ok.x1
  unfold wput
  rw [e2, e3]
  refine h.set _ y _ (by rw [putF_len]; exact e4) ?_
  unfold printNm
  split
  · exact ⟨⟨h.ok.pw, h.ok.ph, h.ok.x0, h.ok.x1, h.ok.y0, h.ok.y1, h.ok.ln, h.ok.rows, h.ok.bn, h.ok.back⟩, h.W1, h.W2, h.H1, h.H2, h.t0, h.tb, h.b1⟩
  · exact ⟨⟨h.ok.pw, h.ok.ph, by show 0 ≤ s.p.x + 1; omega, by show s.p.x + 1 < W; omega, h.ok.y0, h.ok.y1, h.ok.ln, h.ok.rows, h.ok.bn, h.ok.back⟩, h.W1, h.W2, h.H1, h.H2, h.t0, h.tb, h.b1⟩

/-! ### the contracts, told by the plain functions -/
theorem lineS_any {W H B : Nat} {s : WS} {g h : Nat} (w : World) (hs : OScr B w g h s.L s.B) (k : Wk W H s) : Calls Try.prog 50 #[ov s.p g h s.L s.B] w (LinePost B g w (lineS s).p (lineS s).L (lineS s).B) := by
  by_cases e : s.p.y = s.p.bottom
  · have e1 : lineS s = ⟨s.p, upG s.p s.L, upGB s.p s.L s.B⟩ := by unfold lineS; rw [if_pos e]
    rw [e1]
    exact lineUp_any B s.p g h s.L s.B w hs e (by rw [k.ok.ln]; exact k.H1) (by rw [k.ok.ln]; exact k.H2) k.ok.bn k.rows k.ok.back
  · have e1 : lineS s = ⟨lineNm s.p, s.L, s.B⟩ := by unfold lineS; rw [if_neg e]
    rw [e1]
    refine (line_any s.p _ _ _ _ _ _ w k.on.h0 k.on.h1 k.ok.y0 e).mono ?_
    rintro e w' ⟨rfl, hb⟩
    exact ⟨g, h, rfl, hs.below hb (Nat.le_refl _), .inl rfl, hb⟩
theorem into {B g h : Nat} {w : World} {F : Nat} {args : Array Value} {p : Nm} {L Bk : List (List C)} (hs : OScr B w g h L Bk) (c : Calls Try.prog F args w (ValPost (ov p g h L Bk) w)) : Calls Try.prog F args w (InPost B g w p L Bk) := c.mono fun _ _ t => ValPost.into hs t
theorem ctl_all {W H B : Nat} {s : WS} {g h : Nat} (r : Int) (w : World) (hs : OScr B w g h s.L s.B) (k : Wk W H s) : Calls Try.prog 28 #[ov s.p g h s.L s.B, .int .i32 r] w (InPost B g w (ctlF s r).p (ctlF s r).L (ctlF s r).B) := by
  unfold ctlF
  by_cases h1 : r = 8
  · subst h1
    exact into hs (ctl_8 s.p _ _ _ _ _ _ w k.on)
  rw [if_neg h1]
  by_cases h2 : r = 9
  · subst h2
    exact into hs (ctl_9 s.p _ _ _ _ _ _ w k.on)
  rw [if_neg h2]
  by_cases h3 : r = 10 ∨ r = 11 ∨ r = 12
  · rw [if_pos h3]
    have hT : ∀ wx, Below w.heap.size w wx → Calls Try.prog 50 #[ov s.p g h s.L s.B] wx (LinePost B g wx (lineS s).p (lineS s).L (lineS s).B) := fun wx hb => lineS_any wx (hs.below hb (Nat.le_refl _)) k
    rcases h3 with rfl | rfl | rfl
    · exact ctl_10 B s.p (lineS s).p g h s.L s.B _ _ w hs k.line.on hT
    · exact ctl_11 B s.p (lineS s).p g h s.L s.B _ _ w hs k.line.on hT
    · exact ctl_12 B s.p (lineS s).p g h s.L s.B _ _ w hs k.line.on hT
  rw [if_neg h3]
  by_cases h4 : r = 13
  · subst h4
    exact into hs (ctl_13 s.p _ _ _ _ _ _ w k.on)
  rw [if_neg h4]
  exact into hs (ctl_no s.p _ _ _ _ _ _ r w ⟨h1, h2, fun e => h3 (.inl e), fun e => h3 (.inr (.inl e)), fun e => h3 (.inr (.inr e)), h4⟩)
end Go.Proofs.Ytpcpmeihebgncaa
