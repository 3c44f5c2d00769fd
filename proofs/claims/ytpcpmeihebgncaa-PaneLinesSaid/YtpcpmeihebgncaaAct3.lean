/-
  That an action leaves a whole screen whole: its size, its rows, its cursor, its region; a wrap waits at the last column alone; no line that went is lost while there are fewer than fifty. Nothing of the program is walked here. No condition but the screen's wholeness.
-/
import Derived.Test.YtpcpmeihebgncaaAct
namespace Go.Proofs.Ytpcpmeihebgncaa
open Go.RowKit
set_option maxRecDepth 100000

/-- A wrap waits at the last column alone. -/
def WrOk (W : Nat) (s : WS) : Prop := s.p.wrap = true → s.p.x = (W : Int) - 1
/-- Whole, its wrap in its place, and with as many lines that went, at least. -/
structure Goes (W H : Nat) (s t : WS) : Prop where
  k : Wk W H t
  wr : WrOk W t
  back : s.B.length ≤ t.B.length
theorem Goes.refl {W H : Nat} {s : WS} (h : Wk W H s) (hw : WrOk W s) : Goes W H s s := ⟨h, hw, Nat.le_refl _⟩
theorem Goes.mv {W H : Nat} {s : WS} (h : Wk W H s) (X Y : Int) : Goes W H s (mvS s X Y) := ⟨h.mv X Y, fun e => (by cases e), Nat.le_refl _⟩
theorem line_back {W H : Nat} {s : WS} (h : Wk W H s) : s.B.length ≤ (lineS s).B.length := by
  unfold lineS
  split
  · exact upBack_ge h.ok.bn
  · exact Nat.le_refl _
theorem Goes.lmv {W H : Nat} {s : WS} (h : Wk W H s) (X Y : Int) : Goes W H s (mvS (lineS s) X Y) := ⟨h.line.mv X Y, fun e => (by cases e), line_back h⟩
/-- Other numbers on the same rows. -/
theorem Wk.nm {W H : Nat} {s : WS} (h : Wk W H s) (q : Nm) (ew : q.w = s.p.w) (eh : q.h = s.p.h) (ex : q.x = s.p.x) (ey : q.y = s.p.y) (et : q.top = s.p.top) (eb : q.bottom = s.p.bottom) : Wk W H ⟨q, s.L, s.B⟩ :=
  ⟨⟨ew.trans h.ok.pw, eh.trans h.ok.ph, by rw [ex]; exact h.ok.x0, by rw [ex]; exact h.ok.x1, by rw [ey]; exact h.ok.y0, by rw [ey]; exact h.ok.y1, h.ok.ln, h.ok.rows, h.ok.bn, h.ok.back⟩, h.W1, h.W2, h.H1, h.H2, by rw [et]; exact h.t0, by rw [et, eb]; exact h.tb, by rw [eb]; exact h.b1⟩
theorem Goes.nm {W H : Nat} {s : WS} (h : Wk W H s) (hw : WrOk W s) (q : Nm) (ew : q.w = s.p.w) (eh : q.h = s.p.h) (ex : q.x = s.p.x) (ey : q.y = s.p.y) (et : q.top = s.p.top) (eb : q.bottom = s.p.bottom) (er : q.wrap = s.p.wrap) : Goes W H s ⟨q, s.L, s.B⟩ :=
  ⟨h.nm q ew eh ex ey et eb, fun e => by show q.x = _; rw [ex]; exact hw (er ▸ e), Nat.le_refl _⟩
theorem Goes.ctl {W H : Nat} {s : WS} (h : Wk W H s) (hw : WrOk W s) (r : Int) : Goes W H s (ctlF s r) := by
  unfold ctlF
  split
  · exact .mv h _ _
  split
  · exact .mv h _ _
  split
  · exact .lmv h _ _
  split
  · exact .mv h _ _
  exact .refl h hw
theorem Goes.esc {W H : Nat} {s : WS} (h : Wk W H s) (hw : WrOk W s) (r : Int) : Goes W H s (escF s r) := by
  unfold escF
  split
  · exact .lmv h _ _
  split
  · unfold backS
    split
    · exact ⟨h.down (movedNm s.p s.p.x s.p.y) s.p.top s.p.bottom 1 (h.mv _ _), fun e => (by cases e), Nat.le_refl _⟩
    · exact .mv h _ _
  split
  · exact .lmv h _ _
  split
  · exact .nm h hw _ rfl rfl rfl rfl rfl rfl rfl
  split
  · have h2 : Wk W H ⟨{ s.p with a := s.p.sa }, s.L, s.B⟩ := h.nm _ rfl rfl rfl rfl rfl rfl
    exact ⟨h2.mv s.p.sx s.p.sy, fun e => (by cases e), Nat.le_refl _⟩
  split
  · have ew := h.ok.pw
    have eh := h.ok.ph
    have w1 := h.W1
    have h1 := h.H1
    refine ⟨⟨⟨ew, eh, Int.le_refl _, by show (0 : Int) < W; omega, Int.le_refl _, by show (0 : Int) < H; omega, ?_, ?_, h.ok.bn, h.ok.back⟩, h.W1, h.W2, h.H1, h.H2, Int.le_refl _, by show (0 : Int) ≤ s.p.h - 1; omega, by show s.p.h - 1 < (H : Int); omega⟩, fun e => (by cases e), Nat.le_refl _⟩
    · show (blankL s.p.w s.p.h.toNat).length = H
      rw [blankL_len, eh]
      rfl
    · intro l hl
      have hl' : l ∈ blankL s.p.w s.p.h.toNat := hl
      rw [(List.mem_replicate.1 hl').2, ew]
      exact blankF_w W h.W2
  exact .refl h hw
theorem Goes.row {W H : Nat} {s : WS} (h : Wk W H s) (hw : WrOk W s) (f : List C → List C) (hf : ∀ l, (f l).length = l.length) : Goes W H s (rowS s f) := by
  obtain ⟨y, hy, e1, e2, e3, e4, _⟩ := h.at
  unfold rowS
  rw [e2, e3]
  exact ⟨h.set s.p y _ (by rw [hf]; exact e4) h, hw, Nat.le_refl _⟩
theorem Goes.rew {W H : Nat} {s : WS} (h : Wk W H s) (hw : WrOk W s) (r n part : Int) : Goes W H s (rewF s r n part) := by
  unfold rewF
  split
  · split
    · have g := Goes.row h hw (fun l => rclearF l part s.p.x) (fun l => rclearF_len l _ _)
      refine ⟨⟨⟨g.k.ok.pw, g.k.ok.ph, g.k.ok.x0, g.k.ok.x1, g.k.ok.y0, g.k.ok.y1, ?_, ?_, g.k.ok.bn, g.k.ok.back⟩, g.k.W1, g.k.W2, g.k.H1, g.k.H2, g.k.t0, g.k.tb, g.k.b1⟩, hw, Nat.le_refl _⟩
      · show (scrF _ _ _ _).length = H
        rw [scrF_len]
        exact g.k.ok.ln
      · intro l hl
        have hl' : l ∈ scrF (rowS s fun l => rclearF l part s.p.x).L part s.p.y.toNat s.L.length := hl
        simp only [scrF, List.mem_mapIdx] at hl'
        obtain ⟨i, hi, e⟩ := hl'
        have hm := g.k.ok.rows _ (List.getElem_mem hi)
        rw [← e]
        split
        · rw [clearF_len]
          exact hm
        · exact hm
    · exact .refl h hw
  split
  · split
    · exact .row h hw _ (fun l => rclearF_len l _ _)
    · exact .refl h hw
  split
  · split
    · exact .refl h hw
    · exact ⟨h.down (movedNm s.p 0 s.p.y) s.p.y s.p.bottom n (h.mv _ _), fun e => (by cases e), Nat.le_refl _⟩
  split
  · split
    · exact .refl h hw
    · exact ⟨h.up (movedNm s.p 0 s.p.y) s.p.y s.p.bottom n s.B (h.mv _ _) h.ok.bn h.ok.back, fun e => (by cases e), Nat.le_refl _⟩
  split
  · exact .row h hw _ (fun l => insertF_len l _ _)
  split
  · exact .row h hw _ (fun l => deleteF_len l _ _)
  split
  · exact .row h hw _ (fun l => clearF_len l _ _)
  split
  · exact ⟨h.up s.p s.p.top s.p.bottom n (upTB s.L s.B s.p.top s.p.bottom n) h (upBack_len h.ok.bn) (upBack_rows h.rows h.ok.back), hw, upBack_ge h.ok.bn⟩
  split
  · exact ⟨h.down s.p s.p.top s.p.bottom n h, hw, Nat.le_refl _⟩
  exact .refl h hw
theorem Goes.csi {W H : Nat} {s : WS} (h : Wk W H s) (hw : WrOk W s) (r : Int) (xs : List Int) : Goes W H s (csiF s r xs) := by
  unfold csiF
  split
  · exact .mv h _ _
  split
  · exact .mv h _ _
  split
  · exact .mv h _ _
  split
  · exact .mv h _ _
  split
  · exact .mv h _ _
  split
  · exact .mv h _ _
  split
  · exact .mv h _ _
  split
  · split
    · rename_i htu
      have eh := h.ok.ph
      have a0 := within_lt (toldF xs 0 1 - 1) H h.H1
      have b0 := within_lt (toldF xs 1 s.p.h - 1) H h.H1
      rw [eh] at htu b0 ⊢
      have h2 : Wk W H ⟨{ s.p with top := withinF (toldF xs 0 1 - 1) ((H : Int) - 1), bottom := withinF (toldF xs 1 (H : Int) - 1) ((H : Int) - 1) }, s.L, s.B⟩ := ⟨⟨h.ok.pw, h.ok.ph, h.ok.x0, h.ok.x1, h.ok.y0, h.ok.y1, h.ok.ln, h.ok.rows, h.ok.bn, h.ok.back⟩, h.W1, h.W2, h.H1, h.H2, a0.1, Int.le_of_lt htu, b0.2⟩
      exact ⟨h2.mv 0 0, fun e => (by cases e), Nat.le_refl _⟩
    · exact .refl h hw
  split
  · exact .nm h hw _ rfl rfl rfl rfl rfl rfl rfl
  exact .rew h hw r _ _
theorem sw_same (r : Int) (xs : List Int) : ∀ p : Nm, (xs.foldl (swF r) p).w = p.w ∧ (xs.foldl (swF r) p).h = p.h ∧ (xs.foldl (swF r) p).x = p.x ∧ (xs.foldl (swF r) p).y = p.y ∧ (xs.foldl (swF r) p).top = p.top ∧ (xs.foldl (swF r) p).bottom = p.bottom ∧ (xs.foldl (swF r) p).wrap = p.wrap := by
  induction xs with
  | nil => exact fun p => ⟨rfl, rfl, rfl, rfl, rfl, rfl, rfl⟩
  | cons x xs ih =>
    intro p
    have h1 := ih (swF r p x)
    have h2 : (swF r p x).w = p.w ∧ (swF r p x).h = p.h ∧ (swF r p x).x = p.x ∧ (swF r p x).y = p.y ∧ (swF r p x).top = p.top ∧ (swF r p x).bottom = p.bottom ∧ (swF r p x).wrap = p.wrap := by
      unfold swF
      split
      · exact ⟨rfl, rfl, rfl, rfl, rfl, rfl, rfl⟩
      split
      · exact ⟨rfl, rfl, rfl, rfl, rfl, rfl, rfl⟩
      exact ⟨rfl, rfl, rfl, rfl, rfl, rfl, rfl⟩
    simp only [List.foldl_cons]
    exact ⟨h1.1.trans h2.1, h1.2.1.trans h2.2.1, h1.2.2.1.trans h2.2.2.1, h1.2.2.2.1.trans h2.2.2.2.1, h1.2.2.2.2.1.trans h2.2.2.2.2.1, h1.2.2.2.2.2.1.trans h2.2.2.2.2.2.1, h1.2.2.2.2.2.2.trans h2.2.2.2.2.2.2⟩
theorem Goes.put {W H : Nat} {s : WS} (h : Wk W H s) (r : Int) : Goes W H s (wput (wline s) r) := by
  refine ⟨h.wline.put r, ?_, ?_⟩
  · intro e
    have e' : (printNm (wline s).p).wrap = true := e
    show (printNm (wline s).p).x = _
    have ew := h.wline.ok.pw
    have x1 := h.wline.ok.x1
    unfold printNm at e' ⊢
    split at e'
    · rename_i hc
      rw [if_pos hc]
      show (wline s).p.x = _
      omega
    · cases e'
  · show s.B.length ≤ (wline s).B.length
    unfold Ytpcpmeihebgncaa.wline
    split
    · exact line_back h.x
    · exact Nat.le_refl _
/-- An action leaves a whole screen whole. -/
theorem Goes.act {W H : Nat} {s : WS} (h : Wk W H s) (hw : WrOk W s) (kind r : Int) (xs : List Int) : Goes W H s (actF s kind r xs) := by
  unfold actF
  split
  · exact .put h r
  split
  · exact .ctl h hw r
  split
  · exact .esc h hw r
  split
  · exact .csi h hw r xs
  split
  · unfold swNm
    split
    · have hh := sw_same r xs s.p
      exact .nm h hw _ hh.1 hh.2.1 hh.2.2.1 hh.2.2.2.1 hh.2.2.2.2.1 hh.2.2.2.2.2.1 hh.2.2.2.2.2.2
    · exact .refl h hw
  exact .refl h hw
end Go.Proofs.Ytpcpmeihebgncaa
