/-
  A screen's memory: fifteen cells in a block of its own; what is read of it, and what storing a whole screen leaves. No condition.
-/
import Derived.Test.YtpcpmeihebgncaaConcat
namespace Go.Proofs.Ytpcpmeihebgncaa
open Go.RowKit
set_option maxRecDepth 100000

/-- Block g is the screen of these numbers, rows and lines that went. -/
def Box (w : World) (g : Nat) (p : Nm) (r b : Value) : Prop := Held w g 35 (gcs p r b)
theorem Box.below {w w' : World} {g C : Nat} {p : Nm} {r b : Value} (h : Box w g p r b) (hb : Below C w w') (hC : g < C) : Box w' g p r b := Held.below h hb hC
theorem Box.alloc {w : World} {g : Nat} {p : Nm} {r b : Value} (h : Box w g p r b) (o : Obj) : Box (w.alloc o) g p r b := Held.alloc h o
theorem Box.lt {w : World} {g : Nat} {p : Nm} {r b : Value} (h : Box w g p r b) : g < w.heap.size := Held.lt h
theorem Box.far {w : World} {g : Nat} {p : Nm} {r b : Value} (h : Box w g p r b) {q : Addr} (hp : g ≠ q.block) (x : Value) : Box (w.setCell q x) g p r b := Held.far h hp x
theorem Box.new (w : World) (p : Nm) (r b : Value) : Box (w.alloc (.cells (gcs p r b) 35)) w.heap.size p r b := Held.new _ _ _
structure BoxCells (w : World) (g : Nat) (p : Nm) (r b : Value) : Prop where
  c0 : w.cell? ⟨g, 0, none⟩ = some (.int .i64 p.w)
  c1 : w.cell? ⟨g, 1, none⟩ = some (.int .i64 p.h)
  c2 : w.cell? ⟨g, 2, none⟩ = some (.int .i64 p.x)
  c3 : w.cell? ⟨g, 3, none⟩ = some (.int .i64 p.y)
  c4 : w.cell? ⟨g, 4, none⟩ = some (.bool p.wrap)
  c5 : w.cell? ⟨g, 5, none⟩ = some (.int .i64 p.a)
  c6 : w.cell? ⟨g, 6, none⟩ = some (.int .i64 p.top)
  c7 : w.cell? ⟨g, 7, none⟩ = some (.int .i64 p.bottom)
  c8 : w.cell? ⟨g, 8, none⟩ = some (.int .i64 p.sx)
  c9 : w.cell? ⟨g, 9, none⟩ = some (.int .i64 p.sy)
  c10 : w.cell? ⟨g, 10, none⟩ = some (.int .i64 p.sa)
  c11 : w.cell? ⟨g, 11, none⟩ = some (.bool p.noWrap)
  c12 : w.cell? ⟨g, 12, none⟩ = some (.bool p.hidden)
  c13 : w.cell? ⟨g, 13, none⟩ = some (r)
  c14 : w.cell? ⟨g, 14, none⟩ = some (b)
  free : ∀ o, w.frozen? ⟨g, o, none⟩ = false
theorem Box.cells {w : World} {g : Nat} {p : Nm} {r b : Value} (h : Box w g p r b) : BoxCells w g p r b :=
  ⟨Held.cell h 0, Held.cell h 1, Held.cell h 2, Held.cell h 3, Held.cell h 4, Held.cell h 5, Held.cell h 6, Held.cell h 7, Held.cell h 8, Held.cell h 9, Held.cell h 10, Held.cell h 11, Held.cell h 12, Held.cell h 13, Held.cell h 14, Held.frozen h⟩
/-- The screen that a new variable holds. -/
def zeroNm : Nm := ⟨0, 0, 0, 0, false, 0, 0, 0, 0, 0, 0, false, false⟩
/-- A whole screen stored into block g. -/
def put15 (w : World) (g : Nat) (p : Nm) (r b : Value) : World := ((((((((((((((w.setCell ⟨g, 0, none⟩ (.int .i64 p.w)).setCell ⟨g, 1, none⟩ (.int .i64 p.h)).setCell ⟨g, 2, none⟩ (.int .i64 p.x)).setCell ⟨g, 3, none⟩ (.int .i64 p.y)).setCell ⟨g, 4, none⟩ (.bool p.wrap)).setCell ⟨g, 5, none⟩ (.int .i64 p.a)).setCell ⟨g, 6, none⟩ (.int .i64 p.top)).setCell ⟨g, 7, none⟩ (.int .i64 p.bottom)).setCell ⟨g, 8, none⟩ (.int .i64 p.sx)).setCell ⟨g, 9, none⟩ (.int .i64 p.sy)).setCell ⟨g, 10, none⟩ (.int .i64 p.sa)).setCell ⟨g, 11, none⟩ (.bool p.noWrap)).setCell ⟨g, 12, none⟩ (.bool p.hidden)).setCell ⟨g, 13, none⟩ r).setCell ⟨g, 14, none⟩ b
theorem put15_box {w : World} {g : Nat} {q p : Nm} {r0 b0 : Value} (h : Box w g q r0 b0) (r b : Value) : Box (put15 w g p r b) g p r b := by
  have := (Held.set1 (Held.set1 (Held.set1 (Held.set1 (Held.set1 (Held.set1 (Held.set1 (Held.set1 (Held.set1 (Held.set1 (Held.set1 (Held.set1 (Held.set1 (Held.set1 (Held.set1 h 0 (.int .i64 p.w)) 1 (.int .i64 p.h)) 2 (.int .i64 p.x)) 3 (.int .i64 p.y)) 4 (.bool p.wrap)) 5 (.int .i64 p.a)) 6 (.int .i64 p.top)) 7 (.int .i64 p.bottom)) 8 (.int .i64 p.sx)) 9 (.int .i64 p.sy)) 10 (.int .i64 p.sa)) 11 (.bool p.noWrap)) 12 (.bool p.hidden)) 13 (r)) 14 (b))
  simp only [gcs, List.setIfInBounds_toArray, List.set_cons_succ, List.set_cons_zero] at this
  exact this
theorem put15_below {B : Nat} {w0 w : World} {g : Nat} (h : Below B w0 w) (hg : B ≤ g) (p : Nm) (r b : Value) : Below B w0 (put15 w g p r b) :=
  (((((((((((((((h.setCell (p := ⟨g, 0, none⟩) hg _).setCell (p := ⟨g, 1, none⟩) hg _).setCell (p := ⟨g, 2, none⟩) hg _).setCell (p := ⟨g, 3, none⟩) hg _).setCell (p := ⟨g, 4, none⟩) hg _).setCell (p := ⟨g, 5, none⟩) hg _).setCell (p := ⟨g, 6, none⟩) hg _).setCell (p := ⟨g, 7, none⟩) hg _).setCell (p := ⟨g, 8, none⟩) hg _).setCell (p := ⟨g, 9, none⟩) hg _).setCell (p := ⟨g, 10, none⟩) hg _).setCell (p := ⟨g, 11, none⟩) hg _).setCell (p := ⟨g, 12, none⟩) hg _).setCell (p := ⟨g, 13, none⟩) hg _).setCell (p := ⟨g, 14, none⟩) hg _)
theorem put15_size (w : World) (g : Nat) (p : Nm) (r b : Value) : (put15 w g p r b).heap.size = w.heap.size := by simp [put15]
theorem put15_held {w : World} {g k : Nat} {t : TypeId} {cs : Array Value} (h : Held w k t cs) (hk : k ≠ g) (p : Nm) (r b : Value) : Held (put15 w g p r b) k t cs :=
  (Held.far (Held.far (Held.far (Held.far (Held.far (Held.far (Held.far (Held.far (Held.far (Held.far (Held.far (Held.far (Held.far (Held.far (Held.far h (p := ⟨g, 0, none⟩) hk _) (p := ⟨g, 1, none⟩) hk _) (p := ⟨g, 2, none⟩) hk _) (p := ⟨g, 3, none⟩) hk _) (p := ⟨g, 4, none⟩) hk _) (p := ⟨g, 5, none⟩) hk _) (p := ⟨g, 6, none⟩) hk _) (p := ⟨g, 7, none⟩) hk _) (p := ⟨g, 8, none⟩) hk _) (p := ⟨g, 9, none⟩) hk _) (p := ⟨g, 10, none⟩) hk _) (p := ⟨g, 11, none⟩) hk _) (p := ⟨g, 12, none⟩) hk _) (p := ⟨g, 13, none⟩) hk _) (p := ⟨g, 14, none⟩) hk _)
theorem Box.set_w {w : World} {g : Nat} {p : Nm} {r b : Value} (h : Box w g p r b) (v : Int) : Box (w.setCell ⟨g, 0, none⟩ (.int .i64 v)) g { p with w := v } r b := by
  have := Held.set1 h 0 (.int .i64 v)
  simp only [gcs, List.setIfInBounds_toArray, List.set_cons_zero] at this
  exact this
theorem Box.set_h {w : World} {g : Nat} {p : Nm} {r b : Value} (h : Box w g p r b) (v : Int) : Box (w.setCell ⟨g, 1, none⟩ (.int .i64 v)) g { p with h := v } r b := by
  have := Held.set1 h 1 (.int .i64 v)
  simp only [gcs, List.setIfInBounds_toArray, List.set_cons_succ, List.set_cons_zero] at this
  exact this
theorem Box.set_x {w : World} {g : Nat} {p : Nm} {r b : Value} (h : Box w g p r b) (v : Int) : Box (w.setCell ⟨g, 2, none⟩ (.int .i64 v)) g { p with x := v } r b := by
  have := Held.set1 h 2 (.int .i64 v)
  simp only [gcs, List.setIfInBounds_toArray, List.set_cons_succ, List.set_cons_zero] at this
  exact this
theorem Box.set_y {w : World} {g : Nat} {p : Nm} {r b : Value} (h : Box w g p r b) (v : Int) : Box (w.setCell ⟨g, 3, none⟩ (.int .i64 v)) g { p with y := v } r b := by
  have := Held.set1 h 3 (.int .i64 v)
  simp only [gcs, List.setIfInBounds_toArray, List.set_cons_succ, List.set_cons_zero] at this
  exact this
theorem Box.set_wrap {w : World} {g : Nat} {p : Nm} {r b : Value} (h : Box w g p r b) (v : Bool) : Box (w.setCell ⟨g, 4, none⟩ (.bool v)) g { p with wrap := v } r b := by
  have := Held.set1 h 4 (.bool v)
  simp only [gcs, List.setIfInBounds_toArray, List.set_cons_succ, List.set_cons_zero] at this
  exact this
theorem Box.set_a {w : World} {g : Nat} {p : Nm} {r b : Value} (h : Box w g p r b) (v : Int) : Box (w.setCell ⟨g, 5, none⟩ (.int .i64 v)) g { p with a := v } r b := by
  have := Held.set1 h 5 (.int .i64 v)
  simp only [gcs, List.setIfInBounds_toArray, List.set_cons_succ, List.set_cons_zero] at this
  exact this
theorem Box.set_top {w : World} {g : Nat} {p : Nm} {r b : Value} (h : Box w g p r b) (v : Int) : Box (w.setCell ⟨g, 6, none⟩ (.int .i64 v)) g { p with top := v } r b := by
  have := Held.set1 h 6 (.int .i64 v)
  simp only [gcs, List.setIfInBounds_toArray, List.set_cons_succ, List.set_cons_zero] at this
  exact this
theorem Box.set_bottom {w : World} {g : Nat} {p : Nm} {r b : Value} (h : Box w g p r b) (v : Int) : Box (w.setCell ⟨g, 7, none⟩ (.int .i64 v)) g { p with bottom := v } r b := by
  have := Held.set1 h 7 (.int .i64 v)
  simp only [gcs, List.setIfInBounds_toArray, List.set_cons_succ, List.set_cons_zero] at this
  exact this
theorem Box.set_sx {w : World} {g : Nat} {p : Nm} {r b : Value} (h : Box w g p r b) (v : Int) : Box (w.setCell ⟨g, 8, none⟩ (.int .i64 v)) g { p with sx := v } r b := by
  have := Held.set1 h 8 (.int .i64 v)
  simp only [gcs, List.setIfInBounds_toArray, List.set_cons_succ, List.set_cons_zero] at this
  exact this
theorem Box.set_sy {w : World} {g : Nat} {p : Nm} {r b : Value} (h : Box w g p r b) (v : Int) : Box (w.setCell ⟨g, 9, none⟩ (.int .i64 v)) g { p with sy := v } r b := by
  have := Held.set1 h 9 (.int .i64 v)
  simp only [gcs, List.setIfInBounds_toArray, List.set_cons_succ, List.set_cons_zero] at this
  exact this
theorem Box.set_sa {w : World} {g : Nat} {p : Nm} {r b : Value} (h : Box w g p r b) (v : Int) : Box (w.setCell ⟨g, 10, none⟩ (.int .i64 v)) g { p with sa := v } r b := by
  have := Held.set1 h 10 (.int .i64 v)
  simp only [gcs, List.setIfInBounds_toArray, List.set_cons_succ, List.set_cons_zero] at this
  exact this
theorem Box.set_noWrap {w : World} {g : Nat} {p : Nm} {r b : Value} (h : Box w g p r b) (v : Bool) : Box (w.setCell ⟨g, 11, none⟩ (.bool v)) g { p with noWrap := v } r b := by
  have := Held.set1 h 11 (.bool v)
  simp only [gcs, List.setIfInBounds_toArray, List.set_cons_succ, List.set_cons_zero] at this
  exact this
theorem Box.set_hidden {w : World} {g : Nat} {p : Nm} {r b : Value} (h : Box w g p r b) (v : Bool) : Box (w.setCell ⟨g, 12, none⟩ (.bool v)) g { p with hidden := v } r b := by
  have := Held.set1 h 12 (.bool v)
  simp only [gcs, List.setIfInBounds_toArray, List.set_cons_succ, List.set_cons_zero] at this
  exact this
theorem Box.set_rows {w : World} {g : Nat} {p : Nm} {r b : Value} (h : Box w g p r b) (v : Value) : Box (w.setCell ⟨g, 13, none⟩ v) g p v b := by
  have := Held.set1 h 13 v
  simp only [gcs, List.setIfInBounds_toArray, List.set_cons_succ, List.set_cons_zero] at this
  exact this
theorem Box.set_back {w : World} {g : Nat} {p : Nm} {r b : Value} (h : Box w g p r b) (v : Value) : Box (w.setCell ⟨g, 14, none⟩ v) g p r v := by
  have := Held.set1 h 14 v
  simp only [gcs, List.setIfInBounds_toArray, List.set_cons_succ, List.set_cons_zero] at this
  exact this
theorem Lines.put15 {B : Nat} {w : World} {D : Option Addr} {L : List (List C)} (h : Lines B w D L) {g : Nat} (hg : g < B) (p : Nm) (r b : Value) : Lines B (put15 w g p r b) D L :=
  (((((((((((((((h.far (p := ⟨g, 0, none⟩) hg _).far (p := ⟨g, 1, none⟩) hg _).far (p := ⟨g, 2, none⟩) hg _).far (p := ⟨g, 3, none⟩) hg _).far (p := ⟨g, 4, none⟩) hg _).far (p := ⟨g, 5, none⟩) hg _).far (p := ⟨g, 6, none⟩) hg _).far (p := ⟨g, 7, none⟩) hg _).far (p := ⟨g, 8, none⟩) hg _).far (p := ⟨g, 9, none⟩) hg _).far (p := ⟨g, 10, none⟩) hg _).far (p := ⟨g, 11, none⟩) hg _).far (p := ⟨g, 12, none⟩) hg _).far (p := ⟨g, 13, none⟩) hg _).far (p := ⟨g, 14, none⟩) hg _)
theorem Box.far15 {w : World} {g k : Nat} {q : Nm} {r0 b0 : Value} (h : Box w k q r0 b0) (hk : k ≠ g) (p : Nm) (r b : Value) : Box (Ytpcpmeihebgncaa.put15 w g p r b) k q r0 b0 := put15_held h hk p r b

/-- A screen: its rows, and the lines that went. -/
structure Scr (B : Nat) (w : World) (D E : Option Addr) (n c m d : Nat) (L Bk : List (List C)) : Prop where
  rows : Lines B w D L
  back : Lines B w E Bk
  nr : L.length = n
  nb : Bk.length = m
  cr : n ≤ c
  cb : m ≤ d
theorem Scr.some {B : Nat} {w : World} {D E : Option Addr} {n c m d : Nat} {L Bk : List (List C)} (h : Scr B w D E n c m d L Bk) (h0 : 1 ≤ n) : ∃ b o, D = some ⟨b, o, none⟩ := by
  obtain ⟨b, o, _, _, e, _⟩ := h.rows.at 0 (by rw [h.nr]; omega)
  exact ⟨b, o, e⟩
theorem Scr.below {B C : Nat} {w w' : World} {D E : Option Addr} {n c m d : Nat} {L Bk : List (List Ytpcpmeihebgncaa.C)} (h : Scr B w D E n c m d L Bk) (hb : Below C w w') (hC : w.heap.size ≤ C) : Scr B w' D E n c m d L Bk :=
  ⟨h.rows.below hb hC, h.back.below hb hC, h.nr, h.nb, h.cr, h.cb⟩
theorem Scr.weak {B A : Nat} {w : World} {D E : Option Addr} {n c m d : Nat} {L Bk : List (List C)} (h : Scr B w D E n c m d L Bk) (hA : A ≤ B) : Scr A w D E n c m d L Bk := ⟨h.rows.weak hA, h.back.weak hA, h.nr, h.nb, h.cr, h.cb⟩
/-- A screen of the call's own comes back. -/
def GridPost (w : World) (p : Nm) (L Bk : List (List C)) (e : Ending) (w' : World) : Prop :=
  ∃ D E n c m d, e = .returned (gv p (.slice D n c) (.slice E m d)) ∧ Scr w.heap.size w' D E n c m d L Bk ∧ Below w.heap.size w w'

/-- The values vs are rows that are blocks of their own. -/
def RowsH (B : Nat) (w : World) (vs : List Value) (L : List (List C)) : Prop := vs.length = L.length ∧ ∀ k (h : k < vs.length) (h' : k < L.length), ∃ g, B ≤ g ∧ vs[k] = .slice (some ⟨g, 0, none⟩) L[k].length L[k].length ∧ Row w g L[k]
theorem RowsH.nil (B : Nat) (w : World) : RowsH B w [] [] := ⟨rfl, fun k h => by simp at h⟩
theorem RowsH.v {B : Nat} {w : World} {vs : List Value} {L : List (List C)} (h : RowsH B w vs L) : RowsV B w vs L := ⟨h.1, fun k h1 h2 => by
  obtain ⟨g, hg, e, hr⟩ := h.2 k h1 h2
  exact ⟨_, _, e, Nat.le_refl _, hr.at hg⟩⟩
theorem RowsH.map {B : Nat} {w w' : World} {vs : List Value} {L : List (List C)} (h : RowsH B w vs L) (f : ∀ g l, B ≤ g → Row w g l → Row w' g l) : RowsH B w' vs L := ⟨h.1, fun k h1 h2 => by
  obtain ⟨g, hg, e, hr⟩ := h.2 k h1 h2
  exact ⟨g, hg, e, f _ _ hg hr⟩⟩
theorem RowsH.next {B : Nat} {w : World} {vs : List Value} {L : List (List C)} (h : RowsH B w vs L) {g : Nat} {l : List C} (hg : B ≤ g) (hr : Row w g l) : RowsH B w (vs ++ [.slice (some ⟨g, 0, none⟩) l.length l.length]) (L ++ [l]) := by
  refine ⟨by simp [h.1], fun k h1 h2 => ?_⟩
  have e := h.1
  rw [List.getElem_append, List.getElem_append]
  by_cases hk : k < vs.length
  · rw [dif_pos hk, dif_pos (by omega)]
    exact h.2 _ _ _
  · rw [dif_neg hk, dif_neg (by omega)]
    simp only [List.getElem_singleton]
    exact ⟨g, hg, rfl, hr⟩

def newNm (x y : Int) : Nm := ⟨x, y, 0, 0, false, 0, 0, y - 1, 0, 0, 0, false, false⟩
theorem blankL_next (x : Int) (k : Nat) : blankL x k ++ [blankF x] = blankL x (k + 1) := by simp [blankL, List.replicate_succ']
theorem blankL_len (x : Int) (k : Nat) : (blankL x k).length = k := by simp [blankL]
end Go.Proofs.Ytpcpmeihebgncaa
