/-
  What the statements' own Grid answers: a screen of one to eight by one to eight cells, rows as wide as it says, its places on it, at most fifty lines that went, each of one letter. Conditions: the row that came in reads as numbers.
-/
import Derived.Test.YtpcpmeihebgncaaB2
import Derived.Test.YtpcpmeihebgncaaNew
import Derived.Deep.Cut
import Derived.Deep.DeepCutAuto
import Derived.Deep.RegionHeld3
namespace Go.Proofs.Ytpcpmeihebgncaa
open Go.RowKit
set_option maxRecDepth 100000

/-- What k answers, called with i. -/
theorem kcall (g : Nat) (xs : List Int) (i : Nat) : ∃ z : Int, Hid (∀ w, KOk w g xs → Calls Try.prog 32 #[.int .i64 (i : Int), .pointer (some ⟨g, 0, none⟩)] w fun e w' => e = .returned (.int .i64 z) ∧ w = w') := ⟨kF xs i, fun w h => k_any i g xs w h⟩
theorem gmask7 (z : Int) : ∃ a : Nat, a ≤ 7 ∧ bits .and .i64 z 7 = a := ⟨(z % 8).toNat, by omega, by rw [i64_and7]; omega⟩
theorem gmask63 (z : Int) : ∃ a : Nat, a ≤ 63 ∧ bits .and .i64 z 63 = a := ⟨(z % 64).toNat, by omega, by rw [i64_and63]; omega⟩
theorem gmask15 (z : Int) : ∃ a : Nat, a ≤ 15 ∧ bits .and .i64 z 15 = a := ⟨(z % 16).toNat, by omega, by rw [i64_and15]; omega⟩
theorem gmask255 (z : Int) : ∃ a : Nat, a ≤ 255 ∧ bits .and .i64 z 255 = a := ⟨(z % 256).toNat, by omega, by rw [i64_and255]; omega⟩

/-- The screen that is made, on its way. -/
structure GSt (w0 : World) (g tb tq W n c : Nat) (p : Nm) (bv : Value) (wr : World) : Prop where
  box : Box wr g p (.slice (some ⟨tb, tq, none⟩) n c) bv
  rows : LN w0.heap.size wr tb tq n W
  below : Below w0.heap.size w0 wr
theorem GSt.set {w0 : World} {g tb tq W n c : Nat} {p p' : Nm} {bv bv' : Value} {wr : World} (h : GSt w0 g tb tq W n c p bv wr) (hg : tb < g) (hB : w0.heap.size ≤ g) {o : Nat} {old v : Value} (hc : wr.cell? ⟨g, o, none⟩ = some old) (hv : ∀ k y, old = .int k y → ∃ x, v = .int k x)
    (hb : Box (wr.setCell ⟨g, o, none⟩ v) g p' (.slice (some ⟨tb, tq, none⟩) n c) bv') : GSt w0 g tb tq W n c p' bv' (wr.setCell ⟨g, o, none⟩ v) :=
  ⟨hb, h.rows.set (a := ⟨g, o, none⟩) (.inl (by exact (by omega : g ≠ tb))) hc hv, h.below.setCell (p := ⟨g, o, none⟩) (by exact hB) _⟩
theorem GSt.drew {w0 : World} {g tb tq W n c : Nat} {p : Nm} {bv : Value} {wr : World} (h : GSt w0 g tb tq W n c p bv wr) : GSt w0 g tb tq W n c p bv wr.drew :=
  ⟨h.box, h.rows.below (below_drewN (Below.refl _ _) 1) (Nat.le_refl _), below_drewN h.below 1⟩
/-- A cell of a row is stored. -/
theorem GSt.put {w0 : World} {g tb tq W n c : Nat} {p : Nm} {m d : Nat} {E : Option Addr} {wr : World} (h : GSt w0 g tb tq W n c p (.slice E m d) wr) {b o : Nat} {x y : Int} (hB : w0.heap.size ≤ b) (hx : wr.cell? ⟨b, o, none⟩ = some (.int .i32 x)) (hy : wr.cell? ⟨b, o + 1, none⟩ = some (.int .i64 y)) (x' y' : Int) :
    GSt w0 g tb tq W n c p (.slice E m d) ((wr.setCell ⟨b, o, none⟩ (.int .i32 x')).setCell ⟨b, o + 1, none⟩ (.int .i64 y')) := by
  have hne := h.box.no_rune hx
  have hy' : (wr.setCell ⟨b, o, none⟩ (.int .i32 x')).cell? ⟨b, o + 1, none⟩ = some (.int .i64 y) := (World.cell?_setCell_other _ _ _ _ (by intro e; have := congrArg Addr.off e; simp at this)).trans hy
  refine ⟨(h.box.far (q := ⟨b, o, none⟩) (by exact fun e => hne e.symm) _).far (q := ⟨b, o + 1, none⟩) (by exact fun e => hne e.symm) _, (h.rows.set (a := ⟨b, o, none⟩) (.inr fun _ _ _ e => by cases e) hx fun k z e => ?_).set (a := ⟨b, o + 1, none⟩) (.inr fun _ _ _ e => by cases e) hy' fun k z e => ?_, (h.below.setCell (p := ⟨b, o, none⟩) (by exact hB) _).setCell (p := ⟨b, o + 1, none⟩) (by exact hB) _⟩
  · injection e with e1 e2; subst e1; exact ⟨_, rfl⟩
  · injection e with e1 e2; subst e1; exact ⟨_, rfl⟩
def GRel (w0 : World) (g tb tq W n c : Nat) (p : Nm) (bv : Value) (N : Nat) (v : Value) (wr : World) : Prop := ∃ k : Nat, v = .int .i64 (k : Int) ∧ k ≤ N ∧ GSt w0 g tb tq W n c p bv wr
theorem blankF_n (W : Nat) (h : W ≤ 1000) : (blankF (W : Int)).length = W := by rw [blankF_len]; unfold withinF; omega
theorem mem_blankL {W n : Nat} (h : W ≤ 1000) : ∀ r ∈ blankL (W : Int) n, r.length = W := by
  intro r hr
  rw [(List.mem_replicate.1 hr).2, blankF_n W h]
theorem gheld_self (x : Int) (h0 : 1 ≤ x) (h1 : x ≤ 1000) : heldF x 1 1000 = x := by unfold heldF; omega
/-- The document's New of a size that is one. -/
theorem rnew_size (a b : Nat) (w : World) (ha : a ≤ 7) (hb : b ≤ 7) : Calls Try.prog 25 #[.int .i64 ((a : Int) + 1), .int .i64 ((b : Int) + 1)] w (NewPost w (newNm ((a + 1 : Nat) : Int) ((b + 1 : Nat) : Int)) (blankL ((a + 1 : Nat) : Int) (b + 1))) := by
  have := rnew_nil ((a : Int) + 1) ((b : Int) + 1) w
  rw [gheld_self ((a : Int) + 1) (by omega) (by omega), gheld_self ((b : Int) + 1) (by omega) (by omega)] at this
  exact this

/-- A screen's numbers are of its size. -/
structure POk (p : Nm) (W n : Nat) : Prop where
  w : p.w = W
  h : p.h = n
  x : p.x < W
  y : p.y < n
  sx : p.sx < W
  sy : p.sy < n
  x0 : 0 ≤ p.x
  y0 : 0 ≤ p.y
  t0 : 0 ≤ p.top
  tb : p.top ≤ p.bottom
  b1 : p.bottom < n
  wr : p.wrap = true → p.x = (W : Int) - 1
/-- The screen so far. -/
def GS (w0 : World) (g tb tq W n c : Nat) (bv : Value) (wr : World) : Prop := ∃ p, POk p W n ∧ GSt w0 g tb tq W n c p bv wr
/-- The screen so far; no wrap waits yet. -/
def GS0 (w0 : World) (g tb tq W n c : Nat) (bv : Value) (wr : World) : Prop := ∃ p, POk p W n ∧ p.wrap = false ∧ GSt w0 g tb tq W n c p bv wr
theorem no_wrap {p : Nm} {P : Prop} (h : p.wrap = false) (e : p.wrap = true) : P := by rw [h] at e; cases e
theorem tmod_ge (a : Nat) {W : Nat} : 0 ≤ Int.tmod (a : Int) (W : Int) := Int.tmod_nonneg _ (by omega)
theorem int_v {old v : Value} {k : IntKind} {y x : Int} (ho : old = .int k y) (hv : v = .int k x) : ∀ k y, old = .int k y → ∃ x, v = .int k x := by
  subst ho hv
  intro k' y' e
  injection e with e1 e2
  subst e1
  exact ⟨_, rfl⟩
theorem bool_v {b : Bool} {v : Value} : ∀ k y, Value.bool b = .int k y → ∃ x, v = .int k x := fun _ _ e => by cases e
theorem slice_v {D : Option Addr} {n c : Nat} {v : Value} : ∀ k y, Value.slice D n c = .int k y → ∃ x, v = .int k x := fun _ _ e => by cases e
theorem keepG {w : World} {g o : Nat} {A Z : Value} (h : 2 ≤ o) (h0 : w.cell? ⟨g, 0, none⟩ = some A) (h1 : w.cell? ⟨g, 1, none⟩ = some Z) (v : Value) : (w.setCell ⟨g, o, none⟩ v).drew.cell? ⟨g, 0, none⟩ = some A ∧ (w.setCell ⟨g, o, none⟩ v).drew.cell? ⟨g, 1, none⟩ = some Z :=
  ⟨(World.cell?_setCell_other _ _ _ _ (by intro e; have := congrArg Addr.off e; simp at this; omega)).trans h0, (World.cell?_setCell_other _ _ _ _ (by intro e; have := congrArg Addr.off e; simp at this; omega)).trans h1⟩
theorem keepG2 {w : World} {g o q : Nat} {A Z : Value} (h : 2 ≤ o) (h' : 2 ≤ q) (h0 : w.cell? ⟨g, 0, none⟩ = some A) (h1 : w.cell? ⟨g, 1, none⟩ = some Z) (v u : Value) : ((w.setCell ⟨g, o, none⟩ v).setCell ⟨g, q, none⟩ u).drew.cell? ⟨g, 0, none⟩ = some A ∧ ((w.setCell ⟨g, o, none⟩ v).setCell ⟨g, q, none⟩ u).drew.cell? ⟨g, 1, none⟩ = some Z :=
  keepG (w := w.setCell ⟨g, o, none⟩ v) h' (keepG h h0 h1 v).1 (keepG h h0 h1 v).2 u
theorem keepG3 {w : World} {g o q s : Nat} {A Z : Value} (h : 2 ≤ o) (h' : 2 ≤ q) (h'' : 2 ≤ s) (h0 : w.cell? ⟨g, 0, none⟩ = some A) (h1 : w.cell? ⟨g, 1, none⟩ = some Z) (v u t : Value) : (((w.setCell ⟨g, o, none⟩ v).setCell ⟨g, q, none⟩ u).setCell ⟨g, s, none⟩ t).drew.cell? ⟨g, 0, none⟩ = some A ∧ (((w.setCell ⟨g, o, none⟩ v).setCell ⟨g, q, none⟩ u).setCell ⟨g, s, none⟩ t).drew.cell? ⟨g, 1, none⟩ = some Z :=
  keepG (w := (w.setCell ⟨g, o, none⟩ v).setCell ⟨g, q, none⟩ u) h'' (keepG2 h h' h0 h1 v u).1 (keepG2 h h' h0 h1 v u).2 t
theorem GSt.xy {w0 : World} {g tb tq W n c : Nat} {p : Nm} {bv : Value} {wr : World} (h : GSt w0 g tb tq W n c p bv wr) (hp : POk p W n) (hg : tb < g) (hB : w0.heap.size ≤ g) (x y : Int) (hx : x < W) (hy : y < n) (hx0 : 0 ≤ x) (hy0 : 0 ≤ y) (hw : p.wrap = false) :
    GS0 w0 g tb tq W n c bv ((wr.setCell ⟨g, 2, none⟩ (.int .i64 x)).setCell ⟨g, 3, none⟩ (.int .i64 y)) := by
  have h1 := h.set hg hB (o := 2) h.box.cells.c2 (int_v rfl rfl) (h.box.set_x x)
  have h2 := h1.set hg hB (o := 3) h1.box.cells.c3 (int_v rfl rfl) (h1.box.set_y y)
  exact ⟨{ { p with x := x } with y := y }, ⟨hp.w, hp.h, hx, hy, hp.sx, hp.sy, hx0, hy0, hp.t0, hp.tb, hp.b1, fun e => no_wrap hw e⟩, hw, h2⟩
theorem keepC {w : World} {g o q : Nat} {A : Value} (h : o ≠ q) (h0 : w.cell? ⟨g, q, none⟩ = some A) (v : Value) : (w.setCell ⟨g, o, none⟩ v).cell? ⟨g, q, none⟩ = some A := (World.cell?_setCell_other _ _ _ _ (by intro e; have := congrArg Addr.off e; simp at this; omega)).trans h0
theorem keepD {w : World} {g o q : Nat} {A : Value} (h : o ≠ q) (h0 : w.cell? ⟨g, q, none⟩ = some A) (v : Value) : (w.setCell ⟨g, o, none⟩ v).drew.cell? ⟨g, q, none⟩ = some A := keepC h h0 v
theorem GSt.flags {w0 : World} {g tb tq W n c : Nat} {p : Nm} {bv : Value} {wr : World} (h : GSt w0 g tb tq W n c p bv wr) (hp : POk p W n) (hg : tb < g) (hB : w0.heap.size ≤ g) (x y z : Bool) (a : Int) (hx : x = true → p.x = (W : Int) - 1) :
    GS w0 g tb tq W n c bv ((((wr.setCell ⟨g, 4, none⟩ (.bool x)).setCell ⟨g, 11, none⟩ (.bool y)).setCell ⟨g, 12, none⟩ (.bool z)).setCell ⟨g, 5, none⟩ (.int .i64 a)) := by
  have h1 := h.set hg hB (o := 4) h.box.cells.c4 bool_v (h.box.set_wrap x)
  have h2 := h1.set hg hB (o := 11) h1.box.cells.c11 bool_v (h1.box.set_noWrap y)
  have h3 := h2.set hg hB (o := 12) h2.box.cells.c12 bool_v (h2.box.set_hidden z)
  have h4 := h3.set hg hB (o := 5) h3.box.cells.c5 (int_v rfl rfl) (h3.box.set_a a)
  exact ⟨{ { { { p with wrap := x } with noWrap := y } with hidden := z } with a := a }, ⟨hp.w, hp.h, hp.x, hp.y, hp.sx, hp.sy, hp.x0, hp.y0, hp.t0, hp.tb, hp.b1, hx⟩, h4⟩
theorem GS.drew {w0 : World} {g tb tq W n c : Nat} {bv : Value} {wr : World} (h : GS w0 g tb tq W n c bv wr) : GS w0 g tb tq W n c bv wr.drew := by
  obtain ⟨p, hp, hs⟩ := h
  exact ⟨p, hp, hs.drew⟩
theorem GS0.drew {w0 : World} {g tb tq W n c : Nat} {bv : Value} {wr : World} (h : GS0 w0 g tb tq W n c bv wr) : GS0 w0 g tb tq W n c bv wr.drew := by
  obtain ⟨p, hp, hw, hs⟩ := h
  exact ⟨p, hp, hw, hs.drew⟩
theorem GSt.sxy {w0 : World} {g tb tq W n c : Nat} {p : Nm} {bv : Value} {wr : World} (h : GSt w0 g tb tq W n c p bv wr) (hp : POk p W n) (hg : tb < g) (hB : w0.heap.size ≤ g) (x y z : Int) (hx : x < W) (hy : y < n) (hw : p.wrap = false) :
    GS0 w0 g tb tq W n c bv (((wr.setCell ⟨g, 8, none⟩ (.int .i64 x)).setCell ⟨g, 9, none⟩ (.int .i64 y)).setCell ⟨g, 10, none⟩ (.int .i64 z)) := by
  have h1 := h.set hg hB (o := 8) h.box.cells.c8 (int_v rfl rfl) (h.box.set_sx x)
  have h2 := h1.set hg hB (o := 9) h1.box.cells.c9 (int_v rfl rfl) (h1.box.set_sy y)
  have h3 := h2.set hg hB (o := 10) h2.box.cells.c10 (int_v rfl rfl) (h2.box.set_sa z)
  exact ⟨{ { { p with sx := x } with sy := y } with sa := z }, ⟨hp.w, hp.h, hp.x, hp.y, hx, hy, hp.x0, hp.y0, hp.t0, hp.tb, hp.b1, fun e => no_wrap hw e⟩, hw, h3⟩
theorem tmod_lt (a : Nat) {W : Nat} (h : 1 ≤ W) : Int.tmod (a : Int) (W : Int) < W := Int.tmod_lt_of_pos _ (by omega)
theorem newNm_ok {W n : Nat} (hW : 1 ≤ W) (hn : 1 ≤ n) : POk (newNm W n) W n := ⟨rfl, rfl, by show (0 : Int) < W; omega, by show (0 : Int) < n; omega, by show (0 : Int) < W; omega, by show (0 : Int) < n; omega, Int.le_refl _, Int.le_refl _, Int.le_refl _, by show (0 : Int) ≤ (n : Int) - 1; omega, by show (n : Int) - 1 < (n : Int); omega, fun e => by cases e⟩

def GSlot (w0 : World) (g tb tq W n c : Nat) (bv : Value) (v : Value) (wr : World) : Prop := (∃ b : Bool, v = .bool b) ∧ GS w0 g tb tq W n c bv wr
theorem GSt.tops {w0 : World} {g tb tq W n c : Nat} {p : Nm} {bv : Value} {wr : World} (h : GSt w0 g tb tq W n c p bv wr) (hp : POk p W n) (hg : tb < g) (hB : w0.heap.size ≤ g) (x y : Int) (hx0 : 0 ≤ x) (hxy : x ≤ y) (hyn : y < n) :
    GS w0 g tb tq W n c bv ((wr.setCell ⟨g, 6, none⟩ (.int .i64 x)).setCell ⟨g, 7, none⟩ (.int .i64 y)) := by
  have h1 := h.set hg hB (o := 6) h.box.cells.c6 (int_v rfl rfl) (h.box.set_top x)
  have h2 := h1.set hg hB (o := 7) h1.box.cells.c7 (int_v rfl rfl) (h1.box.set_bottom y)
  exact ⟨{ { p with top := x } with bottom := y }, ⟨hp.w, hp.h, hp.x, hp.y, hp.sx, hp.sy, hp.x0, hp.y0, hx0, hxy, hyn, hp.wr⟩, h2⟩
theorem GSt.drewN {w0 : World} {g tb tq W n c : Nat} {p : Nm} {bv : Value} {wr : World} (h : GSt w0 g tb tq W n c p bv wr) (m : Nat) : GSt w0 g tb tq W n c p bv (wr.drewN m) :=
  ⟨h.box.below (below_drewN (Below.refl _ _) m) h.box.lt, h.rows.below (below_drewN (Below.refl _ _) m) (Nat.le_refl _), below_drewN h.below m⟩
theorem LN.eq {B : Nat} {w w' : World} {tb tq n W : Nat} (h : LN B w tb tq n W) (hs : w.heap.size ≤ w'.heap.size) (ht : w'.heap[tb]? = w.heap[tb]?) (hf : ∀ b o x, B ≤ b → b < w.heap.size → w.cell? ⟨b, o, none⟩ = some (.int .i32 x) → w'.heap[b]? = w.heap[b]?) : LN B w' tb tq n W := by
  obtain ⟨vs, h1, h2, h3⟩ := h
  refine ⟨vs, h1, h2.eq hs fun b o e _ => by cases e; exact ht, fun k hk => ?_⟩
  obtain ⟨D, c, e, hc, l, hl, hr⟩ := h3 k hk
  exact ⟨D, c, e, hc, l, hl, hr.eq hs hf⟩
/-! ### the lines that went -/
/-- The lines that went, so far. -/
structure BkSt (w0 wc : World) (g : Nat) (p : Nm) (r : Value) (k : Nat) (v : Value) (vs : List Value) (L : List (List C)) (wr : World) : Prop where
  box : Box wr g p r v
  far : ∀ b, b < wc.heap.size → b ≠ g → wr.heap[b]? = wc.heap[b]?
  size : wc.heap.size ≤ wr.heap.size
  own : wr.ownsRow wc.heap.size 46 1 v k vs
  rows : RowsH wc.heap.size wr vs L
  one : ∀ r ∈ L, ∃ x : Int, r = [⟨x, 0⟩] ∧ x ≠ 33
  below : Below w0.heap.size w0 wr
def BkRel (w0 wc : World) (g : Nat) (p : Nm) (r : Value) (i : Value) (wr : World) : Prop := ∃ (k : Nat) (v : Value) (vs : List Value) (L : List (List C)), i = .int .i64 (k : Int) ∧ k ≤ 63 ∧ BkSt w0 wc g p r k v vs L wr
/-- The screen with all that it has. -/
structure EndSt (w0 wc : World) (g : Nat) (p : Nm) (r : Value) (E : Option Addr) (m d : Nat) (Bk : List (List C)) (wr : World) : Prop where
  box : Box wr g p r (.slice E m d)
  far : ∀ b, b < wc.heap.size → b ≠ g → wr.heap[b]? = wc.heap[b]?
  size : wc.heap.size ≤ wr.heap.size
  back : Lines wc.heap.size wr E Bk
  len : Bk.length = m
  cap : m ≤ d
  most : m ≤ 50
  one : ∀ r ∈ Bk, ∃ x : Int, r = [⟨x, 0⟩] ∧ x ≠ 33
  below : Below w0.heap.size w0 wr
def EndRel (w0 wc : World) (g : Nat) (p : Nm) (r : Value) (wr : World) : Prop := ∃ E m d Bk, EndSt w0 wc g p r E m d Bk wr
theorem BkSt.done {w0 wc : World} {g : Nat} {p : Nm} {r : Value} {k : Nat} {v : Value} {vs : List Value} {L : List (List C)} {wr : World} (h : BkSt w0 wc g p r k v vs L wr) (hg : g < wc.heap.size) (hB : w0.heap.size ≤ g) {E : Option Addr} {m d lo : Nat} (hE : TabAt wc.heap.size wr E (vs.drop lo)) (hm : vs.length - lo = m) (hd : m ≤ d) (h50 : m ≤ 50) :
    EndRel w0 wc g p r (wr.setCell ⟨g, 14, none⟩ (.slice E m d)) := by
  have hr := h.rows.v.drop lo
  refine ⟨E, m, d, L.drop lo, h.box.set_back _, fun b hb hn => (heap_setCell_other _ _ _ _ (by exact hn)).trans (h.far b hb hn), by simpa using h.size, ?_, by rw [← hr.1, List.length_drop, hm], hd, h50, fun r hr => h.one r (List.mem_of_mem_drop hr), h.below.setCell (p := ⟨g, 14, none⟩) (by exact hB) _⟩
  exact Lines.far ⟨_, hE, hr⟩ (p := ⟨g, 14, none⟩) (by exact hg) _
theorem BkSt.next {w0 wc : World} {g : Nat} {p : Nm} {r : Value} {k : Nat} {v : Value} {vs : List Value} {L : List (List C)} {wr : World} (h : BkSt w0 wc g p r k v vs L wr) (hg : g < wc.heap.size) (hB : w0.heap.size ≤ g) (x : Int) (hx : x ≠ 33) {w3 : World} {D3 : Option Addr} {c3 : Nat}
    (ha : Appended ((wr.alloc (.cells #[.int .i32 x, .int .i64 0] 48)).alloc (.cells #[.slice (some ⟨wr.heap.size, 0, none⟩) 1 1] 46)) w3 wc.heap.size 46 1 (.slice D3 (vs.length + 1) c3) (k + 1) (vs ++ [.slice (some ⟨wr.heap.size, 0, none⟩) 1 1])) :
    BkSt w0 wc g p r (k + 1) (.slice D3 (vs.length + 1) c3) (vs ++ [.slice (some ⟨wr.heap.size, 0, none⟩) 1 1]) (L ++ [[⟨x, 0⟩]]) (w3.setCell ⟨g, 14, none⟩ (.slice D3 (vs.length + 1) c3)) := by
  have hs := h.size
  have hb0 := h.below.size
  have b2 : Below wr.heap.size wr ((wr.alloc (.cells #[.int .i32 x, .int .i64 0] 48)).alloc (.cells #[.slice (some ⟨wr.heap.size, 0, none⟩) 1 1] 46)) := ((Below.refl _ _).alloc (Nat.le_refl _) _).alloc (by simp) _
  have hz := ha.below.size
  simp at hz
  have row : ∀ (g' : Nat) (l : List C), wc.heap.size ≤ g' → Row ((wr.alloc (.cells #[.int .i32 x, .int .i64 0] 48)).alloc (.cells #[.slice (some ⟨wr.heap.size, 0, none⟩) 1 1] 46)) g' l → Row (w3.setCell ⟨g, 14, none⟩ (.slice D3 (vs.length + 1) c3)) g' l := fun g' l hg' hr =>
    Held.far (ha.held g' 48 _ (by decide) hr) (p := ⟨g, 14, none⟩) (by exact (by omega : g' ≠ g)) _
  refine ⟨((h.box.below b2 h.box.lt).below ha.below hg).set_back _, fun b hb hn => ?_, by simp; omega, own_far ha.own (by exact hg) _, ?_, ?_, ?_⟩
  · rw [heap_setCell_other _ _ _ _ (by exact hn), ha.below.block b hb, b2.block b (by omega), h.far b hb hn]
  · refine RowsH.next (l := [⟨x, 0⟩]) (h.rows.map fun g' l hg' hr => row g' l hg' (hr.below b2 hr.lt)) hs (row _ [⟨x, 0⟩] hs ?_)
    exact Held.alloc (Held.new wr 48 #[.int .i32 x, .int .i64 0]) _
  · intro r hr
    rcases List.mem_append.1 hr with h1 | h1
    · exact h.one r h1
    · simp at h1
      exact ⟨x, h1, hx⟩
  · exact ((h.below.trans (b2.mono hb0)).trans (ha.below.mono (by omega))).setCell (p := ⟨g, 14, none⟩) (by exact hB) _
/-- A screen of the call's own comes back: its size, its places on it, the lines that went. -/
structure GridOk (w : World) (p : Nm) (D E : Option Addr) (n c m d W : Nat) (L Bk : List (List C)) (w' : World) : Prop where
  scr : Scr w.heap.size w' D E n c m d L Bk
  below : Below w.heap.size w w'
  W0 : 1 ≤ W
  W1 : W ≤ 8
  n0 : 1 ≤ n
  n1 : n ≤ 8
  p : POk p W n
  rows : ∀ r ∈ L, r.length = W
  most : m ≤ 50
  one : ∀ r ∈ Bk, ∃ x : Int, r = [⟨x, 0⟩] ∧ x ≠ 33
def NumPost (w : World) (e : Ending) (w' : World) : Prop := ∃ p D E n c m d W L Bk, e = .returned (gv p (.slice D n c) (.slice E m d)) ∧ GridOk w p D E n c m d W L Bk w'
theorem EndSt.ok {w w0 wc : World} {g tb tq W n c : Nat} {p p' : Nm} {E : Option Addr} {m d : Nat} {Bk : List (List C)} {wr : World} {E' : Option Addr} {m' d' : Nat} (h : EndSt w0 wc g p (.slice (some ⟨tb, tq, none⟩) n c) E m d Bk wr) (hp : POk p W n) (sb : GSt w0 g tb tq W n c p' (.slice E' m' d') wc) (hs0 : w0.heap.size = w.heap.size + 2) (b0 : Below w.heap.size w w0) (htg : tb < g) (hgB : w0.heap.size ≤ g) (hW : 1 ≤ W ∧ W ≤ 8) (hn : 1 ≤ n ∧ n ≤ 8) (hc : n ≤ c) (cs : Array Value) :
    ∃ L, GridOk w p (some ⟨tb, tq, none⟩) E n c m d W L Bk (wr.setRow (w.heap.size + 1) cs) := by
  have hz := sb.box.lt
  obtain ⟨_, _, htl, htB, _⟩ := sb.rows.at 0 (by omega)
  have h1 : LN w0.heap.size wr tb tq n W := sb.rows.eq h.size (h.far tb htl (by omega)) fun b o x _ hb hx => h.far b hb (sb.box.no_rune hx)
  have hsz := h.size
  have h2 : LN w0.heap.size (wr.setRow (w.heap.size + 1) cs) tb tq n W := h1.eq (by simp) (setRow_other wr _ _ _ (by omega)) fun b o x hb _ _ => setRow_other wr _ _ _ (by omega)
  obtain ⟨L, hL, hr, hl⟩ := h2.lines
  have h3 : Lines wc.heap.size (wr.setRow (w.heap.size + 1) cs) E Bk := h.back.eq (by simp) fun b hb => setRow_other wr _ _ _ (by omega)
  exact ⟨L, ⟨hl.weak (by omega), h3.weak (by omega), hL, h.len, hc, h.cap⟩, below_setRow (b0.trans (h.below.mono (by omega))) (by omega) _, hW.1, hW.2, hn.1, hn.2, hp, hr, h.most, h.one⟩
set_option maxRecDepth 100000 in
set_option maxHeartbeats 4000000 in
theorem grid_any (D : Option Addr) (c : Nat) (xs : List Int) (w : World) (hr : ReadI w (.slice D xs.length c) xs) : Calls Try.prog 16 #[.slice D xs.length c] w (NumPost w) := by
  obtain ⟨z0, HK0⟩ : ∃ z : Int, Hid (∀ w1, KOk w1 w.heap.size xs → Calls Try.prog 32 #[.int .i64 0, .pointer (some ⟨w.heap.size, 0, none⟩)] w1 fun e w2 => e = .returned (.int .i64 z) ∧ w1 = w2) := kcall w.heap.size xs 0
  obtain ⟨z1, HK1⟩ : ∃ z : Int, Hid (∀ w1, KOk w1 w.heap.size xs → Calls Try.prog 32 #[.int .i64 1, .pointer (some ⟨w.heap.size, 0, none⟩)] w1 fun e w2 => e = .returned (.int .i64 z) ∧ w1 = w2) := kcall w.heap.size xs 1
  obtain ⟨z2, HK2⟩ : ∃ z : Int, Hid (∀ w1, KOk w1 w.heap.size xs → Calls Try.prog 32 #[.int .i64 2, .pointer (some ⟨w.heap.size, 0, none⟩)] w1 fun e w2 => e = .returned (.int .i64 z) ∧ w1 = w2) := kcall w.heap.size xs 2
  obtain ⟨z3, HK3⟩ : ∃ z : Int, Hid (∀ w1, KOk w1 w.heap.size xs → Calls Try.prog 32 #[.int .i64 3, .pointer (some ⟨w.heap.size, 0, none⟩)] w1 fun e w2 => e = .returned (.int .i64 z) ∧ w1 = w2) := kcall w.heap.size xs 3
  obtain ⟨z4, HK4⟩ : ∃ z : Int, Hid (∀ w1, KOk w1 w.heap.size xs → Calls Try.prog 32 #[.int .i64 4, .pointer (some ⟨w.heap.size, 0, none⟩)] w1 fun e w2 => e = .returned (.int .i64 z) ∧ w1 = w2) := kcall w.heap.size xs 4
  obtain ⟨z5, HK5⟩ : ∃ z : Int, Hid (∀ w1, KOk w1 w.heap.size xs → Calls Try.prog 32 #[.int .i64 5, .pointer (some ⟨w.heap.size, 0, none⟩)] w1 fun e w2 => e = .returned (.int .i64 z) ∧ w1 = w2) := kcall w.heap.size xs 5
  obtain ⟨z6, HK6⟩ : ∃ z : Int, Hid (∀ w1, KOk w1 w.heap.size xs → Calls Try.prog 32 #[.int .i64 6, .pointer (some ⟨w.heap.size, 0, none⟩)] w1 fun e w2 => e = .returned (.int .i64 z) ∧ w1 = w2) := kcall w.heap.size xs 6
  obtain ⟨z7, HK7⟩ : ∃ z : Int, Hid (∀ w1, KOk w1 w.heap.size xs → Calls Try.prog 32 #[.int .i64 7, .pointer (some ⟨w.heap.size, 0, none⟩)] w1 fun e w2 => e = .returned (.int .i64 z) ∧ w1 = w2) := kcall w.heap.size xs 7
  have hmf : ∀ (fn : Fn) (first cap : Array Value) (w : World), (Instr.makeFunc fn first cap).run Try.prog w = .ok (.func fn first cap) w := fun _ _ _ _ => rfl
  go_enter Try.func16, Try.ntmps16
  go_upto_region 2 with fail
  clear hmf
  refine wp_world (fun wq => KOk wq w.heap.size xs ∧ Box wq (w.heap.size + 1) zeroNm nilV nilV ∧ wq.heap.size = w.heap.size + 2 ∧ Below w.heap.size w wq) ⟨?_, ?_, by simp, ((Below.refl _ _).alloc (Nat.le_refl _) _).alloc (by simp) _⟩ ?_
  · exact ⟨_, (Held.new w 28 #[.slice D xs.length c]).alloc _, hr.below (((Below.refl _ _).alloc (Nat.le_refl _) _).alloc (by simp) _) (Nat.le_refl _)⟩
  · have := Box.new (w.alloc (.cells #[.slice D xs.length c] 28)) zeroNm nilV nilV
    rw [World.size_alloc] at this
    exact this
  clear hr
  rintro w0 ⟨k0, x0, hs0, b0⟩
  obtain ⟨a0, ha0, hA⟩ := gmask7 z0
  obtain ⟨e0, he0, hE⟩ := gmask7 (z0 / 8)
  have HN := Lib.hid (rnew_size a0 e0 w0 ha0 he0)
  go_upto_region 3 with (first
   | (with_reducible refine wpList_storeB (x := .tmp 4) (y := .tmp 20) (p := newNm ((a0 + 1 : Nat) : Int) ((e0 + 1 : Nat) : Int)) (D := D1) (E := none) (n := n1) (c := c1) (m := 0) (d := 0) ?_ ?_ ?_ ?_ ?_ ?_
      · with_reducible rfl
      · rfl
      · rfl
      · rfl
      · rfl)
   | (go_at_call 25
      refine HN.out.mono ?_
      rintro e w1 ⟨D1, n1, c1, rfl, hl1, hn1, hc1, hb1⟩)
   | (go_at_call 32
      refine (HK0.out _ k0).mono ?_
      rintro e w' ⟨rfl, rfl⟩))
  clear hA hE HN HK0
  have hn2 : e0 + 1 = n1 := by rw [← hn1, blankL_len]
  subst hn2
  obtain ⟨W, hW⟩ : ∃ W, a0 + 1 = W := ⟨_, rfl⟩
  obtain ⟨n, hn⟩ : ∃ n, e0 + 1 = n := ⟨_, rfl⟩
  rw [hW, hn] at hl1
  rw [hn] at hc1
  rw [hW, hn]
  have hW0 : 1 ≤ W ∧ W ≤ 8 := by omega
  have hn0 : 1 ≤ n ∧ n ≤ 8 := by omega
  clear hW hn hn1 ha0 he0
  obtain ⟨tb, tq, rfl⟩ : ∃ b q, D1 = some ⟨b, q, none⟩ := by
    obtain ⟨b, q, _, _, e, _⟩ := hl1.at 0 (by rw [blankL_len]; omega)
    exact ⟨b, q, e⟩
  have hln : LN w0.heap.size w1 tb tq n W := hl1.ln (by rw [blankL_len]) (mem_blankL (by omega))
  have htg : tb < w1.heap.size := by obtain ⟨_, _, h, _⟩ := hln.at 0 (by omega); exact h
  have hgB : w0.heap.size ≤ w1.heap.size := hb1.size
  refine wp_world (fun wq => GSt w0 w1.heap.size tb tq W n c1 (newNm W n) nilV wq) ⟨Box.new _ (newNm W n) _ _, hln.below ((Below.refl _ _).alloc (Nat.le_refl _) _) (Nat.le_refl _), hb1.alloc hb1.size _⟩ ?_
  clear hl1 hln hb1
  generalize w1.heap.size = g at *

  rintro wa sa
  have y13 := sa.box.cells.c13
  go_wp2_with fail
  go_loopw [24] (GRel w0 g tb tq W n c1 (newNm W n) nilV n) (fun i _ => n - (intOf i).toNat)
  case atStart => exact ⟨0, rfl, Nat.zero_le _, sa⟩
  case round =>
    clear sa y13
    obtain ⟨k, rfl, hk, sb⟩ := hrel
    by_cases hlt : k < n
    · as_aux_lemma =>
        have hki : (k : Int) < (n : Int) := by omega
        have y13 := sb.box.cells.c13
        obtain ⟨Dk, ck, _, _, hck, hWc, _⟩ := sb.rows.at k hlt
        go_wp2_with fail
        clear y13 hck
        go_loopw [33] (GRel w0 g tb tq W n c1 (newNm W n) nilV W) (fun i _ => W - (intOf i).toNat)
        case atStart => exact ⟨0, rfl, Nat.zero_le _, sb⟩
        case round =>
          clear sb
          obtain ⟨j, rfl, hj, sb⟩ := hrel
          by_cases hlj : j < W
          · have hji : (j : Int) < (W : Int) := by omega
            go_wp2_with fail
            obtain ⟨Dk, ck, _, _, hck, hWc, hrn⟩ := sb.rows.at k hlt
            obtain ⟨rb, ro, rx, ry, rfl, hrB, hrl, hrf, hrx, hry⟩ := hrn.at j hlj
            have hf0 := hrf (ro + j * 2)
            have hf1 := hrf (ro + j * 2 + 1)
            have y13 := sb.box.cells.c13
            have y0 := sb.box.cells.c0
            simp only [newNm] at y0
            have sd := sb.drew
            have kd := k0.below sd.below (Nat.le_refl _)
            go_still_tail 29, (by kernel_rfl)
            still_call ((HK1.out _ kd).mono fun _ _ ⟨h1, h2⟩ => ⟨h1, h2.symm⟩)
            repeat still_step
            still_call ((HK2.out _ kd).mono fun _ _ ⟨h1, h2⟩ => ⟨h1, h2.symm⟩)
            repeat still_step
            refine wpStill_nil ?_
            change wpList _ _ _ _ _ wr.drew
            have HST := Lib.hid (fun x' y' => sd.put hrB hrx hry x' y')
            clear y0 y13 hck kd sd hrn
            go_wp2_with fail
            go_roundw
            case rel => exact ⟨j + 1, by go_num, by omega, HST.out _ _⟩
            case measure => simp [intOf]; omega
          · have hji : ¬ (j : Int) < (W : Int) := by omega
            go_wp2_with fail
            go_roundw
            case rel => exact ⟨k + 1, by go_num, by omega, sb⟩
            case measure => simp [intOf]; omega
    · have hki : ¬ (k : Int) < (n : Int) := by omega
      go_wp2_with fail
      have sg : GS0 w0 g tb tq W n c1 nilV wr := ⟨_, newNm_ok hW0.1 hn0.1, rfl, sb⟩
      clear sb
      obtain ⟨p, hp, hpw, sb⟩ := sg
      go_upto_region 12 with fail
      go_cut [] (GS0 w0 g tb tq W n c1 nilV)
      case first =>
        as_aux_lemma =>
          have e0 := sb.box.cells.c0
          have e1 := sb.box.cells.c1
          rw [hp.w] at e0
          rw [hp.h] at e1
          have sd := sb.drew
          have y0 : wr.drew.cell? ⟨g, 0, none⟩ = some (.int .i64 W) := e0
          have y1 : wr.drew.cell? ⟨g, 1, none⟩ = some (.int .i64 n) := e1
          have e2 := sb.box.cells.c2
          have e3 := sb.box.cells.c3
          have ef := sb.box.cells.free
          have kd := k0.below sd.below (Nat.le_refl _)
          obtain ⟨a3, ha3, hA3⟩ := gmask255 z3
          obtain ⟨b3, hb3, hB3⟩ := gmask255 (z3 / 256)
          have hWz : ¬ W = 0 := by omega
          have hnz : ¬ n = 0 := by omega
          go_region_held3 (fun w' => w'.cell? ⟨g, 0, none⟩ = some (.int .i64 W) ∧ w'.cell? ⟨g, 1, none⟩ = some (.int .i64 n))
            (first
              | with_reducible exact ⟨y0, y1⟩
              | with_reducible exact keepG (by decide) e0 e1 _
              | with_reducible exact keepG2 (by decide) (by decide) e0 e1 _ _
              | fail)
            (first
              | (go_at_call 32
                 (with_reducible refine (HK3.out _ kd).mono ?_)
                 rintro e w' ⟨rfl, rfl⟩))
          clear y0 y1 e0 e1 e2 e3 ef kd hA3 hB3 sd
          go_wp2_with fail
          go_meet
          exact (sb.xy hp htg hgB _ _ (tmod_lt a3 hW0.1) (tmod_lt b3 hn0.1) (tmod_ge a3) (tmod_ge b3) hpw).drew
      case rest =>
        clear sb hp hpw p
        obtain ⟨p, hp, hpw, sb⟩ := hcut
        clear HK3
        go_upto_region 13 with fail
        go_cut [] (GS0 w0 g tb tq W n c1 nilV)
        case first =>
          as_aux_lemma =>
            have hWz : ¬ W = 0 := by omega
            have hnz : ¬ n = 0 := by omega
            have e0 := sb.box.cells.c0
            have e1 := sb.box.cells.c1
            rw [hp.w] at e0
            rw [hp.h] at e1
            have kd := k0.below sb.drew.below (Nat.le_refl _)
            have y0 : wc.drew.cell? ⟨g, 0, none⟩ = some (.int .i64 W) := e0
            have y1 : wc.drew.cell? ⟨g, 1, none⟩ = some (.int .i64 n) := e1
            have e8 := sb.box.cells.c8
            have e9 := sb.box.cells.c9
            have e10 := sb.box.cells.c10
            have ef := sb.box.cells.free
            obtain ⟨a4, ha4, hA4⟩ := gmask255 z4
            obtain ⟨b4, hb4, hB4⟩ := gmask255 (z4 / 256)
            obtain ⟨c4, hc4, hC4⟩ := gmask7 (z4 / 65536)
            go_region_held3 (fun w' => w'.cell? ⟨g, 0, none⟩ = some (.int .i64 W) ∧ w'.cell? ⟨g, 1, none⟩ = some (.int .i64 n))
              (first
                | with_reducible exact ⟨y0, y1⟩
                | with_reducible exact keepG (by decide) e0 e1 _
                | with_reducible exact keepG2 (by decide) (by decide) e0 e1 _ _
                | with_reducible exact keepG3 (by decide) (by decide) (by decide) e0 e1 _ _ _
                | fail)
              (first
                | (go_at_call 32
                   (with_reducible refine (HK4.out _ kd).mono ?_)
                   rintro e w' ⟨rfl, rfl⟩))
            clear y0 y1 e0 e1 e8 e9 e10 ef kd hA4 hB4 hC4
            go_wp2_with fail
            go_meet
            exact (sb.sxy hp htg hgB _ _ _ (tmod_lt a4 hW0.1) (tmod_lt b4 hn0.1) hpw).drew
        case rest =>
          clear sb hp hpw p
          obtain ⟨p, hp, hpw, sb⟩ := hcut
          clear HK4
          go_upto_region 14 with fail
          go_cut [] (GS w0 g tb tq W n c1 nilV)
          case first =>
            as_aux_lemma =>
              have e0 := sb.box.cells.c0
              have e2 := sb.box.cells.c2
              rw [hp.w] at e0
              have kd := k0.below sb.drew.below (Nat.le_refl _)
              have y0 : wc.drew.cell? ⟨g, 0, none⟩ = some (.int .i64 W) := e0
              have y2 : wc.drew.cell? ⟨g, 2, none⟩ = some (.int .i64 p.x) := e2
              have e4 := sb.box.cells.c4
              have e5 := sb.box.cells.c5
              have e11 := sb.box.cells.c11
              have e12 := sb.box.cells.c12
              have ef := sb.box.cells.free
              obtain ⟨d5, hd5, hD5⟩ := gmask7 (z5 / 16)
              have hW1 : IntKind.i64.wrap ((W : Int) - 1) = (W : Int) - 1 := IntWalk.i64_in _ (by omega)
              obtain ⟨r2, hr2⟩ : ∃ r : Bool, (bits .and .i64 (z5 / 2) 3 == 1) = r := ⟨_, rfl⟩
              obtain ⟨r3, hr3⟩ : ∃ r : Bool, (bits .and .i64 (z5 / 8) 1 == 1) = r := ⟨_, rfl⟩
              obtain ⟨r1, hr1⟩ : ∃ r : Bool, (p.x == (W : Int) - 1) = r := ⟨_, rfl⟩
              have HR1 := Lib.hid hr1
              rcases (show bits .and .i64 z5 1 = 0 ∨ bits .and .i64 z5 1 = 1 by rw [i64_and1]; omega) with hA5 | hA5
              · clear y0 y2 e0 e2
                refine wp_region_held_drew (S := fun _ => True) (by kernel_rfl) trivial (fun hH0 => ?_)
                refine wpAnyH_take (i := 0) (oi := _) (v := .func (Fn.func 32) #[] #[.pointer (some ⟨w.heap.size, 0, none⟩)]) rfl (by kernel_rfl) (by kernel_rfl) (by kernel_rfl) (fun _ _ _ h => h) (Or.inl ⟨by rfl, ?_⟩) hH0 ?_
                · intro wv hSw
                  go_simp
                change wpAnyH _ _ _ _ _ _ _ (Act.put _ (some 102) (.func (Fn.func 32) #[] #[.pointer (some ⟨w.heap.size, 0, none⟩)])) _
                simp only [Act.put, List.setIfInBounds_toArray, List.set_cons_zero, List.set_cons_succ]
                refine wpAnyH_take (i := 12) (oi := _) (v := .func (Fn.func 32) #[] #[.pointer (some ⟨w.heap.size, 0, none⟩)]) rfl (by kernel_rfl) (by kernel_rfl) (by kernel_rfl) (fun _ _ _ h => h) (Or.inl ⟨by rfl, ?_⟩) hH0 ?_
                · intro wv hSw
                  go_simp
                change wpAnyH _ _ _ _ _ _ _ (Act.put _ (some 114) (.func (Fn.func 32) #[] #[.pointer (some ⟨w.heap.size, 0, none⟩)])) _
                simp only [Act.put, List.setIfInBounds_toArray, List.set_cons_zero, List.set_cons_succ]
                refine wpAnyH_take (i := 17) (oi := _) (v := .func (Fn.func 32) #[] #[.pointer (some ⟨w.heap.size, 0, none⟩)]) rfl (by kernel_rfl) (by kernel_rfl) (by kernel_rfl) (fun _ _ _ h => h) (Or.inl ⟨by rfl, ?_⟩) hH0 ?_
                · intro wv hSw
                  go_simp
                change wpAnyH _ _ _ _ _ _ _ (Act.put _ (some 119) (.func (Fn.func 32) #[] #[.pointer (some ⟨w.heap.size, 0, none⟩)])) _
                simp only [Act.put, List.setIfInBounds_toArray, List.set_cons_zero, List.set_cons_succ]
                refine wpAnyH_take (i := 22) (oi := _) (v := .func (Fn.func 32) #[] #[.pointer (some ⟨w.heap.size, 0, none⟩)]) rfl (by kernel_rfl) (by kernel_rfl) (by kernel_rfl) (fun _ _ _ h => h) (Or.inl ⟨by rfl, ?_⟩) hH0 ?_
                · intro wv hSw
                  go_simp
                change wpAnyH _ _ _ _ _ _ _ (Act.put _ (some 124) (.func (Fn.func 32) #[] #[.pointer (some ⟨w.heap.size, 0, none⟩)])) _
                simp only [Act.put, List.setIfInBounds_toArray, List.set_cons_zero, List.set_cons_succ]
                refine wpAnyH_ready (rs := [1]) (by kernel_rfl) (by simp) ?_
                refine AllReadyH.cons (o := _) rfl (fun K hK => ?_) AllReadyH.nil
                go_simp
                refine (HK5.out _ kd).mono ?_
                rintro e w' ⟨rfl, rfl⟩
                go_wp2_with fail
                refine hK.out _ _ trivial (fun hH1 => ?_)
                clear hK K
                try simp only [Act.put, List.setIfInBounds_toArray, List.set_cons_zero, List.set_cons_succ]
                refine wpAnyH_take (i := 2) (oi := _) (v := .int .i64 0) rfl (by kernel_rfl) (by kernel_rfl) (by kernel_rfl) (fun _ _ _ h => h) (Or.inl ⟨by rfl, ?_⟩) hH1 ?_
                · intro wv hSw
                  go_simp
                change wpAnyH _ _ _ _ _ _ _ (Act.put _ (some 104) (.int .i64 0)) _
                simp only [Act.put, List.setIfInBounds_toArray, List.set_cons_zero, List.set_cons_succ]
                refine wpAnyH_take (i := 3) (oi := _) (v := .bool false) rfl (by kernel_rfl) (by kernel_rfl) (by kernel_rfl) (fun _ _ _ h => h) (Or.inl ⟨by rfl, ?_⟩) hH1 ?_
                · intro wv hSw
                  go_simp
                change wpAnyH _ _ _ _ _ _ _ (Act.put _ (some 105) (.bool false)) _
                simp only [Act.put, List.setIfInBounds_toArray, List.set_cons_zero, List.set_cons_succ]
                refine wpAnyH_take (i := 4) (oi := _) (v := .bool false) rfl (by kernel_rfl) (by kernel_rfl) (by kernel_rfl) (fun _ _ _ h => h) (Or.inl ⟨by rfl, ?_⟩) hH1 ?_
                · intro wv hSw
                  go_simp
                change wpAnyH _ _ _ _ _ _ _ (Act.put _ (some 106) (.bool false)) _
                simp only [Act.put, List.setIfInBounds_toArray, List.set_cons_zero, List.set_cons_succ]
                refine wpAnyH_take (i := 5) (oi := _) (v := undef) rfl (by kernel_rfl) (by kernel_rfl) (by kernel_rfl) (fun _ _ _ h => h) (Or.inr ⟨by rfl, rfl⟩) hH1 ?_
                change wpAnyH _ _ _ _ _ _ _ (Act.put _ (some 107) (undef)) _
                simp only [Act.put, List.setIfInBounds_toArray, List.set_cons_zero, List.set_cons_succ]
                refine wpAnyH_take (i := 6) (oi := _) (v := undef) rfl (by kernel_rfl) (by kernel_rfl) (by kernel_rfl) (fun _ _ _ h => h) (Or.inr ⟨by rfl, rfl⟩) hH1 ?_
                change wpAnyH _ _ _ _ _ _ _ (Act.put _ (some 108) (undef)) _
                simp only [Act.put, List.setIfInBounds_toArray, List.set_cons_zero, List.set_cons_succ]
                refine wpAnyH_take (i := 7) (oi := _) (v := undef) rfl (by kernel_rfl) (by kernel_rfl) (by kernel_rfl) (fun _ _ _ h => h) (Or.inr ⟨by rfl, rfl⟩) hH1 ?_
                change wpAnyH _ _ _ _ _ _ _ (Act.put _ (some 109) (undef)) _
                simp only [Act.put, List.setIfInBounds_toArray, List.set_cons_zero, List.set_cons_succ]
                refine wpAnyH_take (i := 8) (oi := _) (v := undef) rfl (by kernel_rfl) (by kernel_rfl) (by kernel_rfl) (fun _ _ _ h => h) (Or.inr ⟨by rfl, rfl⟩) hH1 ?_
                change wpAnyH _ _ _ _ _ _ _ (Act.put _ (some 110) (undef)) _
                simp only [Act.put, List.setIfInBounds_toArray, List.set_cons_zero, List.set_cons_succ]
                refine wpAnyH_take (i := 9) (oi := _) (v := undef) rfl (by kernel_rfl) (by kernel_rfl) (by kernel_rfl) (fun _ _ _ h => h) (Or.inr ⟨by rfl, rfl⟩) hH1 ?_
                change wpAnyH _ _ _ _ _ _ _ (Act.put _ (some 111) (undef)) _
                simp only [Act.put, List.setIfInBounds_toArray, List.set_cons_zero, List.set_cons_succ]
                refine wpAnyH_take (i := 10) (oi := _) (v := undef) rfl (by kernel_rfl) (by kernel_rfl) (by kernel_rfl) (fun _ _ _ h => h) (Or.inr ⟨by rfl, rfl⟩) hH1 ?_
                change wpAnyH _ _ _ _ _ _ _ (Act.put _ (some 112) (undef)) _
                simp only [Act.put, List.setIfInBounds_toArray, List.set_cons_zero, List.set_cons_succ]
                refine wpAnyH_take (i := 11) (oi := _) (v := .bool false) rfl (by kernel_rfl) (by kernel_rfl) (by kernel_rfl) (fun _ _ _ h => h) (Or.inl ⟨by rfl, ?_⟩) hH1 ?_
                · intro wv hSw
                  go_simp
                change wpAnyH _ _ _ _ _ _ _ (Act.put _ (some 113) (.bool false)) _
                simp only [Act.put, List.setIfInBounds_toArray, List.set_cons_zero, List.set_cons_succ]
                refine wpAnyH_take (i := 26) (oi := _) (v := .pointer (some ⟨g, 4, none⟩)) rfl (by kernel_rfl) (by kernel_rfl) (by kernel_rfl) (fun _ _ _ h => h) (Or.inl ⟨by rfl, ?_⟩) hH1 ?_
                · intro wv hSw
                  go_simp
                change wpAnyH _ _ _ _ _ _ _ (Act.put _ (some 128) (.pointer (some ⟨g, 4, none⟩))) _
                simp only [Act.put, List.setIfInBounds_toArray, List.set_cons_zero, List.set_cons_succ]
                refine wpAnyH_ready (rs := [13]) (by kernel_rfl) (by simp) ?_
                refine AllReadyH.cons (o := _) rfl (fun K hK => ?_) AllReadyH.nil
                go_simp
                refine (HK5.out _ kd).mono ?_
                rintro e w' ⟨rfl, rfl⟩
                go_wp2_with fail
                refine hK.out _ _ trivial (fun hH2 => ?_)
                clear hK K
                try simp only [Act.put, List.setIfInBounds_toArray, List.set_cons_zero, List.set_cons_succ]
                refine wpAnyH_take (i := 14) (oi := _) (v := .int .i64 (z5 / 2)) rfl (by kernel_rfl) (by kernel_rfl) (by kernel_rfl) (fun _ _ _ h => h) (Or.inl ⟨by rfl, ?_⟩) hH2 ?_
                · intro wv hSw
                  go_simp
                change wpAnyH _ _ _ _ _ _ _ (Act.put _ (some 116) (.int .i64 (z5 / 2))) _
                simp only [Act.put, List.setIfInBounds_toArray, List.set_cons_zero, List.set_cons_succ]
                refine wpAnyH_take (i := 15) (oi := _) (v := .int .i64 (bits .and .i64 (z5 / 2) 3)) rfl (by kernel_rfl) (by kernel_rfl) (by kernel_rfl) (fun _ _ _ h => h) (Or.inl ⟨by rfl, ?_⟩) hH2 ?_
                · intro wv hSw
                  go_simp
                change wpAnyH _ _ _ _ _ _ _ (Act.put _ (some 117) (.int .i64 (bits .and .i64 (z5 / 2) 3))) _
                simp only [Act.put, List.setIfInBounds_toArray, List.set_cons_zero, List.set_cons_succ]
                refine wpAnyH_take (i := 16) (oi := _) (v := .bool r2) rfl (by kernel_rfl) (by kernel_rfl) (by kernel_rfl) (fun _ _ _ h => h) (Or.inl ⟨by rfl, ?_⟩) hH2 ?_
                · intro wv hSw
                  go_simp
                change wpAnyH _ _ _ _ _ _ _ (Act.put _ (some 118) (.bool r2)) _
                simp only [Act.put, List.setIfInBounds_toArray, List.set_cons_zero, List.set_cons_succ]
                refine wpAnyH_ready (rs := [18]) (by kernel_rfl) (by simp) ?_
                refine AllReadyH.cons (o := _) rfl (fun K hK => ?_) AllReadyH.nil
                go_simp
                refine (HK5.out _ kd).mono ?_
                rintro e w' ⟨rfl, rfl⟩
                go_wp2_with fail
                refine hK.out _ _ trivial (fun hH3 => ?_)
                clear hK K
                try simp only [Act.put, List.setIfInBounds_toArray, List.set_cons_zero, List.set_cons_succ]
                refine wpAnyH_take (i := 19) (oi := _) (v := .int .i64 (z5 / 8)) rfl (by kernel_rfl) (by kernel_rfl) (by kernel_rfl) (fun _ _ _ h => h) (Or.inl ⟨by rfl, ?_⟩) hH3 ?_
                · intro wv hSw
                  go_simp
                change wpAnyH _ _ _ _ _ _ _ (Act.put _ (some 121) (.int .i64 (z5 / 8))) _
                simp only [Act.put, List.setIfInBounds_toArray, List.set_cons_zero, List.set_cons_succ]
                refine wpAnyH_take (i := 20) (oi := _) (v := .int .i64 (bits .and .i64 (z5 / 8) 1)) rfl (by kernel_rfl) (by kernel_rfl) (by kernel_rfl) (fun _ _ _ h => h) (Or.inl ⟨by rfl, ?_⟩) hH3 ?_
                · intro wv hSw
                  go_simp
                change wpAnyH _ _ _ _ _ _ _ (Act.put _ (some 122) (.int .i64 (bits .and .i64 (z5 / 8) 1))) _
                simp only [Act.put, List.setIfInBounds_toArray, List.set_cons_zero, List.set_cons_succ]
                refine wpAnyH_take (i := 21) (oi := _) (v := .bool r3) rfl (by kernel_rfl) (by kernel_rfl) (by kernel_rfl) (fun _ _ _ h => h) (Or.inl ⟨by rfl, ?_⟩) hH3 ?_
                · intro wv hSw
                  go_simp
                change wpAnyH _ _ _ _ _ _ _ (Act.put _ (some 123) (.bool r3)) _
                simp only [Act.put, List.setIfInBounds_toArray, List.set_cons_zero, List.set_cons_succ]
                refine wpAnyH_ready (rs := [23]) (by kernel_rfl) (by simp) ?_
                refine AllReadyH.cons (o := _) rfl (fun K hK => ?_) AllReadyH.nil
                go_simp
                refine (HK5.out _ kd).mono ?_
                rintro e w' ⟨rfl, rfl⟩
                go_wp2_with fail
                refine hK.out _ _ trivial (fun hH4 => ?_)
                clear hK K
                try simp only [Act.put, List.setIfInBounds_toArray, List.set_cons_zero, List.set_cons_succ]
                refine wpAnyH_take (i := 24) (oi := _) (v := .int .i64 (z5 / 16)) rfl (by kernel_rfl) (by kernel_rfl) (by kernel_rfl) (fun _ _ _ h => h) (Or.inl ⟨by rfl, ?_⟩) hH4 ?_
                · intro wv hSw
                  go_simp
                change wpAnyH _ _ _ _ _ _ _ (Act.put _ (some 126) (.int .i64 (z5 / 16))) _
                simp only [Act.put, List.setIfInBounds_toArray, List.set_cons_zero, List.set_cons_succ]
                refine wpAnyH_take (i := 25) (oi := _) (v := .int .i64 d5) rfl (by kernel_rfl) (by kernel_rfl) (by kernel_rfl) (fun _ _ _ h => h) (Or.inl ⟨by rfl, ?_⟩) hH4 ?_
                · intro wv hSw
                  go_simp
                change wpAnyH _ _ _ _ _ _ _ (Act.put _ (some 127) (.int .i64 d5)) _
                simp only [Act.put, List.setIfInBounds_toArray, List.set_cons_zero, List.set_cons_succ]
                refine wpAnyH_ready (rs := [27]) (by kernel_rfl) (by simp) ?_
                refine AllReadyH.cons (o := _) rfl (fun K hK => ?_) AllReadyH.nil
                go_simp
                refine hK.out _ _ trivial (fun hH5 => ?_)
                clear hK K
                try simp only [Act.put, List.setIfInBounds_toArray, List.set_cons_zero, List.set_cons_succ]
                refine wpAnyH_take (i := 28) (oi := _) (v := .pointer (some ⟨g, 11, none⟩)) rfl (by kernel_rfl) (by kernel_rfl) (by kernel_rfl) (fun _ _ _ h => h) (Or.inl ⟨by rfl, ?_⟩) hH5 ?_
                · intro wv hSw
                  go_simp
                change wpAnyH _ _ _ _ _ _ _ (Act.put _ (some 129) (.pointer (some ⟨g, 11, none⟩))) _
                simp only [Act.put, List.setIfInBounds_toArray, List.set_cons_zero, List.set_cons_succ]
                refine wpAnyH_ready (rs := [29]) (by kernel_rfl) (by simp) ?_
                refine AllReadyH.cons (o := _) rfl (fun K hK => ?_) AllReadyH.nil
                go_simp
                refine hK.out _ _ trivial (fun hH6 => ?_)
                clear hK K
                try simp only [Act.put, List.setIfInBounds_toArray, List.set_cons_zero, List.set_cons_succ]
                refine wpAnyH_take (i := 30) (oi := _) (v := .pointer (some ⟨g, 12, none⟩)) rfl (by kernel_rfl) (by kernel_rfl) (by kernel_rfl) (fun _ _ _ h => h) (Or.inl ⟨by rfl, ?_⟩) hH6 ?_
                · intro wv hSw
                  go_simp
                change wpAnyH _ _ _ _ _ _ _ (Act.put _ (some 130) (.pointer (some ⟨g, 12, none⟩))) _
                simp only [Act.put, List.setIfInBounds_toArray, List.set_cons_zero, List.set_cons_succ]
                refine wpAnyH_ready (rs := [31]) (by kernel_rfl) (by simp) ?_
                refine AllReadyH.cons (o := _) rfl (fun K hK => ?_) AllReadyH.nil
                go_simp
                refine hK.out _ _ trivial (fun hH7 => ?_)
                clear hK K
                try simp only [Act.put, List.setIfInBounds_toArray, List.set_cons_zero, List.set_cons_succ]
                refine wpAnyH_take (i := 32) (oi := _) (v := .pointer (some ⟨g, 5, none⟩)) rfl (by kernel_rfl) (by kernel_rfl) (by kernel_rfl) (fun _ _ _ h => h) (Or.inl ⟨by rfl, ?_⟩) hH7 ?_
                · intro wv hSw
                  go_simp
                change wpAnyH _ _ _ _ _ _ _ (Act.put _ (some 131) (.pointer (some ⟨g, 5, none⟩))) _
                simp only [Act.put, List.setIfInBounds_toArray, List.set_cons_zero, List.set_cons_succ]
                refine wpAnyH_ready (rs := [33]) (by kernel_rfl) (by simp) ?_
                refine AllReadyH.cons (o := _) rfl (fun K hK => ?_) AllReadyH.nil
                go_simp
                refine hK.out _ _ trivial (fun hH8 => ?_)
                clear hK K
                try simp only [Act.put, List.setIfInBounds_toArray, List.set_cons_zero, List.set_cons_succ]
                refine wpAnyH_done (by kernel_rfl) ?_ _
                clear hH0 hH1 hH2 hH3 hH4 hH5 hH6 hH7 hH8
                clear e4 e5 e11 e12 ef kd hD5 hW1 hr1 hr2 hr3 hA5
                go_wp2_with fail
                go_meet
                exact (sb.flags hp htg hgB _ _ _ _ (fun e => by cases e)).drew
              · go_region_held3 (fun w' => w'.cell? ⟨g, 0, none⟩ = some (.int .i64 W) ∧ w'.cell? ⟨g, 2, none⟩ = some (.int .i64 p.x))
                  (first
                    | with_reducible exact ⟨y0, y2⟩
                    | with_reducible exact ⟨keepD (by decide) e0 _, keepD (by decide) e2 _⟩
                    | with_reducible exact ⟨keepD (by decide) (keepC (by decide) e0 _) _, keepD (by decide) (keepC (by decide) e2 _) _⟩
                    | with_reducible exact ⟨keepD (by decide) (keepC (by decide) (keepC (by decide) e0 _) _) _, keepD (by decide) (keepC (by decide) (keepC (by decide) e2 _) _) _⟩
                    | with_reducible exact ⟨keepD (by decide) (keepC (by decide) (keepC (by decide) (keepC (by decide) e0 _) _) _) _, keepD (by decide) (keepC (by decide) (keepC (by decide) (keepC (by decide) e2 _) _) _) _⟩
                    | fail)
                  (first
                    | (go_at_call 32
                       (with_reducible refine (HK5.out _ kd).mono ?_)
                       rintro e w' ⟨rfl, rfl⟩))
                clear y0 y2 e0 e2 e4 e5 e11 e12 ef kd hD5 hW1 hr1 hr2 hr3 hA5
                go_wp2_with fail
                go_meet
                exact (sb.flags hp htg hgB _ _ _ _ (fun e => by have hh := HR1.out; rw [e] at hh; exact eq_of_beq hh)).drew
          case rest =>
            clear sb hp hpw p
            obtain ⟨p, hp, sb⟩ := hcut
            clear HK5
            go_upto_region 15 with fail
            go_cut [7, 8] (fun u v wr => (∃ x : Int, u = .int .i64 x ∧ 0 ≤ x ∧ x < (n : Int)) ∧ (∃ x : Int, v = .int .i64 x ∧ 0 ≤ x ∧ x < (n : Int)) ∧ GS w0 g tb tq W n c1 nilV wr)
            case first =>
              as_aux_lemma =>
                have e1 := sb.box.cells.c1
                rw [hp.h] at e1
                have kd : ∀ m, KOk (wc.drewN m) w.heap.size xs := fun m => k0.below (below_drewN sb.below m) (Nat.le_refl _)
                obtain ⟨a6, ha6, hA6⟩ := gmask255 z6
                obtain ⟨b6, hb6, hB6⟩ := gmask255 (z6 / 256)
                have hnz : ¬ n = 0 := by omega
                go_quiet (first
                  | (go_at_call 32
                     exact Calls.quiet_of_same ((HK6.out _ (kd _)).mono fun _ _ ⟨h1, h2⟩ => ⟨h1, h2.symm⟩)))
                clear e1 kd hA6 hB6
                go_wp2_with fail
                go_meet
                exact ⟨⟨_, rfl, tmod_ge a6, tmod_lt a6 hn0.1⟩, ⟨_, rfl, tmod_ge b6, tmod_lt b6 hn0.1⟩, ⟨p, hp, sb.drewN _⟩⟩
            case rest =>
              clear sb hp p
              obtain ⟨⟨A7, rfl, a70, a71⟩, ⟨A8, rfl, a80, a81⟩, p, hp, sb⟩ := hcut
              go_upto_region 16 with fail
              go_cut [154] (GSlot w0 g tb tq W n c1 nilV)
              case first =>
                as_aux_lemma =>
                  have kd := k0.below sb.below (Nat.le_refl _)
                  rcases (show bits .and .i64 (z6 / 65536) 1 = 0 ∨ bits .and .i64 (z6 / 65536) 1 = 1 by rw [i64_and1]; omega) with hA6 | hA6
                  · go_wp2_with (first
                      | (go_at_call 32
                         refine (HK6.out _ kd).mono ?_
                         rintro e w' ⟨rfl, rfl⟩))
                    go_meet
                    exact ⟨⟨_, rfl⟩, p, hp, sb⟩
                  · go_wp2_with (first
                      | (go_at_call 32
                         refine (HK6.out _ kd).mono ?_
                         rintro e w' ⟨rfl, rfl⟩))
                    go_meet
                    exact ⟨⟨_, rfl⟩, p, hp, sb⟩
              case rest =>
                clear sb hp p
                obtain ⟨⟨vb, rfl⟩, p, hp, sb⟩ := hcut
                clear HK6
                go_upto_if 154 with fail
                go_cut [] (GS w0 g tb tq W n c1 nilV)
                case first =>
                  as_aux_lemma =>
                    cases vb with
                    | false =>
                      go_wp2_with fail
                      go_meet
                      exact ⟨p, hp, sb⟩
                    | true =>
                      have e6 := sb.box.cells.c6
                      have e7 := sb.box.cells.c7
                      have ef := sb.box.cells.free
                      go_wp2_with fail
                      all_goals
                        go_meet
                        refine sb.tops hp htg hgB _ _ ?_ ?_ ?_ <;> (try split) <;> omega
                case rest =>
                  clear sb hp p
                  obtain ⟨p, hp, sb⟩ := hcut
                  go_upto_region 19 with fail
                  obtain ⟨wk, hwk⟩ : ∃ wk, wk = wc := ⟨_, rfl⟩
                  subst hwk
                  have hz := sb.box.lt
                  go_loopw [9] (BkRel w0 wk g p (.slice (some ⟨tb, tq, none⟩) n c1)) (fun i _ => 64 - (intOf i).toNat)
                  case atStart => exact ⟨0, nilV, [], [], rfl, by omega, ⟨sb.box, fun _ _ _ => rfl, Nat.le_refl _, World.ownsRow_nil _ _ _ _, RowsH.nil _ _, by simp, sb.below⟩⟩
                  case round =>
                    obtain ⟨k, v, vs, L, rfl, hk, st⟩ := hrel
                    have kd := k0.below st.below (Nat.le_refl _)
                    obtain ⟨m7, hm7, hM7⟩ := gmask63 z7
                    by_cases hlt : k < m7
                    · as_aux_lemma =>
                      have hki : (k : Int) < (m7 : Int) := by omega
                      obtain ⟨s, hs, hS⟩ := gmask15 (k : Int)
                      obtain ⟨Dv, cv, rfl, _, _⟩ := own_tab st.own
                      have y14 := st.box.cells.c14
                      have ST := Lib.hid st
                      have b2 : Below wr.heap.size wr ((wr.alloc (.cells #[.int .i32 (65 + (s : Int)), .int .i64 0] 48)).alloc (.cells #[.slice (some ⟨wr.heap.size, 0, none⟩) 1 1] 46)) := ((Below.refl _ _).alloc (Nat.le_refl _) _).alloc (by simp) _
                      have HO := Lib.hid (own_below st.own b2 (Nat.le_refl _))
                      have HT : Hid (Src ((wr.alloc (.cells #[.int .i32 (65 + (s : Int)), .int .i64 0] 48)).alloc (.cells #[.slice (some ⟨wr.heap.size, 0, none⟩) 1 1] 46)) (some ⟨wr.heap.size + 1, 0, none⟩) [.slice (some ⟨wr.heap.size, 0, none⟩) 1 1]) := by
                        have := ((Held.new (wr.alloc (.cells #[.int .i32 (65 + (s : Int)), .int .i64 0] 48)) 46 #[.slice (some ⟨wr.heap.size, 0, none⟩) 1 1]).tab (B := 0) (vs := [.slice (some ⟨wr.heap.size, 0, none⟩) 1 1]) (Nat.zero_le _)).src
                        rw [World.size_alloc] at this
                        exact this
                      have HX := Lib.hid ((st.box.below b2 st.box.lt))
                      have hsz := st.size
                      clear st b2
                      go_wp2_with (first
                        | (go_at_call 32
                           refine (HK7.out _ kd).mono ?_
                           rintro e w' ⟨rfl, rfl⟩)
                        | (at_builtin
                           refine wpList_append_src _ rfl (.tmp 171) (.tmp 178) 33 rfl rowL wk.heap.size k 1 1 _ _ vs _ rfl rfl HO.out HT.out rfl (by simp [Value.oneCell']) (by omega) (by simp; omega) ?_
                           rintro v3 w3 ha
                           obtain ⟨D3, c3, e3, _, _⟩ := own_tab ha.own
                           rw [List.length_append, List.length_singleton] at e3
                           subst e3
                           have hx3 := HX.out.below ha.below hz
                           have z14 := hx3.cells.c14
                           have zf := hx3.cells.free
                           have HA := Lib.hid ha
                           clear ha hx3))
                      go_roundw
                      case rel => exact ⟨k + 1, _, _, _, by go_num, by omega, ST.out.next hz hgB _ (by omega) HA.out⟩
                      case measure => simp [intOf]; omega
                    · have hki : ¬ (k : Int) < (m7 : Int) := by omega
                      go_upto_region 22 with (first
                        | (go_at_call 32
                           refine (HK7.out _ kd).mono ?_
                           rintro e w' ⟨rfl, rfl⟩))
                      clear HK7 kd hM7
                      go_cut [] (EndRel w0 wk g p (.slice (some ⟨tb, tq, none⟩) n c1))
                      case first =>
                       as_aux_lemma =>
                        have hl : vs.length = k := by have := st.own.1; omega
                        have ht := own_tab st.own
                        have ef := st.box.cells.free
                        rcases st.own.2 with ⟨rfl, rfl⟩ | ⟨gb, cap, cur, rfl, _, _, hcap, _⟩
                        · have y14 := st.box.cells.c14
                          have ST := Lib.hid st
                          clear st
                          go_wp2_with fail
                          go_meet
                          exact ST.out.done hz hgB (lo := 0) (by rw [List.eq_nil_of_length_eq_zero hl]; exact TabAt.nil _ _ _) (by omega) (Nat.le_refl _) (by omega)
                        · obtain ⟨D', c', e', h1, h2⟩ := ht
                          cases e'
                          have y14 := st.box.cells.c14
                          have ST := Lib.hid st
                          have HT := Lib.hid h2
                          have HL := Lib.hid hl
                          clear st h2
                          by_cases h5 : vs.length < 50
                          · have hd : (vs.length : Int) - 50 < 0 := by omega
                            go_wp2_with fail
                            go_meet
                            exact ST.out.done hz hgB (lo := 0) (by rw [List.drop_zero]; exact HT.out) (by omega) h1 (by omega)
                          · have hd : ¬ (vs.length : Int) - 50 < 0 := by omega
                            have t1 : ((vs.length : Int) - 50).toNat = vs.length - 50 := by omega
                            have t2 : (vs.length : Int) - 50 ≤ vs.length := by omega
                            have t3 : (vs.length : Int) - 50 ≤ cap := by omega
                            have hcx : ¬ cap = vs.length - 50 := by omega
                            have HC := HT.out.cut (lo := vs.length - 50) h1
                            rw [if_neg hcx, Nat.zero_add] at HC
                            have HC' := Lib.hid HC
                            clear HC
                            go_wp2_with fail
                            go_meet
                            exact ST.out.done hz hgB (lo := vs.length - 50) HC'.out (by omega) (by omega) (by omega)
                      case rest =>
                        clear st
                        obtain ⟨Eb, mb, db, Bk, st⟩ := hcut
                        have xg := st.box
                        have xa : Box wc (w.heap.size + 1) zeroNm nilV nilV := x0.below st.below x0.lt
                        go_wp2_with (first
                          | (with_reducible refine wpList_loadB xg (x := .tmp 4) ?_ ?_ ?_ ?_
                             · with_reducible rfl
                             · rfl
                             · rfl)
                          | (with_reducible refine wpList_storeA xa (x := .tmp 2) (y := .tmp 190) (p := p) (D := some ⟨tb, tq, none⟩) (E := Eb) (n := n) (c := c1) (m := mb) (d := db) ?_ ?_ ?_ ?_ ?_
                             · with_reducible rfl
                             · rfl
                             · rfl
                             · rfl))
                        obtain ⟨L', hok⟩ := st.ok hp sb hs0 b0 htg hgB hW0 hn0 hc1 (gcs p (.slice (some ⟨tb, tq, none⟩) n c1) (.slice Eb mb db))
                        refine bodyPost_ret (v := gv p (.slice (some ⟨tb, tq, none⟩) n c1) (.slice Eb mb db)) (results_cell_row (P := Try.prog) Try.results16 _ _ (w.heap.size + 1) 35 _ (0, 0) _ rfl (xa.setRow p _ _) Try.underlying35 rfl box_size) rfl ?_
                        exact ⟨_, _, _, _, _, _, _, _, _, _, rfl, hok⟩
end Go.Proofs.Ytpcpmeihebgncaa
