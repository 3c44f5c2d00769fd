/-
  The walk of GridOwn. Conditions: the row that came in reads as numbers.
-/
import Derived.Test.YtjgdabbcbfhijaaGrid
import Derived.Test.YtjgdabbcbfhijaaTurns
import Derived.Test.YtjgdabbcbfhijaaResize
import Derived.Deep.MidRow
import Derived.Great.BuildSlice
import Derived.Great.FillDense
namespace Go.Proofs.Ytjgdabbcbfhijaa
open Go.RowKit

/-- g, and what was kept of it. -/
structure W2 (w : World) (G H : Nat) (p p2 : Nm) (D E D2 E2 : Option Addr) (n c m d c2 m2 d2 : Nat) (L Bk : List (List C)) (wr : World) : Prop where
  g : Box wr G p (.slice D n c) (.slice E m d)
  was : Box wr H p2 (.slice D2 n c2) (.slice E2 m2 d2)
  sg : Scr 0 wr D E n c m d L Bk
  lw : Lines 0 wr D2 L
  below : Below w.heap.size w wr
theorem W2.next {w : World} {G H : Nat} {p p2 : Nm} {D E D2 E2 : Option Addr} {n c m d c2 m2 d2 : Nat} {L Bk : List (List C)} {wr wx : World} (h : W2 w G H p p2 D E D2 E2 n c m d c2 m2 d2 L Bk wr) (hb : Below wr.heap.size wr wx) : W2 w G H p p2 D E D2 E2 n c m d c2 m2 d2 L Bk wx :=
  ⟨h.g.below hb h.g.lt, h.was.below hb h.was.lt, h.sg.below hb (Nat.le_refl _), h.lw.below hb (Nat.le_refl _), h.below.trans (hb.mono h.below.size)⟩
theorem mask3 (z : Int) : ∃ a : Nat, a ≤ 3 ∧ bits .and .i64 z 3 = a := ⟨(z % 4).toNat, by omega, by rw [i64_and3]; omega⟩
/-- A whole screen is read, in a region that draws its order. -/
theorem yields_loadB {ops : Array Oper} {S : World → Prop} {o : Oper} {a : Act} {x : Operand} {g : Nat} {p : Nm} {r b : Value} (hw : Region.wanted o (yielded ops a.tmps) = true) (ho : o.op = .load 25 x) (hx : a.eval x = .pointer (some ⟨g, 0, none⟩)) (hS : ∀ w, S w → Box w g p r b) : YieldsIf Try.prog ops S o (gv p r b) a :=
  yieldsIf_load_mid hw 25 x ho g 0 hx (gcs p r b).toList _ (fun w h j v hv => by
    rw [Nat.zero_add, Held.cell (hS w h) j]
    simpa using hv) Try.underlying25 rfl box_size

/-! ### three screens in a row -/
/-- A screen of which the numbers, and its lines' lengths, are known. -/
structure El where
  p : Nm
  D : Option Addr
  E : Option Addr
  n : Nat
  c : Nat
  m : Nat
  d : Nat
  lr : List Nat
  lb : List Nat
/-- Its numbers are of a size that Go's own may have. -/
structure El.Ok (e : El) : Prop where
  n : e.n ≤ 1000
  m : e.m ≤ 1000
  lr : ∀ q ∈ e.lr, q ≤ 1000
  lb : ∀ q ∈ e.lb, q ≤ 1000
def El.cs (e : El) : List Value := (gcs e.p (.slice e.D e.n e.c) (.slice e.E e.m e.d)).toList
theorem El.cs_len (e : El) : e.cs.length = 15 := rfl
theorem El.no_rune (e : El) (x : Int) : Value.int .i32 x ∉ e.cs := by simp [El.cs, gcs]
theorem flat_at : ∀ (els : List El) (i j : Nat) (hi : i < els.length), j < 15 → (els.flatMap El.cs)[i * 15 + j]? = els[i].cs[j]?
  | [], i, j, hi, _ => by simp at hi
  | e :: els, 0, j, _, hj => by
    rw [List.flatMap_cons, Nat.zero_mul, Nat.zero_add, List.getElem?_append_left (by rw [El.cs_len]; exact hj)]
    rfl
  | e :: els, i + 1, j, hi, hj => by
    rw [List.flatMap_cons, List.getElem?_append_right (by rw [El.cs_len]; omega), El.cs_len, show (i + 1) * 15 + j - 15 = i * 15 + j by omega, flat_at els i j (by simpa using hi) hj]
    rfl
theorem fill3 (e0 e1 e2 : El) (z : Value) : Instr.fill (fun i => some (i * 15, 15)) ((Array.range 45).map (z.cells[· % z.cells.size]!)) [(0, .agg e0.cs.toArray), (1, .agg e1.cs.toArray), (2, .agg e2.cs.toArray)] = some ([e0, e1, e2].flatMap El.cs).toArray := by
  have := Go.Great.fill_whole (s := 15) (by decide) [.agg e0.cs.toArray, .agg e1.cs.toArray, .agg e2.cs.toArray] ((Array.range 45).map (z.cells[· % z.cells.size]!)) (fun v hv => by
    simp only [List.mem_cons, List.not_mem_nil, or_false] at hv
    rcases hv with rfl | rfl | rfl <;> rfl) (by simp)
  simpa [Value.cells] using this
/-- '[]api.Grid{..}' of three. -/
theorem step_build3 {ops : Array Oper} {o : Oper} {a : Act} {w : World} {K : Act → World → Prop} {Q : Exit → Act → World → Prop} {X : Prop} {x0 x1 x2 : Operand} {e0 e1 e2 : El} (hw : Region.wanted o (yielded ops a.tmps) = true) (ho : o.op = .buildSlice 39 3 #[(0, x0), (1, x1), (2, x2)])
    (h0 : a.eval x0 = .agg e0.cs.toArray) (h1 : a.eval x1 = .agg e1.cs.toArray) (h2 : a.eval x2 = .agg e2.cs.toArray)
    (h : K (a.put o.dst (.slice (some ⟨w.heap.size, 0, none⟩) 3 3)) (w.alloc (.cells ([e0, e1, e2].flatMap El.cs).toArray 25))) :
    if Region.wanted o (yielded ops a.tmps) = true then Oper.wp Try.prog o a w K Q else X := by
  rw [if_pos hw]
  have hI : (Try.prog.info? 25).map (fun i => (i.zero.map (·.cells.size), i.size)) = some (some 15, 15) := by kernel_rfl
  cases hi : Try.prog.info? 25 with
  | none => simp [hi] at hI
  | some i =>
    cases hz : i.zero with
    | none => simp [hi, hz] at hI
    | some z =>
      simp only [hi, hz, Option.map_some, Option.some.injEq, Prod.mk.injEq] at hI
      obtain ⟨_, hs⟩ := hI
      refine wp_buildSlice 39 25 3 _ ho _ i z Try.underlying39 hi hz (by rw [hs]; decide) (by rw [hs]; decide) ?_ h
      simp only [List.map_toArray, List.map_cons, List.map_nil, h0, h1, h2, hs]
      exact fill3 e0 e1 e2 z
/-- A table of rows of these lengths. -/
def LV (B : Nat) (w : World) (D : Option Addr) (lens : List Nat) : Prop := ∃ vs : List Value, vs.length = lens.length ∧ TabAt B w D vs ∧ ∀ k (_ : k < vs.length) (_ : k < lens.length), ∃ D c, vs[k] = .slice D lens[k] c ∧ lens[k] ≤ c ∧ RowN B w D lens[k]
theorem LV.set {B : Nat} {w : World} {D : Option Addr} {lens : List Nat} (h : LV B w D lens) {a : Addr} {old v : Value} (ha : ∀ D n c, old ≠ .slice D n c) (hc : w.cell? a = some old) (hv : ∀ k y, old = .int k y → ∃ x, v = .int k x) : LV B (w.setCell a v) D lens := by
  obtain ⟨vs, h1, h2, h3⟩ := h
  refine ⟨vs, h1, fun k hk => ?_, fun k hk hk' => ?_⟩
  · obtain ⟨b, off, e, q0, q1, q2, q3⟩ := h2 k hk
    refine ⟨b, off, e, q0, by simpa using q1, q2.set _ _, (World.cell?_setCell_other _ _ _ _ ?_).trans q3⟩
    rintro rfl
    obtain ⟨D', c, e', _⟩ := h3 k hk (by rw [← h1]; exact hk)
    rw [hc, e'] at q3
    injection q3 with q3
    exact ha _ _ _ q3
  · obtain ⟨D', c, e, hc', hr⟩ := h3 k hk hk'
    exact ⟨D', c, e, hc', hr.set hc hv⟩
theorem LV.below {B A : Nat} {w w' : World} {D : Option Addr} {lens : List Nat} (h : LV B w D lens) (hb : Below A w w') (hA : w.heap.size ≤ A) : LV B w' D lens := by
  obtain ⟨vs, h1, h2, h3⟩ := h
  refine ⟨vs, h1, h2.below hb hA, fun k hk hk' => ?_⟩
  obtain ⟨D', c, e, hc, l, hl, hr⟩ := h3 k hk hk'
  exact ⟨D', c, e, hc, l, hl, hr.below hb hA⟩
theorem Lines.lv {B : Nat} {w : World} {D : Option Addr} {L : List (List C)} (h : Lines B w D L) : LV B w D (L.map List.length) := by
  obtain ⟨vs, h1, h2⟩ := h
  refine ⟨vs, by rw [List.length_map, h2.1], h1, fun k hk hk' => ?_⟩
  have hl : k < L.length := by rw [← h2.1]; exact hk
  obtain ⟨D', c, e, hc, hr⟩ := h2.2 k hk hl
  rw [List.getElem_map]
  exact ⟨D', c, e, hc, L[k], rfl, hr⟩
theorem LV.at {B : Nat} {w : World} {D : Option Addr} {lens : List Nat} (h : LV B w D lens) (k : Nat) (hk : k < lens.length) : ∃ (b o : Nat) (E : Option Addr) (c : Nat), D = some ⟨b, o, none⟩ ∧ w.cell? ⟨b, o + k, none⟩ = some (.slice E lens[k] c) ∧ lens[k] ≤ c ∧ RowN B w E lens[k] := by
  obtain ⟨vs, h1, h2, h3⟩ := h
  have hk' : k < vs.length := by rw [h1]; exact hk
  obtain ⟨b, o, e, _, _, _, q⟩ := h2 k hk'
  obtain ⟨E, c, e', hc, hr⟩ := h3 k hk' hk
  exact ⟨b, o, E, c, e, by rw [q, e'], hc, hr⟩
/-- The three screens, whatever has been stored in their rows. -/
structure OSt (w3 : World) (X : Nat) (els : List El) (wr : World) : Prop where
  below : Below w3.heap.size w3 wr
  blk : Held wr X 25 (els.flatMap El.cs).toArray
  rows : ∀ e ∈ els, LV w3.heap.size wr e.D e.lr ∧ e.lr.length = e.n
  back : ∀ e ∈ els, LV w3.heap.size wr e.E e.lb ∧ e.lb.length = e.m
theorem OSt.next {w3 : World} {X : Nat} {els : List El} {wr wx : World} (h : OSt w3 X els wr) (hb : Below wr.heap.size wr wx) : OSt w3 X els wx :=
  ⟨h.below.trans (hb.mono h.below.size), h.blk.below hb h.blk.lt, fun e he => ⟨(h.rows e he).1.below hb (Nat.le_refl _), (h.rows e he).2⟩, fun e he => ⟨(h.back e he).1.below hb (Nat.le_refl _), (h.back e he).2⟩⟩
theorem OSt.no_rune {w3 : World} {X : Nat} {els : List El} {wr : World} (h : OSt w3 X els wr) {b o : Nat} {x : Int} (hx : wr.cell? ⟨b, o, none⟩ = some (.int .i32 x)) : b ≠ X := by
  rintro rfl
  rw [h.blk.cell] at hx
  have := Array.mem_of_getElem? hx
  simp only [List.mem_toArray, List.mem_flatMap] at this
  obtain ⟨e, _, h2⟩ := this
  exact e.no_rune x h2
/-- The three screens and the one at hand. -/
structure XSt (w3 : World) (X Y : Nat) (els : List El) (e : El) (wr : World) : Prop where
  st : OSt w3 X els wr
  box : Box wr Y e.p (.slice e.D e.n e.c) (.slice e.E e.m e.d)
theorem XSt.put {w3 : World} {X Y : Nat} {els : List El} {e : El} {wr : World} (h : XSt w3 X Y els e wr) {b o q : Nat} {x : Int} {k : IntKind} {y : Int} (hB : w3.heap.size ≤ b) (hx : wr.cell? ⟨b, o, none⟩ = some (.int .i32 x)) (hy : wr.cell? ⟨b, q, none⟩ = some (.int k y)) (z : Int) : XSt w3 X Y els e (wr.setCell ⟨b, q, none⟩ (.int k z)) := by
  have h1 := h.st.no_rune hx
  have h2 := h.box.no_rune hx
  have hv : ∀ k' y', Value.int k y = .int k' y' → ∃ x', Value.int k z = .int k' x' := int_v rfl rfl
  exact ⟨⟨h.st.below.setCell (p := ⟨b, q, none⟩) (by exact hB) _, h.st.blk.far (p := ⟨b, q, none⟩) (by exact fun e => h1 e.symm) _,
    fun e he => ⟨(h.st.rows e he).1.set (fun _ _ _ e => by cases e) hy hv, (h.st.rows e he).2⟩, fun e he => ⟨(h.st.back e he).1.set (fun _ _ _ e => by cases e) hy hv, (h.st.back e he).2⟩⟩,
    h.box.far (q := ⟨b, q, none⟩) (by exact fun e => h2 e.symm) _⟩
def ORel (w3 : World) (X : Nat) (els : List El) (v : Value) (wr : World) : Prop := ∃ i : Nat, v = .int .i64 (i : Int) ∧ i ≤ els.length ∧ OSt w3 X els wr
def XRel (w3 : World) (X Y : Nat) (els : List El) (e : El) (N : Nat) (v : Value) (wr : World) : Prop := ∃ i : Nat, v = .int .i64 (i : Int) ∧ i ≤ N ∧ XSt w3 X Y els e wr
def R3Rel (w3 : World) (u v x : Value) (wr : World) : Prop := ∃ (X : Nat) (e0 e1 e2 : El), u = .slice (some ⟨X, 0, none⟩) 3 3 ∧ v = .int .i64 3 ∧ x = .int .i64 0 ∧ (∀ e ∈ [e0, e1, e2], e.Ok) ∧ OSt w3 X [e0, e1, e2] wr
/-- An element is read. -/
theorem wpList_loadE {ops : Array Oper} {rest : List Oper} {o : Oper} {a : Act} {w3 w : World} {Q : Exit → Act → World → Prop} {x : Operand} {X : Nat} {els : List El} (h : OSt w3 X els w) (i : Nat) (hi : i < els.length)
    (ho : o.op = .load 25 x) (hg : o.guard = none) (hx : a.eval x = .pointer (some ⟨X, i * 15, none⟩))
    (k : wpList Try.prog ops Q rest (a.put o.dst (gv els[i].p (.slice els[i].D els[i].n els[i].c) (.slice els[i].E els[i].m els[i].d))) w) : wpList Try.prog ops Q (o :: rest) a w := by
  refine wpList_load_mid hg 25 x ho X (i * 15) hx els[i].cs _ (fun j v hv => ?_) Try.underlying25 rfl box_size ?_
  · have hj : j < 15 := by rw [← els[i].cs_len]; exact (List.getElem?_eq_some_iff.1 hv).1
    rw [h.blk.cell, List.getElem?_toArray, flat_at els i j hi hj, hv]
  · have e : Value.agg els[i].cs.toArray = gv els[i].p (.slice els[i].D els[i].n els[i].c) (.slice els[i].E els[i].m els[i].d) := by simp [El.cs, gv]
    rw [e]
    exact k
theorem LV.weak {B A : Nat} {w : World} {D : Option Addr} {lens : List Nat} (h : LV B w D lens) (hA : A ≤ B) : LV A w D lens := by
  obtain ⟨vs, h1, h2, h3⟩ := h
  refine ⟨vs, h1, h2.weak hA, fun k hk hk' => ?_⟩
  obtain ⟨D', c, e, hc, l, hl, hr⟩ := h3 k hk hk'
  exact ⟨D', c, e, hc, l, hl, hr.weak hA⟩
/-- No more than a thousand lines, none of more than a thousand cells. -/
def OkL (L : List (List C)) : Prop := L.length ≤ 1000 ∧ ∀ r ∈ L, r.length ≤ 1000
theorem OkL.el {L Bk : List (List C)} (h : OkL L) (h' : OkL Bk) (p : Nm) (D E : Option Addr) {n m : Nat} (c d : Nat) (hn : L.length = n) (hm : Bk.length = m) : El.Ok ⟨p, D, E, n, c, m, d, L.map List.length, Bk.map List.length⟩ := by
  refine ⟨hn ▸ h.1, hm ▸ h'.1, fun q hq => ?_, fun q hq => ?_⟩
  · obtain ⟨r, hr, rfl⟩ := List.mem_map.1 hq
    exact h.2 r hr
  · obtain ⟨r, hr, rfl⟩ := List.mem_map.1 hq
    exact h'.2 r hr
theorem fitted_ok (L : List (List C)) (x : Int) (h : Nat) (hh : h ≤ 1000) : OkL (fittedF L x h) := by
  refine ⟨by rw [fittedF_len]; exact hh, fun r hr => ?_⟩
  obtain ⟨k, hk, rfl⟩ := List.getElem_of_mem hr
  by_cases hl : k < L.length
  · rw [fittedF_in L x h k hk hl, fitF_len]
    unfold withinF; omega
  · rw [fittedF_out L x h k hk hl]
    exact blankF_le x
theorem up_ok {L : List (List C)} {n k : Nat} (x : Int) (hn : L.length = n) (h1 : 1 ≤ n) (h8 : n ≤ 1000) (hk : k ≤ n) (hl : ∀ r ∈ L, r.length ≤ 1000) : OkL (upL L 0 (n - 1 + 1) k x) := ⟨by rw [upL_len x hn (by omega) (by omega)]; exact h8, upL_rows hl⟩
theorem down_ok {L : List (List C)} {n k : Nat} (x : Int) (hn : L.length = n) (h1 : 1 ≤ n) (h8 : n ≤ 1000) (hk : k ≤ n) (hl : ∀ r ∈ L, r.length ≤ 1000) : OkL (downL L 0 (n - 1 + 1) k x) := ⟨by rw [downL_len x hn (by omega) (by omega)]; exact h8, downL_rows hl⟩
theorem back_ok {L Bk : List (List C)} {k : Nat} (hb : Bk.length ≤ 50) (hl : ∀ r ∈ L, r.length ≤ 1000) (hlb : ∀ r ∈ Bk, r.length ≤ 1000) : OkL (upBack L Bk 0 k) := ⟨Nat.le_trans (upBack_len hb) (by decide), upBack_rows hl hlb⟩
set_option maxRecDepth 100000 in
set_option maxHeartbeats 4000000 in
theorem own_walk (D0 : Option Addr) (c0 : Nat) (xs : List Int) (a b z : Int) (w : World) (hr : ReadI w (.slice D0 xs.length c0) xs) :
    Calls Try.prog 5 #[.slice D0 xs.length c0, .int .i64 a, .int .i64 b, .int .i64 z] w (TrueBelow w) := by
  have HG := Lib.hid (grid_any D0 c0 xs w hr)
  clear hr
  go_enter Try.func5, Try.ntmps5
  go_upto_region 2 with (first
  | (with_reducible refine wpList_storeB (x := .tmp 9) (y := .tmp 18) (p := p) (D := D) (E := E) (n := n) (c := c) (m := m) (d := d) ?_ ?_ ?_ ?_ ?_ ?_
     · with_reducible rfl
     · rfl
     · rfl
     · rfl
     · rfl)
  | (go_at_call 6
     refine HG.out.mono ?_
     rintro e w1 ⟨p, D, E, n, c, m, d, W, L, Bk, rfl, ok⟩))
  clear HG
  obtain ⟨scr, bel, hW0, hW1, hn0, hn1, hp, hrow, hm, hone⟩ := ok
  have hpw := hp.w
  have hph := hp.h
  have hl : ∀ r ∈ L, r.length ≤ 1000 := fun r h => by rw [hrow r h]; omega
  have hlb : ∀ r ∈ Bk, r.length ≤ 1000 := fun r h => by obtain ⟨x, e, _⟩ := hone r h; rw [e]; simp
  have HL := Lib.hid hl
  have HLB := Lib.hid hlb
  have HN := Lib.hid scr.nr
  have HONE := Lib.hid hone
  clear hone hl hlb
  refine wp_world (T1 w w1.heap.size p D E n c m d L Bk) ⟨Box.new _ p _ _, (scr.weak (Nat.zero_le _)).below ((Below.refl _ _).alloc (Nat.le_refl _) _) (Nat.le_refl _), bel.alloc bel.size _⟩ ?_
  clear scr bel
  generalize w1.heap.size = G at *
  rintro wa sa
  try dsimp only [Act.put]
  have HR := Lib.hid (rresize_any p D E n c m d L Bk W wa sa.scr (by omega) (by omega) hW0 (by omega) hrow hp.x hp.y hp.sx hp.sy)
  have x1 := sa.box
  have y0 := sa.box.cells.c0
  have y1 := sa.box.cells.c1
  rw [hpw] at y0
  rw [hph] at y1
  go_upto_region 3 with (first
  | (with_reducible refine wpList_loadB x1 (x := .tmp 9) ?_ ?_ ?_ ?_
     · with_reducible rfl
     · rfl
     · rfl)
  | (with_reducible refine wpList_storeB (x := .tmp 10) (y := .tmp 24) (p := p2) (D := D2) (E := E2) (n := n) (c := c2) (m := m2) (d := d2) ?_ ?_ ?_ ?_ ?_ ?_
     · with_reducible rfl
     · rfl
     · rfl
     · rfl
     · rfl)
  | (go_at_call 13
     refine HR.out.mono ?_
     rintro e w2 ⟨p2, D2, c2, E2, m2, d2, rfl, l2, hb2⟩))
  try dsimp only [Act.put]
  refine wp_world (W2 w G w2.heap.size p p2 D E D2 E2 n c m d c2 m2 d2 L Bk) ⟨(sa.box.below hb2 sa.box.lt).alloc _, Box.new _ p2 _ _, sa.scr.below (hb2.alloc hb2.size _) (Nat.le_refl _), (l2.weak (Nat.zero_le _)).below ((Below.refl _ _).alloc (Nat.le_refl _) _) (Nat.le_refl _), (sa.below.trans (hb2.mono sa.below.size)).alloc (Nat.le_trans sa.below.size hb2.size) _⟩ ?_
  clear sa l2 hb2 x1 y0 y1 HR
  generalize w2.heap.size = H at *
  rintro w3 t3
  go_cut [45, 46, 47] (R3Rel w3)
  case first =>
    as_aux_lemma =>
      obtain ⟨s, hs3, hS⟩ := mask3 z
      obtain ⟨a7, ha7, hA⟩ := mask7 a
      obtain ⟨b7, hb7, hB⟩ := mask7 b
      have hw1 : IntKind.i64.wrap ((n : Int) - 1) = ((n - 1 : Nat) : Int) := by rw [IntWalk.i64_in _ (by omega)]; omega
      have hw2 : (n : Int) - 1 = ((n - 1 : Nat) : Int) := by omega
      have hw3 : IntKind.i64.wrap ((n - 1 : Nat) : Int) = ((n - 1 : Nat) : Int) := IntWalk.i64_in _ (by omega)
      have td := t3.next (below_drewN (Below.refl _ _) 1)
      obtain ⟨LA, hLA⟩ : ∃ l, upL L 0 (n - 1 + 1) (min s (n - 1 + 1 - 0)) p.w = l := ⟨_, rfl⟩
      obtain ⟨KA, hKA⟩ : ∃ l, upBack L Bk 0 (min s (n - 1 + 1 - 0)) = l := ⟨_, rfl⟩
      obtain ⟨LB, hLB⟩ : ∃ l, downL L 0 (n - 1 + 1) (min s (n - 1 + 1 - 0)) p.w = l := ⟨_, rfl⟩
      obtain ⟨LZ, hLZ⟩ : ∃ l, fittedF L (sideF (a7 : Int)) (sideF (b7 : Int)).toNat = l := ⟨_, rfl⟩
      have HU := Lib.hid (up_nat p D E n c m d L Bk 0 (n - 1) s w3.drew td.sg (by omega) (by omega) (by omega) hm HL.out HLB.out)
      have HD := Lib.hid (fun w' h => down_nat p D E n c m d L Bk 0 (n - 1) s w' (td.sg.below (C := w3.drew.heap.size) h (Nat.le_refl _)) (by omega) (by omega) (by omega) hm HL.out HLB.out)
      have HZ := Lib.hid (fun w' h => gresize_any p D E n c m d L Bk a7 b7 w' (td.sg.below (C := w3.drew.heap.size) h (Nat.le_refl _)) hm HLB.out)
      have hbk := t3.sg.nb
      have HA1 : Hid (OkL LA) := hLA ▸ up_ok p.w HN.out hn0 (by omega) (by omega) HL.out
      have HA2 : Hid (OkL KA) := hKA ▸ back_ok (by omega) HL.out HLB.out
      have HB1 : Hid (OkL LB) := hLB ▸ down_ok p.w HN.out hn0 (by omega) (by omega) HL.out
      have HZ1 : Hid (OkL LZ) := hLZ ▸ fitted_ok L _ _ (by unfold sideF; omega)
      have HBK : Hid (OkL Bk) := ⟨by omega, HLB.out⟩
      clear hbk
      rw [hLA, hKA] at HU
      rw [hLB] at HD
      rw [hLZ] at HZ
      clear hLA hKA hLB hLZ
      refine wp_region_held_drew (S := fun w' => Box w' G p (.slice D n c) (.slice E m d)) (by kernel_rfl) (by exact td.g) (fun hH0 => ?_)
      refine wpAnyH_take (i := 0) (oi := _) (v := gv p (.slice D n c) (.slice E m d)) rfl (by kernel_rfl) (by kernel_rfl) (by kernel_rfl) (fun _ _ _ h => h) (yields_loadB (by rfl) rfl (by rfl) (fun _ h => h)) hH0 ?_
      change wpAnyH _ _ _ _ _ _ _ (Act.put _ (some 25) (gv p (.slice D n c) (.slice E m d))) _
      simp only [Act.put, List.setIfInBounds_toArray, List.set_cons_zero, List.set_cons_succ]
      refine wpAnyH_take (i := 1) (oi := _) (v := .pointer (some ⟨G, 1, none⟩)) rfl (by kernel_rfl) (by kernel_rfl) (by kernel_rfl) (fun _ _ _ h => h) (Or.inl ⟨by rfl, ?_⟩) hH0 ?_
      · intro wv hSw
        have hs1 := hSw.cells.c1
        rw [hph] at hs1
        go_simp
      change wpAnyH _ _ _ _ _ _ _ (Act.put _ (some 26) (.pointer (some ⟨G, 1, none⟩))) _
      simp only [Act.put, List.setIfInBounds_toArray, List.set_cons_zero, List.set_cons_succ]
      refine wpAnyH_take (i := 2) (oi := _) (v := .int .i64 n) rfl (by kernel_rfl) (by kernel_rfl) (by kernel_rfl) (fun _ _ _ h => h) (Or.inl ⟨by rfl, ?_⟩) hH0 ?_
      · intro wv hSw
        have hs1 := hSw.cells.c1
        rw [hph] at hs1
        go_simp
      change wpAnyH _ _ _ _ _ _ _ (Act.put _ (some 27) (.int .i64 n)) _
      simp only [Act.put, List.setIfInBounds_toArray, List.set_cons_zero, List.set_cons_succ]
      refine wpAnyH_take (i := 3) (oi := _) (v := .int .i64 ((n - 1 : Nat) : Int)) rfl (by kernel_rfl) (by kernel_rfl) (by kernel_rfl) (fun _ _ _ h => h) (Or.inl ⟨by rfl, ?_⟩) hH0 ?_
      · intro wv hSw
        have hs1 := hSw.cells.c1
        rw [hph] at hs1
        go_simp
      change wpAnyH _ _ _ _ _ _ _ (Act.put _ (some 28) (.int .i64 ((n - 1 : Nat) : Int))) _
      simp only [Act.put, List.setIfInBounds_toArray, List.set_cons_zero, List.set_cons_succ]
      refine wpAnyH_take (i := 4) (oi := _) (v := .int .i64 z) rfl (by kernel_rfl) (by kernel_rfl) (by kernel_rfl) (fun _ _ _ h => h) (Or.inl ⟨by rfl, ?_⟩) hH0 ?_
      · intro wv hSw
        have hs1 := hSw.cells.c1
        rw [hph] at hs1
        go_simp
      change wpAnyH _ _ _ _ _ _ _ (Act.put _ (some 29) (.int .i64 z)) _
      simp only [Act.put, List.setIfInBounds_toArray, List.set_cons_zero, List.set_cons_succ]
      refine wpAnyH_take (i := 5) (oi := _) (v := .int .i64 s) rfl (by kernel_rfl) (by kernel_rfl) (by kernel_rfl) (fun _ _ _ h => h) (Or.inl ⟨by rfl, ?_⟩) hH0 ?_
      · intro wv hSw
        have hs1 := hSw.cells.c1
        rw [hph] at hs1
        go_simp
      change wpAnyH _ _ _ _ _ _ _ (Act.put _ (some 30) (.int .i64 s)) _
      simp only [Act.put, List.setIfInBounds_toArray, List.set_cons_zero, List.set_cons_succ]
      refine wpAnyH_take (i := 7) (oi := _) (v := gv p (.slice D n c) (.slice E m d)) rfl (by kernel_rfl) (by kernel_rfl) (by kernel_rfl) (fun _ _ _ h => h) (yields_loadB (by rfl) rfl (by rfl) (fun _ h => h)) hH0 ?_
      change wpAnyH _ _ _ _ _ _ _ (Act.put _ (some 32) (gv p (.slice D n c) (.slice E m d))) _
      simp only [Act.put, List.setIfInBounds_toArray, List.set_cons_zero, List.set_cons_succ]
      refine wpAnyH_take (i := 8) (oi := _) (v := .pointer (some ⟨G, 1, none⟩)) rfl (by kernel_rfl) (by kernel_rfl) (by kernel_rfl) (fun _ _ _ h => h) (Or.inl ⟨by rfl, ?_⟩) hH0 ?_
      · intro wv hSw
        have hs1 := hSw.cells.c1
        rw [hph] at hs1
        go_simp
      change wpAnyH _ _ _ _ _ _ _ (Act.put _ (some 33) (.pointer (some ⟨G, 1, none⟩))) _
      simp only [Act.put, List.setIfInBounds_toArray, List.set_cons_zero, List.set_cons_succ]
      refine wpAnyH_take (i := 9) (oi := _) (v := .int .i64 n) rfl (by kernel_rfl) (by kernel_rfl) (by kernel_rfl) (fun _ _ _ h => h) (Or.inl ⟨by rfl, ?_⟩) hH0 ?_
      · intro wv hSw
        have hs1 := hSw.cells.c1
        rw [hph] at hs1
        go_simp
      change wpAnyH _ _ _ _ _ _ _ (Act.put _ (some 34) (.int .i64 n)) _
      simp only [Act.put, List.setIfInBounds_toArray, List.set_cons_zero, List.set_cons_succ]
      refine wpAnyH_take (i := 10) (oi := _) (v := .int .i64 ((n - 1 : Nat) : Int)) rfl (by kernel_rfl) (by kernel_rfl) (by kernel_rfl) (fun _ _ _ h => h) (Or.inl ⟨by rfl, ?_⟩) hH0 ?_
      · intro wv hSw
        have hs1 := hSw.cells.c1
        rw [hph] at hs1
        go_simp
      change wpAnyH _ _ _ _ _ _ _ (Act.put _ (some 35) (.int .i64 ((n - 1 : Nat) : Int))) _
      simp only [Act.put, List.setIfInBounds_toArray, List.set_cons_zero, List.set_cons_succ]
      refine wpAnyH_take (i := 11) (oi := _) (v := .int .i64 z) rfl (by kernel_rfl) (by kernel_rfl) (by kernel_rfl) (fun _ _ _ h => h) (Or.inl ⟨by rfl, ?_⟩) hH0 ?_
      · intro wv hSw
        have hs1 := hSw.cells.c1
        rw [hph] at hs1
        go_simp
      change wpAnyH _ _ _ _ _ _ _ (Act.put _ (some 36) (.int .i64 z)) _
      simp only [Act.put, List.setIfInBounds_toArray, List.set_cons_zero, List.set_cons_succ]
      refine wpAnyH_take (i := 12) (oi := _) (v := .int .i64 s) rfl (by kernel_rfl) (by kernel_rfl) (by kernel_rfl) (fun _ _ _ h => h) (Or.inl ⟨by rfl, ?_⟩) hH0 ?_
      · intro wv hSw
        have hs1 := hSw.cells.c1
        rw [hph] at hs1
        go_simp
      change wpAnyH _ _ _ _ _ _ _ (Act.put _ (some 37) (.int .i64 s)) _
      simp only [Act.put, List.setIfInBounds_toArray, List.set_cons_zero, List.set_cons_succ]
      refine wpAnyH_take (i := 14) (oi := _) (v := gv p (.slice D n c) (.slice E m d)) rfl (by kernel_rfl) (by kernel_rfl) (by kernel_rfl) (fun _ _ _ h => h) (yields_loadB (by rfl) rfl (by rfl) (fun _ h => h)) hH0 ?_
      change wpAnyH _ _ _ _ _ _ _ (Act.put _ (some 39) (gv p (.slice D n c) (.slice E m d))) _
      simp only [Act.put, List.setIfInBounds_toArray, List.set_cons_zero, List.set_cons_succ]
      refine wpAnyH_take (i := 15) (oi := _) (v := .int .i64 a) rfl (by kernel_rfl) (by kernel_rfl) (by kernel_rfl) (fun _ _ _ h => h) (Or.inl ⟨by rfl, ?_⟩) hH0 ?_
      · intro wv hSw
        have hs1 := hSw.cells.c1
        rw [hph] at hs1
        go_simp
      change wpAnyH _ _ _ _ _ _ _ (Act.put _ (some 40) (.int .i64 a)) _
      simp only [Act.put, List.setIfInBounds_toArray, List.set_cons_zero, List.set_cons_succ]
      refine wpAnyH_take (i := 16) (oi := _) (v := .int .i64 a7) rfl (by kernel_rfl) (by kernel_rfl) (by kernel_rfl) (fun _ _ _ h => h) (Or.inl ⟨by rfl, ?_⟩) hH0 ?_
      · intro wv hSw
        have hs1 := hSw.cells.c1
        rw [hph] at hs1
        go_simp
      change wpAnyH _ _ _ _ _ _ _ (Act.put _ (some 41) (.int .i64 a7)) _
      simp only [Act.put, List.setIfInBounds_toArray, List.set_cons_zero, List.set_cons_succ]
      refine wpAnyH_take (i := 17) (oi := _) (v := .int .i64 b) rfl (by kernel_rfl) (by kernel_rfl) (by kernel_rfl) (fun _ _ _ h => h) (Or.inl ⟨by rfl, ?_⟩) hH0 ?_
      · intro wv hSw
        have hs1 := hSw.cells.c1
        rw [hph] at hs1
        go_simp
      change wpAnyH _ _ _ _ _ _ _ (Act.put _ (some 42) (.int .i64 b)) _
      simp only [Act.put, List.setIfInBounds_toArray, List.set_cons_zero, List.set_cons_succ]
      refine wpAnyH_take (i := 18) (oi := _) (v := .int .i64 b7) rfl (by kernel_rfl) (by kernel_rfl) (by kernel_rfl) (fun _ _ _ h => h) (Or.inl ⟨by rfl, ?_⟩) hH0 ?_
      · intro wv hSw
        have hs1 := hSw.cells.c1
        rw [hph] at hs1
        go_simp
      change wpAnyH _ _ _ _ _ _ _ (Act.put _ (some 43) (.int .i64 b7)) _
      simp only [Act.put, List.setIfInBounds_toArray, List.set_cons_zero, List.set_cons_succ]
      refine wpAnyH_take (i := 22) (oi := _) (v := .int .i64 0) rfl (by kernel_rfl) (by kernel_rfl) (by kernel_rfl) (fun _ _ _ h => h) (Or.inl ⟨by rfl, ?_⟩) hH0 ?_
      · intro wv hSw
        have hs1 := hSw.cells.c1
        rw [hph] at hs1
        go_simp
      change wpAnyH _ _ _ _ _ _ _ (Act.put _ (some 47) (.int .i64 0)) _
      simp only [Act.put, List.setIfInBounds_toArray, List.set_cons_zero, List.set_cons_succ]
      refine wpAnyH_ready (rs := [6]) (by kernel_rfl) (by simp) ?_
      refine AllReadyH.cons (o := _) rfl (fun K hK => ?_) AllReadyH.nil
      go_simp
      refine HU.out.mono ?_
      rintro e w4 ⟨Da, Ea, na, ca, ma, da, rfl, s4, hb4⟩
      go_wp2_with fail
      refine hK.out _ _ (by exact (td.g.below hb4 td.g.lt)) (fun hH1 => ?_)
      clear hK K
      try simp only [Act.put, List.setIfInBounds_toArray, List.set_cons_zero, List.set_cons_succ]
      refine wpAnyH_ready (rs := [13]) (by kernel_rfl) (by simp) ?_
      refine AllReadyH.cons (o := _) rfl (fun K hK => ?_) AllReadyH.nil
      go_simp
      refine (HD.out w4 hb4).mono ?_
      rintro e w5 ⟨Db, Eb, nb, cb, mb, db, rfl, s5, hb5⟩
      have b5 := hb4.trans (hb5.mono hb4.size)
      go_wp2_with fail
      refine hK.out _ _ (by exact (td.g.below b5 td.g.lt)) (fun hH2 => ?_)
      clear hK K
      try simp only [Act.put, List.setIfInBounds_toArray, List.set_cons_zero, List.set_cons_succ]
      refine wpAnyH_ready (rs := [19]) (by kernel_rfl) (by simp) ?_
      refine AllReadyH.cons (o := _) rfl (fun K hK => ?_) AllReadyH.nil
      go_simp
      refine (HZ.out w5 b5).mono ?_
      rintro e w6 ⟨pz, hpz1, hpz2, Dz, Ez, nz, cz, mz, dz, rfl, s6, hb6⟩
      have b6 := b5.trans (hb6.mono b5.size)
      go_wp2_with fail
      refine hK.out _ _ (by exact (td.g.below b6 td.g.lt)) (fun hH3 => ?_)
      clear hK K
      try simp only [Act.put, List.setIfInBounds_toArray, List.set_cons_zero, List.set_cons_succ]
      refine wpAnyH_ready (rs := [20]) (by kernel_rfl) (by simp) ?_
      refine AllReadyH.cons (o := _) rfl (fun K hK => ?_) AllReadyH.nil
      refine step_build3 (x0 := .tmp 31) (x1 := .tmp 38) (x2 := .tmp 44) (e0 := ⟨p, Da, Ea, na, ca, ma, da, LA.map List.length, KA.map List.length⟩) (e1 := ⟨p, Db, Eb, nb, cb, mb, db, LB.map List.length, Bk.map List.length⟩) (e2 := ⟨pz, Dz, Ez, nz, cz, mz, dz, LZ.map List.length, Bk.map List.length⟩) (by rfl) (by rfl) (by rfl) (by rfl) (by rfl) ?_
      refine hK.out _ _ (by exact (td.g.below b6 td.g.lt).alloc _) (fun hH4 => ?_)
      clear hK K
      change wpAnyH _ _ _ _ _ _ _ (Act.put _ (some 45) (.slice (some ⟨w6.heap.size, 0, none⟩) 3 3)) _
      simp only [Act.put, List.setIfInBounds_toArray, List.set_cons_zero, List.set_cons_succ]
      refine wpAnyH_take (i := 21) (oi := _) (v := .int .i64 3) rfl (by kernel_rfl) (by kernel_rfl) (by kernel_rfl) (fun _ _ _ h => h) (Or.inl ⟨by rfl, ?_⟩) hH4 ?_
      · intro wv hSw
        have hs1 := hSw.cells.c1
        rw [hph] at hs1
        go_simp
      change wpAnyH _ _ _ _ _ _ _ (Act.put _ (some 46) (.int .i64 3)) _
      simp only [Act.put, List.setIfInBounds_toArray, List.set_cons_zero, List.set_cons_succ]
      refine wpAnyH_done (by kernel_rfl) ?_ _
      clear hH0 hH1 hH2 hH3 hH4
      go_wp2_with fail
      go_meet
      have b7 : Below w3.drew.heap.size w3.drew w6 := b6
      have b8 : Below w3.heap.size w3 w6 := below_drewN (Below.refl _ _) 1 |>.trans b7
      have ba := (Below.refl w6.heap.size w6).alloc (Nat.le_refl _) (.cells ([(⟨p, Da, Ea, na, ca, ma, da, LA.map List.length, KA.map List.length⟩ : El), ⟨p, Db, Eb, nb, cb, mb, db, LB.map List.length, Bk.map List.length⟩, ⟨pz, Dz, Ez, nz, cz, mz, dz, LZ.map List.length, Bk.map List.length⟩].flatMap El.cs).toArray 25)
      have q4 : Below w4.heap.size w4 w6 := hb5.trans (hb6.mono hb5.size)
      refine ⟨w6.heap.size, _, _, _, rfl, rfl, rfl, ?_, b8.alloc b8.size _, Held.new _ _ _, ?_, ?_⟩
      · intro e he
        simp only [List.mem_cons, List.not_mem_nil, or_false] at he
        rcases he with rfl | rfl | rfl
        · exact HA1.out.el HA2.out _ _ _ _ _ s4.nr s4.nb
        · exact HB1.out.el HBK.out _ _ _ _ _ s5.nr s5.nb
        · exact HZ1.out.el HBK.out _ _ _ _ _ s6.nr s6.nb
      · intro e he
        simp only [List.mem_cons, List.not_mem_nil, or_false] at he
        rcases he with rfl | rfl | rfl
        · exact ⟨((s4.rows.lv.below q4 (Nat.le_refl _)).below ba (Nat.le_refl _)).weak (Nat.le_refl _), by simp [s4.nr]⟩
        · exact ⟨((s5.rows.lv.below hb6 (Nat.le_refl _)).below ba (Nat.le_refl _)).weak (by exact hb4.size), by simp [s5.nr]⟩
        · exact ⟨(s6.rows.lv.below ba (Nat.le_refl _)).weak (by exact b5.size), by simp [s6.nr]⟩
      · intro e he
        simp only [List.mem_cons, List.not_mem_nil, or_false] at he
        rcases he with rfl | rfl | rfl
        · exact ⟨((s4.back.lv.below q4 (Nat.le_refl _)).below ba (Nat.le_refl _)).weak (Nat.le_refl _), by simp [s4.nb]⟩
        · exact ⟨((s5.back.lv.below hb6 (Nat.le_refl _)).below ba (Nat.le_refl _)).weak (by exact hb4.size), by simp [s5.nb]⟩
        · exact ⟨(s6.back.lv.below ba (Nat.le_refl _)).weak (by exact b5.size), by simp [s6.nb]⟩
  case rest =>
    obtain ⟨X, e0, e1, e2, rfl, rfl, rfl, hok, so⟩ := hcut
    obtain ⟨els, hels⟩ : ∃ els, [e0, e1, e2] = els := ⟨_, rfl⟩
    have hlen : els.length = 3 := by rw [← hels]; rfl
    rw [hels] at so hok
    clear hels
    go_wp2_with fail
    go_loopw [47] (ORel w3 X els) (fun i _ => 4 - (intOf i).toNat)
    case atStart => exact ⟨0, rfl, Nat.zero_le _, so⟩
    case round =>
      clear so
      obtain ⟨i, rfl, hi, so⟩ := hrel
      rw [hlen] at hi
      by_cases hlt : i < 3
      · have hii : (i : Int) < (3 : Int) := by omega
        have hie : i < els.length := by omega
        go_upto_region 6 with (first
          | (with_reducible refine wpList_loadE so i hie (x := .tmp 49) ?_ ?_ ?_ ?_
             · with_reducible rfl
             · rfl
             · rfl)
          | (with_reducible refine wpList_storeB (x := .tmp 12) (y := .tmp 50) (p := els[i].p) (D := els[i].D) (E := els[i].E) (n := els[i].n) (c := els[i].c) (m := els[i].m) (d := els[i].d) ?_ ?_ ?_ ?_ ?_ ?_
             · with_reducible rfl
             · rfl
             · rfl
             · rfl
             · rfl))
        refine wp_world (XSt w3 X wr.heap.size els els[i]) ⟨so.next ((Below.refl _ _).alloc (Nat.le_refl _) _), Box.new _ _ _ _⟩ ?_
        have hmem := List.getElem_mem hie
        clear so
        have hoe := hok _ hmem
        generalize els[i] = e at *
        obtain ⟨hon, hom, hor, hob⟩ := hoe
        have HOR := Lib.hid hor
        have HOB := Lib.hid hob
        clear hor hob hok
        generalize wr.heap.size = Y
        rintro wa sx
        try dsimp only [Act.put]
        rw [hlen] at hie
        have y13 := sx.box.cells.c13
        go_wp2_with fail
        clear y13
        go_loopw [54] (XRel w3 X Y els e e.n) (fun i _ => e.n + 1 - (intOf i).toNat)
        case atStart => exact ⟨0, rfl, Nat.zero_le _, sx⟩
        case round =>
          clear sx
          obtain ⟨y, rfl, hy, sx⟩ := hrel
          by_cases hly : y < e.n
          · as_aux_lemma =>
            have hyi : (y : Int) < (e.n : Int) := by omega
            have hyl : y < e.lr.length := by rw [(sx.st.rows e hmem).2]; exact hly
            obtain ⟨q, hq⟩ : ∃ q, e.lr[y] = q := ⟨_, rfl⟩
            have hqm : q ≤ 1000 := by rw [← hq]; exact HOR.out _ (List.getElem_mem hyl)
            have y13 := sx.box.cells.c13
            obtain ⟨tb, tq, Ey, cy, hD, hcy, _, _⟩ := (sx.st.rows e hmem).1.at y hyl
            rw [hD] at y13
            rw [hq] at hcy
            go_wp2_with fail
            clear y13 hcy hD
            go_loopw [63] (XRel w3 X Y els e q) (fun i _ => q + 1 - (intOf i).toNat)
            case atStart => exact ⟨0, rfl, Nat.zero_le _, sx⟩
            case round =>
              clear sx
              obtain ⟨k, rfl, hk, sx⟩ := hrel
              by_cases hlk : k < q
              · have hki : (k : Int) < (q : Int) := by omega
                have y13 := sx.box.cells.c13
                obtain ⟨tb, tq, Ey, cy, hD, hcy, hcc, hrn⟩ := (sx.st.rows e hmem).1.at y hyl
                rw [hD] at y13
                rw [hq] at hcy hcc hrn
                obtain ⟨rb, ro, rx, ry, rfl, hrB, _, hrf, hrx, hry⟩ := hrn.at k hlk
                have hf0 := hrf (ro + k * 2)
                have hf1 := hrf (ro + k * 2 + 1)
                have HST := Lib.hid (sx.put hrB hrx hry 77)
                clear hD sx
                go_wp2_with fail
                go_roundw
                case rel => exact ⟨k + 1, by go_num, by omega, HST.out⟩
                case measure => simp [intOf]; omega
              · have hki : ¬ (k : Int) < (q : Int) := by omega
                go_wp2_with fail
                go_roundw
                case rel => exact ⟨y + 1, by go_num, by omega, sx⟩
                case measure => simp [intOf]; omega
          · have hyi : ¬ (y : Int) < (e.n : Int) := by omega
            have y14 := sx.box.cells.c14
            go_wp2_with fail
            clear y14
            go_loopw [79] (XRel w3 X Y els e e.m) (fun i _ => e.m + 1 - (intOf i).toNat)
            case atStart => exact ⟨0, rfl, Nat.zero_le _, sx⟩
            case round =>
              clear sx
              obtain ⟨y, rfl, hy, sx⟩ := hrel
              by_cases hly : y < e.m
              · as_aux_lemma =>
                have hyi : (y : Int) < (e.m : Int) := by omega
                have hyl : y < e.lb.length := by rw [(sx.st.back e hmem).2]; exact hly
                obtain ⟨q, hq⟩ : ∃ q, e.lb[y] = q := ⟨_, rfl⟩
                have hqm : q ≤ 1000 := by rw [← hq]; exact HOB.out _ (List.getElem_mem hyl)
                have y14 := sx.box.cells.c14
                obtain ⟨tb, tq, Ey, cy, hD, hcy, _, _⟩ := (sx.st.back e hmem).1.at y hyl
                rw [hD] at y14
                rw [hq] at hcy
                go_wp2_with fail
                clear y14 hcy hD
                go_loopw [88] (XRel w3 X Y els e q) (fun i _ => q + 1 - (intOf i).toNat)
                case atStart => exact ⟨0, rfl, Nat.zero_le _, sx⟩
                case round =>
                  clear sx
                  obtain ⟨k, rfl, hk, sx⟩ := hrel
                  by_cases hlk : k < q
                  · have hki : (k : Int) < (q : Int) := by omega
                    have y14 := sx.box.cells.c14
                    obtain ⟨tb, tq, Ey, cy, hD, hcy, hcc, hrn⟩ := (sx.st.back e hmem).1.at y hyl
                    rw [hD] at y14
                    rw [hq] at hcy hcc hrn
                    obtain ⟨rb, ro, rx, ry, rfl, hrB, _, hrf, hrx, hry⟩ := hrn.at k hlk
                    have hf0 := hrf (ro + k * 2)
                    have hf1 := hrf (ro + k * 2 + 1)
                    have HST := Lib.hid (sx.put hrB hrx hrx 33)
                    clear hD sx
                    go_wp2_with fail
                    go_roundw
                    case rel => exact ⟨k + 1, by go_num, by omega, HST.out⟩
                    case measure => simp [intOf]; omega
                  · have hki : ¬ (k : Int) < (q : Int) := by omega
                    go_wp2_with fail
                    go_roundw
                    case rel => exact ⟨y + 1, by go_num, by omega, sx⟩
                    case measure => simp [intOf]; omega
              · have hyi : ¬ (y : Int) < (e.m : Int) := by omega
                go_wp2_with fail
                go_roundw
                case rel => exact ⟨i + 1, by go_num, by omega, sx.st⟩
                case measure => simp [intOf]; omega
      · have hii : ¬ (i : Int) < (3 : Int) := by omega
        go_upto_region 25 with fail
        have t4 := t3.next so.below
        clear t3 so
        have HSR : Hid (Calls Try.prog 15 #[.slice D n c, .slice D2 n c2] wr (Quiet true wr)) := by
          have := sameRows_any D D2 c c2 L wr t4.sg.rows t4.lw (by rw [HN.out]; omega) HL.out
          rwa [HN.out] at this
        have g13 := t4.g.cells.c13
        have g14 := t4.g.cells.c14
        have w13 := t4.was.cells.c13
        by_cases hm0 : m = 0
        · subst hm0
          go_wp2_with (first
            | (go_at_call 15
               refine HSR.out.mono ?_
               rintro e w5 ⟨rfl, m5, rfl⟩)
            | (go_at_call 11
               refine (awake_any _).mono ?_
               rintro e w9 ⟨rfl, hb9⟩))
          go_ret
          exact ⟨rfl, (below_drewN t4.below m5).trans (hb9.mono (below_drewN t4.below m5).size)⟩
        · have hmi : ((m : Int) == 0) = false := beq_eq_false_iff_ne.2 (by omega)
          obtain ⟨l0, hl0⟩ : ∃ l, Bk[0]? = some l := ⟨_, List.getElem?_eq_getElem (by rw [t4.sg.nb]; omega)⟩
          obtain ⟨x, rfl, hx33⟩ := HONE.out l0 (List.mem_of_getElem? hl0)
          obtain ⟨eb, eo, Ex, cx, rfl, _, hcx, _, hrx⟩ := t4.sg.back.at? hl0
          obtain ⟨fb, fo, rfl, _, _, _, hfx, _⟩ := hrx 0 (by simp)
          have hcx' : wr.cell? ⟨eb, eo, none⟩ = some (.slice (some ⟨fb, fo, none⟩) 1 cx) := hcx
          have hfx' : wr.cell? ⟨fb, fo, none⟩ = some (.int .i32 x) := hfx
          have hxb : (x != 33) = true := bne_iff_ne.2 hx33
          clear hcx hfx hrx
          go_wp2_with (first
            | (go_at_call 15
               refine HSR.out.mono ?_
               rintro e w5 ⟨rfl, m5, rfl⟩)
            | (go_at_call 11
               refine (awake_any _).mono ?_
               rintro e w9 ⟨rfl, hb9⟩))
          go_ret
          exact ⟨rfl, (below_drewN t4.below m5).trans (hb9.mono (below_drewN t4.below m5).size)⟩
end Go.Proofs.Ytjgdabbcbfhijaa
