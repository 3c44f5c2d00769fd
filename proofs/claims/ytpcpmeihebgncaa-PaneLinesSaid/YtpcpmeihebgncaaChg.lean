/-
  Screens whose table of rows is one block of the call's own; what a call leaves that turns one table in place; what ownLines and own of package acts answer, told so. Conditions: rows of at most a thousand cells, at most a thousand of them, at most fifty lines that went.
-/
import Derived.Test.YtpcpmeihebgncaaMoved
import Derived.Test.YtpcpmeihebgncaaPuts
namespace Go.Proofs.Ytpcpmeihebgncaa
open Go.RowKit
set_option maxRecDepth 100000

/-- Block g is a table of the lines M, and nothing else. -/
def OTab (B : Nat) (w : World) (g : Nat) (M : List (List C)) : Prop := ∃ vs, Held w g 46 vs.toArray ∧ B ≤ g ∧ RowsV B w vs M
theorem OTab.below {B C : Nat} {w w' : World} {g : Nat} {M : List (List Ytpcpmeihebgncaa.C)} (h : OTab B w g M) (hb : Below C w w') (hC : w.heap.size ≤ C) : OTab B w' g M := by
  obtain ⟨vs, h1, h2, h3⟩ := h
  exact ⟨vs, h1.below hb (Nat.lt_of_lt_of_le h1.lt hC), h2, h3.below hb hC⟩
theorem OTab.weak {B A : Nat} {w : World} {g : Nat} {M : List (List C)} (h : OTab B w g M) (hA : A ≤ B) : OTab A w g M := by
  obtain ⟨vs, h1, h2, h3⟩ := h
  exact ⟨vs, h1, Nat.le_trans hA h2, h3.weak hA⟩
theorem OTab.far {B : Nat} {w : World} {g : Nat} {M : List (List C)} (h : OTab B w g M) {p : Addr} (hp : p.block < B) (x : Value) : OTab B (w.setCell p x) g M := by
  obtain ⟨vs, h1, h2, h3⟩ := h
  exact ⟨vs, h1.far (by omega) x, h2, h3.1, fun k a b => (h3.2 k a b).far hp x⟩
theorem OTab.lines {B : Nat} {w : World} {g : Nat} {M : List (List C)} (h : OTab B w g M) : Lines B w (some ⟨g, 0, none⟩) M := by
  obtain ⟨vs, h1, h2, h3⟩ := h
  exact ⟨vs, h1.tab h2, h3⟩
theorem OTab.lt {B : Nat} {w : World} {g : Nat} {M : List (List C)} (h : OTab B w g M) : g < w.heap.size := by
  obtain ⟨vs, h1, _⟩ := h
  exact h1.lt
theorem OTab.low {B : Nat} {w : World} {g : Nat} {M : List (List C)} (h : OTab B w g M) : B ≤ g := by
  obtain ⟨vs, _, h1, _⟩ := h
  exact h1
/-- Tables stay where no block of theirs, and no row's, is turned. -/
theorem OTab.eq {B : Nat} {w w' : World} {g : Nat} {M : List (List C)} (h : OTab B w g M) (hs : w.heap.size ≤ w'.heap.size) (hf : ∀ b, B ≤ b → b < w.heap.size → w'.heap[b]? = w.heap[b]?) : OTab B w' g M := by
  obtain ⟨vs, h1, h2, h3⟩ := h
  refine ⟨vs, (hf g h2 h1.lt).trans h1, h2, h3.1, fun k a b => ?_⟩
  obtain ⟨D', c, e, hc, hr⟩ := h3.2 k a b
  exact ⟨D', c, e, hc, hr.eq hs fun b _ _ hb hl _ => hf b hb hl⟩

/-- All but block g is as it was. -/
structure Chg (g : Nat) (w w' : World) : Prop where
  below : ∀ {B : Nat} {w0 : World}, B ≤ g → Below B w0 w → Below B w0 w'
  block : ∀ b, b < w.heap.size → b ≠ g → w'.heap[b]? = w.heap[b]?
  size : w.heap.size ≤ w'.heap.size
theorem Chg.of {g : Nat} {w w' : World} (h : Below w.heap.size w w') (hg : g < w.heap.size) : Chg g w w' :=
  ⟨fun hB h0 => h0.trans (h.mono (by omega)), fun b hb _ => h.block b hb, h.size⟩
theorem Chg.set {g : Nat} {w w' : World} (h : Chg g w w') (o : Nat) (x : Value) : Chg g w (w'.setCell ⟨g, o, none⟩ x) :=
  ⟨fun hB h0 => (h.below hB h0).setCell (p := ⟨g, o, none⟩) hB _, fun b hb hn => (Below.heap_setCell w' ⟨g, o, none⟩ x b hn).trans (h.block b hb hn), by simpa using h.size⟩
theorem Chg.setRow {g k : Nat} {w w' : World} (h : Chg g w w') (hg : g < w.heap.size) (hk : w.heap.size ≤ k) (cs : Array Value) : Chg g w (w'.setRow k cs) :=
  ⟨fun hB h0 => below_setRow (h.below hB h0) (by omega) _, fun b hb hn => (setRow_other w' k b cs (by omega)).trans (h.block b hb hn), by simpa using h.size⟩
theorem Chg.trans {g : Nat} {w w1 w2 : World} (h : Chg g w w1) (h' : Chg g w1 w2) : Chg g w w2 :=
  ⟨fun hB h0 => h'.below hB (h.below hB h0), fun b hb hn => (h'.block b (Nat.lt_of_lt_of_le hb h.size) hn).trans (h.block b hb hn), Nat.le_trans h.size h'.size⟩
theorem Chg.box {g k : Nat} {w w' : World} (h : Chg g w w') {p : Nm} {r b : Value} (hb : Box w k p r b) (hk : k ≠ g) : Box w' k p r b := (h.block k hb.lt hk).trans hb
theorem Chg.held {g k : Nat} {w w' : World} (h : Chg g w w') {t : TypeId} {cs : Array Value} (hb : Held w k t cs) (hk : k ≠ g) : Held w' k t cs := (h.block k hb.lt hk).trans hb

/-- Lines of the call's own come back, in a table of its own. -/
def OLPost (w : World) (M : List (List C)) (e : Ending) (w' : World) : Prop := ∃ g, e = .returned (.slice (some ⟨g, 0, none⟩) M.length M.length) ∧ OTab w.heap.size w' g M ∧ Below w.heap.size w w'
theorem FillSt.opost {w wr : World} {g : Nat} {M : List (List C)} {vs : List Value} (h : FillSt w g M vs wr) (hg : w.heap.size ≤ g) (hk : vs.length = M.length) : OLPost w M (.returned (.slice (some ⟨g, 0, none⟩) M.length M.length)) wr := by
  refine ⟨g, rfl, ⟨vs, ?_, hg, ?_⟩, h.below⟩
  · have := h.table
    rw [fillV, hk, Nat.sub_self, List.replicate_zero, List.append_nil] at this
    exact this
  · have := h.rows
    rw [hk, List.take_length] at this
    exact this

set_option maxHeartbeats 400000 in
theorem aownO_any (D : Option Addr) (c : Nat) (M : List (List C)) (w : World) (hr : Lines 0 w D M) (hn : M.length ≤ 1050) (hl : ∀ r ∈ M, r.length ≤ 1000) : Calls Try.prog 49 #[.slice D M.length c] w (OLPost w M) := by
  have hm := run_makeL w M.length (by omega)
  have HS := Lib.hid (FillSt.start w M)
  have HR := Lib.hid hr
  clear hr
  go_enter Try.func49, Try.ntmps49
  go_wp2_with fail
  go_loopw [11] (FillRel w w.heap.size M) (fun i _ => M.length - (intOf i).toNat)
  case atStart => exact ⟨[], rfl, HS.out⟩
  case round =>
    obtain ⟨vs, rfl, hst⟩ := hrel
    by_cases hlt : vs.length < M.length
    · have hki : (vs.length : Int) < (M.length : Int) := by omega
      obtain ⟨b, off, E, ce, rfl, _, hbl, _, hcell, hce, hrow⟩ := (HR.out.below hst.below (Nat.le_refl _)).at vs.length hlt
      have hrn : M[vs.length].length ≤ 1000 := hl _ (List.getElem_mem _)
      have HROW := Lib.hid hrow
      clear hrow
      have HCL := Lib.hid (clone_any E ce M[vs.length] wr HROW.out hrn)
      have HST := Lib.hid hst
      have hfl := fillV_cell hst.table hlt
      have hgl := hst.table.lt
      have hfz := hst.table.frozen
      clear hst hrn
      generalize hq : M[vs.length] = q at *
      have HQ := Lib.hid hq
      clear hq
      go_wp2_with (
        go_at_call 95
        refine HCL.out.mono ?_
        rintro e w1 ⟨D1, c1, rfl, hc1, hr1, hb1⟩
        have hfl1 := (fillV_cell (HST.out.table.below hb1 hgl) hlt)
        have hfz1 := (HST.out.table.below hb1 hgl).frozen)
      go_roundw
      case rel =>
        refine ⟨vs ++ [.slice D1 q.length c1], by simp, HST.out.next (Nat.le_refl _) hb1 hlt ⟨D1, c1, ?_, ?_, ?_⟩⟩
        · rw [HQ.out]
        · rw [HQ.out]; exact hc1
        · rw [HQ.out]; exact hr1
      case measure => simp [intOf]; omega
    · have ek : vs.length = M.length := by have := hst.le; omega
      have hki : ¬ (vs.length : Int) < (M.length : Int) := by omega
      have HP := Lib.hid (hst.opost (Nat.le_refl _) ek)
      clear hst ek
      go_wp2_with fail
      go_ret
      exact HP.out

/-- A screen's rows and lines that went: two tables. -/
structure OScr (B : Nat) (w : World) (g h : Nat) (L Bk : List (List C)) : Prop where
  rows : OTab B w g L
  back : OTab B w h Bk
  ne : g ≠ h
theorem OScr.below {B C : Nat} {w w' : World} {g h : Nat} {L Bk : List (List Ytpcpmeihebgncaa.C)} (hs : OScr B w g h L Bk) (hb : Below C w w') (hC : w.heap.size ≤ C) : OScr B w' g h L Bk := ⟨hs.rows.below hb hC, hs.back.below hb hC, hs.ne⟩
theorem OScr.weak {B A : Nat} {w : World} {g h : Nat} {L Bk : List (List C)} (hs : OScr B w g h L Bk) (hA : A ≤ B) : OScr A w g h L Bk := ⟨hs.rows.weak hA, hs.back.weak hA, hs.ne⟩
theorem OScr.eq {B : Nat} {w w' : World} {g h : Nat} {L Bk : List (List C)} (hs : OScr B w g h L Bk) (hz : w.heap.size ≤ w'.heap.size) (hf : ∀ b, B ≤ b → b < w.heap.size → w'.heap[b]? = w.heap[b]?) : OScr B w' g h L Bk := ⟨hs.rows.eq hz hf, hs.back.eq hz hf, hs.ne⟩
theorem OScr.scr {B : Nat} {w : World} {g h : Nat} {L Bk : List (List C)} (hs : OScr B w g h L Bk) : Scr B w (some ⟨g, 0, none⟩) (some ⟨h, 0, none⟩) L.length L.length Bk.length Bk.length L Bk := ⟨hs.rows.lines, hs.back.lines, rfl, rfl, Nat.le_refl _, Nat.le_refl _⟩
/-- A screen as a value whose two tables are blocks of their own. -/
def ov (p : Nm) (g h : Nat) (L Bk : List (List C)) : Value := gv p (.slice (some ⟨g, 0, none⟩) L.length L.length) (.slice (some ⟨h, 0, none⟩) Bk.length Bk.length)
/-- A screen of the call's own comes back. -/
def OwnPost (w : World) (p : Nm) (L Bk : List (List C)) (e : Ending) (w' : World) : Prop := ∃ g h, e = .returned (ov p g h L Bk) ∧ OScr w.heap.size w' g h L Bk ∧ Below w.heap.size w w'
/-- A screen comes back, and of what was there only block k has been turned. -/
def InPost (B k : Nat) (w : World) (p : Nm) (L Bk : List (List C)) (e : Ending) (w' : World) : Prop := ∃ g h, e = .returned (ov p g h L Bk) ∧ OScr B w' g h L Bk ∧ Chg k w w'
def OwnRel2 (w : World) (p : Nm) (L Bk : List (List C)) (wx : World) : Prop := ∃ g h, Box wx w.heap.size p (.slice (some ⟨g, 0, none⟩) L.length L.length) (.slice (some ⟨h, 0, none⟩) Bk.length Bk.length) ∧ Box wx (w.heap.size + 1) zeroNm nilV nilV ∧
  OScr (w.heap.size + 2) wx g h L Bk ∧ Below w.heap.size w wx

set_option maxHeartbeats 4000000 in
theorem aownS_any (p : Nm) (D E : Option Addr) (n c m d : Nat) (L Bk : List (List C)) (w : World) (hs : Scr 0 w D E n c m d L Bk) (hn : n ≤ 1000) (hm : m ≤ 50) (hl : ∀ r ∈ L, r.length ≤ 1000) (hlb : ∀ r ∈ Bk, r.length ≤ 1000) :
    Calls Try.prog 26 #[gv p (.slice D n c) (.slice E m d)] w (OwnPost w p L Bk) := by
  have rs := MS.start w p (.slice D n c) (.slice E m d)
  have HS := Lib.hid rs
  have HH := Lib.hid hs
  clear rs hs
  unfold gv gcs
  go_enter Try.func26, Try.ntmps26
  go_upto_region 1 with fail
  refine wp_world (fun wq => MS w p (.slice D n c) (.slice E m d) wq) HS.out ?_
  clear HS
  intro w2 rs
  have HR : Hid (∀ wx, Below w.heap.size w wx → Calls Try.prog 49 #[.slice D n c] wx (OLPost wx L)) := fun wx hb => by
    have := aownO_any D c L wx (HH.out.rows.below hb (Nat.le_refl _)) (by rw [HH.out.nr]; omega) hl
    rwa [HH.out.nr] at this
  have HB : Hid (∀ wx, Below w.heap.size w wx → Calls Try.prog 49 #[.slice E m d] wx (OLPost wx Bk)) := fun wx hb => by
    have := aownO_any E d Bk wx (HH.out.back.below hb (Nat.le_refl _)) (by rw [HH.out.nb]; omega) hlb
    rwa [HH.out.nb] at this
  have rsd := rs.drew
  have b0 := rsd.below
  have u13 := rsd.box.cells.c13
  have u14 := rsd.box.cells.c14
  have uf := rsd.box.cells.free
  have hz0 : w.heap.size < w2.heap.size := rs.box.lt
  clear hl hlb hn hm
  have a0 := rsd.ans
  have hz1 : w.heap.size + 1 < w2.heap.size := rs.ans.lt
  go_cut [] (OwnRel2 w p L Bk)
  case first =>
    go_region_with (first
      | (go_at_call 49
         with_reducible refine (HR.out _ b0).mono ?_
         rintro e w3 ⟨g3, rfl, l3, b3⟩
         have r3 := rsd.box.below b3 rsd.box.lt
         have y13 := r3.cells.c13
         have y14 := r3.cells.c14
         have yf := r3.cells.free)
      | (go_at_call 49
         with_reducible refine (HB.out _ (b0.trans (b3.mono b0.size))).mono ?_
         rintro e w5 ⟨g5, rfl, l5, b5⟩
         have r5 := r3.below b5 r3.lt
         have z13 := r5.cells.c13
         have z14 := r5.cells.c14
         have zf := r5.cells.free)
      | (go_at_call 49
         with_reducible refine (HB.out _ ((b0.trans (b3.mono b0.size)).setCell (p := ⟨w.heap.size, 13, none⟩) (Nat.le_refl _) _)).mono ?_
         rintro e w5 ⟨g5, rfl, l5, b5⟩
         have r5 := (r3.set_rows (.slice (some ⟨g3, 0, none⟩) L.length L.length)).below b5 (by simpa using r3.lt)
         have z13 := r5.cells.c13
         have z14 := r5.cells.c14
         have zf := r5.cells.free))
    all_goals clear u13 u14 uf y13 y14 yf z13 z14 zf
    all_goals go_wp2_with fail
    all_goals go_meet
    all_goals
      have b35 : Below w2.drew.heap.size w2.drew w5 := b3.trans (b5.mono b3.size)
      have hz2 : w.heap.size + 2 ≤ w2.drew.heap.size := hz1
      have hz3 := b3.size
      refine ⟨g3, g5, (r5.set_rows _).set_back _, ?_, ⟨?_, ?_, ?_⟩, ?_⟩
      · exact ((a0.below b35 (by exact hz1)).far (q := ⟨w.heap.size, 13, none⟩) (by exact (by omega : w.heap.size + 1 ≠ w.heap.size)) _).far (q := ⟨w.heap.size, 14, none⟩) (by exact (by omega : w.heap.size + 1 ≠ w.heap.size)) _
      · exact (((l3.below b5 (Nat.le_refl _)).weak hz2).far (p := ⟨w.heap.size, 13, none⟩) (by exact (by omega : w.heap.size < w.heap.size + 2)) _).far (p := ⟨w.heap.size, 14, none⟩) (by exact (by omega : w.heap.size < w.heap.size + 2)) _
      · exact ((l5.weak (by omega)).far (p := ⟨w.heap.size, 13, none⟩) (by exact (by omega : w.heap.size < w.heap.size + 2)) _).far (p := ⟨w.heap.size, 14, none⟩) (by exact (by omega : w.heap.size < w.heap.size + 2)) _
      · have := l3.lt
        have := l5.low
        omega
      · exact ((b0.trans (b35.mono b0.size)).setCell (p := ⟨w.heap.size, 13, none⟩) (Nat.le_refl _) _).setCell (p := ⟨w.heap.size, 14, none⟩) (Nat.le_refl _) _
  case rest =>
    clear u13 u14 uf HR HB HH rs rsd b0 a0 hz0 hz1
    obtain ⟨g3, g5, xg, xa, l3, bz⟩ := hcut
    go_wp2_with (first
      | (with_reducible refine wpList_loadB xg (x := .tmp 1) ?_ ?_ ?_ ?_
         · with_reducible rfl
         · rfl
         · rfl)
      | (with_reducible refine wpList_storeA xa (x := .tmp 2) (y := .tmp 11) (p := p) (D := some ⟨g3, 0, none⟩) (E := some ⟨g5, 0, none⟩) (n := L.length) (c := L.length) (m := Bk.length) (d := Bk.length) ?_ ?_ ?_ ?_ ?_
         · with_reducible rfl
         · rfl
         · rfl
         · rfl))
    refine bodyPost_ret (v := gv p (.slice (some ⟨g3, 0, none⟩) L.length L.length) (.slice (some ⟨g5, 0, none⟩) Bk.length Bk.length)) (results_cell_row (P := Try.prog) Try.results26 _ _ (w.heap.size + 1) 35 _ (0, 0) _ rfl (xa.setRow p _ _) Try.underlying35 rfl box_size) rfl ?_
    have e : ∀ b, w.heap.size + 2 ≤ b → b < wc.heap.size → (wc.setRow (w.heap.size + 1) (gcs p (.slice (some ⟨g3, 0, none⟩) L.length L.length) (.slice (some ⟨g5, 0, none⟩) Bk.length Bk.length))).heap[b]? = wc.heap[b]? := fun b hb _ => setRow_other _ _ _ _ (by omega)
    exact ⟨_, _, rfl, (l3.eq (by simp) e).weak (by omega), below_setRow bz (Nat.le_succ _) _⟩
end Go.Proofs.Ytpcpmeihebgncaa
