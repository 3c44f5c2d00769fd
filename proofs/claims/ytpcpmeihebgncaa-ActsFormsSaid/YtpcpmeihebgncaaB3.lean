/-
  Screens whose table of rows is one block of the call's own; what a call leaves that turns one table in place; what ownLines and own of package acts answer, told so. Conditions: rows of at most a thousand cells, at most a thousand of them, at most fifty lines that went.
-/
import Derived.Test.YtpcpmeihebgncaaB2
import Derived.Deep.RegionHeldLaw
import Derived.Deep.MidRow
namespace Go.Proofs.Ytpcpmeihebgncaa
open Go.RowKit
set_option maxRecDepth 100000

/-- Block g is a table of the lines M, and nothing else. -/
def OTab (B : Nat) (w : World) (g : Nat) (M : List (List C)) : Prop := ∃ vs, Held w g 46 vs.toArray ∧ B ≤ g ∧ RowsV B w vs M
theorem OTab.below {B C : Nat} {w w' : World} {g : Nat} {M : List (List Ytpcpmeihebgncaa.C)} (h : OTab B w g M) (hb : Below C w w') (hC : w.heap.size ≤ C) : OTab B w' g M := by
  obtain ⟨vs, h1, h2, h3⟩ := h
  exact ⟨vs, h1.below hb (Nat.lt_of_lt_of_le h1.lt hC), h2, h3.below hb hC⟩
theorem OTab.weak {B A : Nat} {w : World} {g : Nat} {M : List (List C)} (h : OTab B w g M) (hA : A ≤ B) : OTab A w g M := by
  obtain ⟨vs, h1, h2, h3⟩ := h
  exact ⟨vs, h1, Nat.le_trans hA h2, h3.weak hA⟩
theorem OTab.far {B : Nat} {w : World} {g : Nat} {M : List (List C)} (h : OTab B w g M) {p : Addr} (hp : p.block < B) (x : Value) : OTab B (w.setCell p x) g M := by
  obtain ⟨vs, h1, h2, h3⟩ := h
  exact ⟨vs, h1.far (by omega) x, h2, h3.1, fun k a b => (h3.2 k a b).far hp x⟩
theorem OTab.lines {B : Nat} {w : World} {g : Nat} {M : List (List C)} (h : OTab B w g M) : Lines B w (some ⟨g, 0, none⟩) M := by
  obtain ⟨vs, h1, h2, h3⟩ := h
  exact ⟨vs, h1.tab h2, h3⟩
theorem OTab.lt {B : Nat} {w : World} {g : Nat} {M : List (List C)} (h : OTab B w g M) : g < w.heap.size := by
  obtain ⟨vs, h1, _⟩ := h
  exact h1.lt
theorem OTab.low {B : Nat} {w : World} {g : Nat} {M : List (List C)} (h : OTab B w g M) : B ≤ g := by
  obtain ⟨vs, _, h1, _⟩ := h
  exact h1
/-- Tables stay where no block of theirs, and no row's, is turned. -/
theorem OTab.eq {B : Nat} {w w' : World} {g : Nat} {M : List (List C)} (h : OTab B w g M) (hs : w.heap.size ≤ w'.heap.size) (hf : ∀ b, B ≤ b → b < w.heap.size → w'.heap[b]? = w.heap[b]?) : OTab B w' g M := by
  obtain ⟨vs, h1, h2, h3⟩ := h
  refine ⟨vs, (hf g h2 h1.lt).trans h1, h2, h3.1, fun k a b => ?_⟩
  obtain ⟨D', c, e, hc, hr⟩ := h3.2 k a b
  exact ⟨D', c, e, hc, hr.eq hs fun b _ _ hb hl _ => hf b hb hl⟩

/-- All but block g is as it was. -/
structure Chg (g : Nat) (w w' : World) : Prop where
  below : ∀ {B : Nat} {w0 : World}, B ≤ g → Below B w0 w → Below B w0 w'
  block : ∀ b, b < w.heap.size → b ≠ g → w'.heap[b]? = w.heap[b]?
  size : w.heap.size ≤ w'.heap.size
theorem Chg.of {g : Nat} {w w' : World} (h : Below w.heap.size w w') (hg : g < w.heap.size) : Chg g w w' :=
  ⟨fun hB h0 => h0.trans (h.mono (by omega)), fun b hb _ => h.block b hb, h.size⟩
theorem Chg.set {g : Nat} {w w' : World} (h : Chg g w w') (o : Nat) (x : Value) : Chg g w (w'.setCell ⟨g, o, none⟩ x) :=
  ⟨fun hB h0 => (h.below hB h0).setCell (p := ⟨g, o, none⟩) hB _, fun b hb hn => (Below.heap_setCell w' ⟨g, o, none⟩ x b hn).trans (h.block b hb hn), by simpa using h.size⟩
theorem Chg.setRow {g k : Nat} {w w' : World} (h : Chg g w w') (hg : g < w.heap.size) (hk : w.heap.size ≤ k) (cs : Array Value) : Chg g w (w'.setRow k cs) :=
  ⟨fun hB h0 => below_setRow (h.below hB h0) (by omega) _, fun b hb hn => (setRow_other w' k b cs (by omega)).trans (h.block b hb hn), by simpa using h.size⟩
theorem Chg.trans {g : Nat} {w w1 w2 : World} (h : Chg g w w1) (h' : Chg g w1 w2) : Chg g w w2 :=
  ⟨fun hB h0 => h'.below hB (h.below hB h0), fun b hb hn => (h'.block b (Nat.lt_of_lt_of_le hb h.size) hn).trans (h.block b hb hn), Nat.le_trans h.size h'.size⟩
theorem Chg.box {g k : Nat} {w w' : World} (h : Chg g w w') {p : Nm} {r b : Value} (hb : Box w k p r b) (hk : k ≠ g) : Box w' k p r b := (h.block k hb.lt hk).trans hb
theorem Chg.held {g k : Nat} {w w' : World} (h : Chg g w w') {t : TypeId} {cs : Array Value} (hb : Held w k t cs) (hk : k ≠ g) : Held w' k t cs := (h.block k hb.lt hk).trans hb

/-- Lines of the call's own come back, in a table of its own. -/
def OLPost (w : World) (M : List (List C)) (e : Ending) (w' : World) : Prop := ∃ g, e = .returned (.slice (some ⟨g, 0, none⟩) M.length M.length) ∧ OTab w.heap.size w' g M ∧ Below w.heap.size w w'
theorem FillSt.opost {w wr : World} {g : Nat} {M : List (List C)} {vs : List Value} (h : FillSt w g M vs wr) (hg : w.heap.size ≤ g) (hk : vs.length = M.length) : OLPost w M (.returned (.slice (some ⟨g, 0, none⟩) M.length M.length)) wr := by
  refine ⟨g, rfl, ⟨vs, ?_, hg, ?_⟩, h.below⟩
  · have := h.table
    rw [fillV, hk, Nat.sub_self, List.replicate_zero, List.append_nil] at this
    exact this
  · have := h.rows
    rw [hk, List.take_length] at this
    exact this

set_option maxHeartbeats 400000 in
theorem aownO_any (D : Option Addr) (c : Nat) (M : List (List C)) (w : World) (hr : Lines 0 w D M) (hn : M.length ≤ 1050) (hl : ∀ r ∈ M, r.length ≤ 1000) : Calls Try.prog 49 #[.slice D M.length c] w (OLPost w M) := by
  have hm := run_makeL w M.length (by omega)
  have HS := Lib.hid (FillSt.start w M)
  have HR := Lib.hid hr
  clear hr
  go_enter Try.func49, Try.ntmps49
  go_wp2_with fail
  go_loopw [11] (FillRel w w.heap.size M) (fun i _ => M.length - (intOf i).toNat)
  case atStart => exact ⟨[], rfl, HS.out⟩
  case round =>
    obtain ⟨vs, rfl, hst⟩ := hrel
    by_cases hlt : vs.length < M.length
    · have hki : (vs.length : Int) < (M.length : Int) := by omega
      obtain ⟨b, off, E, ce, rfl, _, hbl, _, hcell, hce, hrow⟩ := (HR.out.below hst.below (Nat.le_refl _)).at vs.length hlt
      have hrn : M[vs.length].length ≤ 1000 := hl _ (List.getElem_mem _)
      have HROW := Lib.hid hrow
      clear hrow
      have HCL := Lib.hid (clone_any E ce M[vs.length] wr HROW.out hrn)
      have HST := Lib.hid hst
      have hfl := fillV_cell hst.table hlt
      have hgl := hst.table.lt
      have hfz := hst.table.frozen
      clear hst hrn
      generalize hq : M[vs.length] = q at *
      have HQ := Lib.hid hq
      clear hq
      go_wp2_with (
        go_at_call 95
        refine HCL.out.mono ?_
        rintro e w1 ⟨D1, c1, rfl, hc1, hr1, hb1⟩
        have hfl1 := (fillV_cell (HST.out.table.below hb1 hgl) hlt)
        have hfz1 := (HST.out.table.below hb1 hgl).frozen)
      go_roundw
      case rel =>
        refine ⟨vs ++ [.slice D1 q.length c1], by simp, HST.out.next (Nat.le_refl _) hb1 hlt ⟨D1, c1, ?_, ?_, ?_⟩⟩
        · rw [HQ.out]
        · rw [HQ.out]; exact hc1
        · rw [HQ.out]; exact hr1
      case measure => simp [intOf]; omega
    · have ek : vs.length = M.length := by have := hst.le; omega
      have hki : ¬ (vs.length : Int) < (M.length : Int) := by omega
      have HP := Lib.hid (hst.opost (Nat.le_refl _) ek)
      clear hst ek
      go_wp2_with fail
      go_ret
      exact HP.out

/-- A screen's rows and lines that went: two tables. -/
structure OScr (B : Nat) (w : World) (g h : Nat) (L Bk : List (List C)) : Prop where
  rows : OTab B w g L
  back : OTab B w h Bk
  ne : g ≠ h
theorem OScr.below {B C : Nat} {w w' : World} {g h : Nat} {L Bk : List (List Ytpcpmeihebgncaa.C)} (hs : OScr B w g h L Bk) (hb : Below C w w') (hC : w.heap.size ≤ C) : OScr B w' g h L Bk := ⟨hs.rows.below hb hC, hs.back.below hb hC, hs.ne⟩
theorem OScr.weak {B A : Nat} {w : World} {g h : Nat} {L Bk : List (List C)} (hs : OScr B w g h L Bk) (hA : A ≤ B) : OScr A w g h L Bk := ⟨hs.rows.weak hA, hs.back.weak hA, hs.ne⟩
theorem OScr.eq {B : Nat} {w w' : World} {g h : Nat} {L Bk : List (List C)} (hs : OScr B w g h L Bk) (hz : w.heap.size ≤ w'.heap.size) (hf : ∀ b, B ≤ b → b < w.heap.size → w'.heap[b]? = w.heap[b]?) : OScr B w' g h L Bk := ⟨hs.rows.eq hz hf, hs.back.eq hz hf, hs.ne⟩
theorem OScr.scr {B : Nat} {w : World} {g h : Nat} {L Bk : List (List C)} (hs : OScr B w g h L Bk) : Scr B w (some ⟨g, 0, none⟩) (some ⟨h, 0, none⟩) L.length L.length Bk.length Bk.length L Bk := ⟨hs.rows.lines, hs.back.lines, rfl, rfl, Nat.le_refl _, Nat.le_refl _⟩
/-- A screen as a value whose two tables are blocks of their own. -/
def ov (p : Nm) (g h : Nat) (L Bk : List (List C)) : Value := gv p (.slice (some ⟨g, 0, none⟩) L.length L.length) (.slice (some ⟨h, 0, none⟩) Bk.length Bk.length)
/-- A screen of the call's own comes back. -/
def OwnPost (w : World) (p : Nm) (L Bk : List (List C)) (e : Ending) (w' : World) : Prop := ∃ g h, e = .returned (ov p g h L Bk) ∧ OScr w.heap.size w' g h L Bk ∧ Below w.heap.size w w'
/-- A screen comes back, and of what was there only block k has been turned. -/
def InPost (B k : Nat) (w : World) (p : Nm) (L Bk : List (List C)) (e : Ending) (w' : World) : Prop := ∃ g h, e = .returned (ov p g h L Bk) ∧ OScr B w' g h L Bk ∧ Chg k w w'
def OwnRel2 (w : World) (p : Nm) (L Bk : List (List C)) (wx : World) : Prop := ∃ g h, Box wx w.heap.size p (.slice (some ⟨g, 0, none⟩) L.length L.length) (.slice (some ⟨h, 0, none⟩) Bk.length Bk.length) ∧ Box wx (w.heap.size + 1) zeroNm nilV nilV ∧
  OScr (w.heap.size + 2) wx g h L Bk ∧ Below w.heap.size w wx

set_option maxHeartbeats 4000000 in
theorem aownS_any (p : Nm) (D E : Option Addr) (n c m d : Nat) (L Bk : List (List C)) (w : World) (hs : Scr 0 w D E n c m d L Bk) (hn : n ≤ 1000) (hm : m ≤ 50) (hl : ∀ r ∈ L, r.length ≤ 1000) (hlb : ∀ r ∈ Bk, r.length ≤ 1000) :
    Calls Try.prog 26 #[gv p (.slice D n c) (.slice E m d)] w (OwnPost w p L Bk) := by
  have rs := MS.start w p (.slice D n c) (.slice E m d)
  have HS := Lib.hid rs
  have HH := Lib.hid hs
  clear rs hs
  unfold gv gcs
  go_enter Try.func26, Try.ntmps26
  go_upto_region 1 with fail
  refine wp_world (fun wq => MS w p (.slice D n c) (.slice E m d) wq) HS.out ?_
  clear HS
  intro w2 rs
  have HR : Hid (∀ wx, Below w.heap.size w wx → Calls Try.prog 49 #[.slice D n c] wx (OLPost wx L)) := fun wx hb => by
    have := aownO_any D c L wx (HH.out.rows.below hb (Nat.le_refl _)) (by rw [HH.out.nr]; omega) hl
    rwa [HH.out.nr] at this
  have HB : Hid (∀ wx, Below w.heap.size w wx → Calls Try.prog 49 #[.slice E m d] wx (OLPost wx Bk)) := fun wx hb => by
    have := aownO_any E d Bk wx (HH.out.back.below hb (Nat.le_refl _)) (by rw [HH.out.nb]; omega) hlb
    rwa [HH.out.nb] at this
  have rsd := rs.drew
  have b0 := rsd.below
  have u13 := rsd.box.cells.c13
  have u14 := rsd.box.cells.c14
  have uf := rsd.box.cells.free
  have hz0 : w.heap.size < w2.heap.size := rs.box.lt
  clear hl hlb hn hm
  have a0 := rsd.ans
  have hz1 : w.heap.size + 1 < w2.heap.size := rs.ans.lt
  go_cut [] (OwnRel2 w p L Bk)
  case first =>
    go_region_with (first
      | (go_at_call 49
         with_reducible refine (HR.out _ b0).mono ?_
         rintro e w3 ⟨g3, rfl, l3, b3⟩
         have r3 := rsd.box.below b3 rsd.box.lt
         have y13 := r3.cells.c13
         have y14 := r3.cells.c14
         have yf := r3.cells.free)
      | (go_at_call 49
         with_reducible refine (HB.out _ (b0.trans (b3.mono b0.size))).mono ?_
         rintro e w5 ⟨g5, rfl, l5, b5⟩
         have r5 := r3.below b5 r3.lt
         have z13 := r5.cells.c13
         have z14 := r5.cells.c14
         have zf := r5.cells.free)
      | (go_at_call 49
         with_reducible refine (HB.out _ ((b0.trans (b3.mono b0.size)).setCell (p := ⟨w.heap.size, 13, none⟩) (Nat.le_refl _) _)).mono ?_
         rintro e w5 ⟨g5, rfl, l5, b5⟩
         have r5 := (r3.set_rows (.slice (some ⟨g3, 0, none⟩) L.length L.length)).below b5 (by simpa using r3.lt)
         have z13 := r5.cells.c13
         have z14 := r5.cells.c14
         have zf := r5.cells.free))
    all_goals clear u13 u14 uf y13 y14 yf z13 z14 zf
    all_goals go_wp2_with fail
    all_goals go_meet
    all_goals
      have b35 : Below w2.drew.heap.size w2.drew w5 := b3.trans (b5.mono b3.size)
      have hz2 : w.heap.size + 2 ≤ w2.drew.heap.size := hz1
      have hz3 := b3.size
      refine ⟨g3, g5, (r5.set_rows _).set_back _, ?_, ⟨?_, ?_, ?_⟩, ?_⟩
      · exact ((a0.below b35 (by exact hz1)).far (q := ⟨w.heap.size, 13, none⟩) (by exact (by omega : w.heap.size + 1 ≠ w.heap.size)) _).far (q := ⟨w.heap.size, 14, none⟩) (by exact (by omega : w.heap.size + 1 ≠ w.heap.size)) _
      · exact (((l3.below b5 (Nat.le_refl _)).weak hz2).far (p := ⟨w.heap.size, 13, none⟩) (by exact (by omega : w.heap.size < w.heap.size + 2)) _).far (p := ⟨w.heap.size, 14, none⟩) (by exact (by omega : w.heap.size < w.heap.size + 2)) _
      · exact ((l5.weak (by omega)).far (p := ⟨w.heap.size, 13, none⟩) (by exact (by omega : w.heap.size < w.heap.size + 2)) _).far (p := ⟨w.heap.size, 14, none⟩) (by exact (by omega : w.heap.size < w.heap.size + 2)) _
      · have := l3.lt
        have := l5.low
        omega
      · exact ((b0.trans (b35.mono b0.size)).setCell (p := ⟨w.heap.size, 13, none⟩) (Nat.le_refl _) _).setCell (p := ⟨w.heap.size, 14, none⟩) (Nat.le_refl _) _
  case rest =>
    clear u13 u14 uf HR HB HH rs rsd b0 a0 hz0 hz1
    obtain ⟨g3, g5, xg, xa, l3, bz⟩ := hcut
    go_wp2_with (first
      | (with_reducible refine wpList_loadB xg (x := .tmp 1) ?_ ?_ ?_ ?_
         · with_reducible rfl
         · rfl
         · rfl)
      | (with_reducible refine wpList_storeA xa (x := .tmp 2) (y := .tmp 11) (p := p) (D := some ⟨g3, 0, none⟩) (E := some ⟨g5, 0, none⟩) (n := L.length) (c := L.length) (m := Bk.length) (d := Bk.length) ?_ ?_ ?_ ?_ ?_
         · with_reducible rfl
         · rfl
         · rfl
         · rfl))
    refine bodyPost_ret (v := gv p (.slice (some ⟨g3, 0, none⟩) L.length L.length) (.slice (some ⟨g5, 0, none⟩) Bk.length Bk.length)) (results_cell_row (P := Try.prog) Try.results26 _ _ (w.heap.size + 1) 35 _ (0, 0) _ rfl (xa.setRow p _ _) Try.underlying35 rfl box_size) rfl ?_
    have e : ∀ b, w.heap.size + 2 ≤ b → b < wc.heap.size → (wc.setRow (w.heap.size + 1) (gcs p (.slice (some ⟨g3, 0, none⟩) L.length L.length) (.slice (some ⟨g5, 0, none⟩) Bk.length Bk.length))).heap[b]? = wc.heap[b]? := fun b hb _ => setRow_other _ _ _ _ (by omega)
    exact ⟨_, _, rfl, (l3.eq (by simp) e).weak (by omega), below_setRow bz (Nat.le_succ _) _⟩
end Go.Proofs.Ytpcpmeihebgncaa

/-
  What changed of package acts answers: the cursor's row is what the function that is handed in makes of it, in its place. Conditions: the cursor's row is there, the table of rows is one block.
-/
namespace Go.Proofs.Ytpcpmeihebgncaa
open Go.RowKit
set_option maxRecDepth 100000

/-- Row y of table g is another one. -/
def ChgPost (w : World) (v : Value) (g y : Nat) (vs : List Value) (l : List C) (e : Ending) (w' : World) : Prop :=
  e = .returned v ∧ ∃ D c, l.length ≤ c ∧ Held w' g 46 (vs.set y (.slice D l.length c)).toArray ∧ RowAt w.heap.size w' D l ∧ Chg g w w'

set_option maxHeartbeats 4000000 in
theorem changed_any (F : Nat) (c1 c2 : Value) (p : Nm) (g : Nat) (E : Option Addr) (m d : Nat) (vs : List Value) (y : Nat) (D0 : Option Addr) (n0 k0 : Nat) (l : List C) (w : World)
    (ht : Held w g 46 vs.toArray) (hp : p.y = y) (hy : y < vs.length) (hv : vs[y]? = some (.slice D0 n0 k0))
    (hE : ∀ args w, (callFunc F args).run Try.prog w = .ok (.enter F args) w)
    (hF : ∀ wx, Below w.heap.size w wx → Calls Try.prog F #[.slice D0 n0 k0, c1, c2] wx (VPost wx l)) :
    Calls Try.prog 51 #[gv p (.slice (some ⟨g, 0, none⟩) vs.length vs.length) (.slice E m d), .func (.func F) #[] #[c1, c2]] w (ChgPost w (gv p (.slice (some ⟨g, 0, none⟩) vs.length vs.length) (.slice E m d)) g y vs l) := by
  have rs := MS.start w p (.slice (some ⟨g, 0, none⟩) vs.length vs.length) (.slice E m d)
  have HS := Lib.hid rs
  have HF := Lib.hid hF
  have HT := Lib.hid ht
  have HP := Lib.hid hp
  have hgl := ht.lt
  clear rs hF ht hp
  unfold gv gcs
  go_enter Try.func51, Try.ntmps51
  go_upto_region 1 with fail
  refine wp_world (fun wq => MS w p (.slice (some ⟨g, 0, none⟩) vs.length vs.length) (.slice E m d) wq) HS.out ?_
  clear HS
  intro w2 rs
  have hT2 := HT.out.below rs.below hgl
  have t0 := hT2.cell y
  rw [List.getElem?_toArray, hv] at t0
  have u3 := rs.box.cells.c3
  have u13 := rs.box.cells.c13
  rw [HP.out] at u3
  have hyi : (y : Int) < (vs.length : Int) := by omega
  have hz0 : w.heap.size < w2.heap.size := rs.box.lt
  have hgz : g < w2.heap.size := by omega
  go_upto_region 2 with fail
  have rsd := rs.drew
  have v3 := rsd.box.cells.c3
  have v13 := rsd.box.cells.c13
  rw [HP.out] at v3
  have hTd : Held w2.drew g 46 vs.toArray := hT2
  have t1 := hTd.cell y
  rw [List.getElem?_toArray, hv] at t1
  have HV := Lib.hid hv
  clear hv u3 u13 t0
  have HR := Lib.hid rsd
  have HTd := Lib.hid hTd
  clear rs rsd hT2 hTd
  go_cut [] (fun wx => ∃ D c, Box wx w.heap.size p (.slice (some ⟨g, 0, none⟩) vs.length vs.length) (.slice E m d) ∧ Box wx (w.heap.size + 1) zeroNm nilV nilV ∧ l.length ≤ c ∧ Held wx g 46 (vs.set y (.slice D l.length c)).toArray ∧ RowAt (w.heap.size + 2) wx D l ∧ Chg g w wx)
  case first =>
    refine wp_region_held_drew (S := fun w' => w'.cell? ⟨w.heap.size, 3, none⟩ = some (.int .i64 y) ∧ w'.cell? ⟨w.heap.size, 13, none⟩ = some (.slice (some ⟨g, 0, none⟩) vs.length vs.length)) (by kernel_rfl) (by exact ⟨v3, v13⟩) (fun hH0 => ?_)
    refine wpAnyH_take (i := 0) (oi := _) (v := .pointer (some ⟨w.heap.size, 13, none⟩)) rfl (by kernel_rfl) (by kernel_rfl) (by kernel_rfl) (fun _ _ _ h => h) (Or.inl ⟨by rfl, ?_⟩) hH0 ?_
    · intro wv hSw
      try dsimp only at hSw
      go_simp
    change wpAnyH _ _ _ _ _ _ _ (Act.put _ (some 16) (.pointer (some ⟨w.heap.size, 13, none⟩))) _
    simp only [Act.put, List.setIfInBounds_toArray, List.set_cons_zero, List.set_cons_succ]
    refine wpAnyH_take (i := 1) (oi := _) (v := .slice (some ⟨g, 0, none⟩) vs.length vs.length) rfl (by kernel_rfl) (by kernel_rfl) (by kernel_rfl) (fun _ _ _ h => h) (Or.inl ⟨by rfl, ?_⟩) hH0 ?_
    · intro wv hSw
      try dsimp only at hSw
      go_simp
    change wpAnyH _ _ _ _ _ _ _ (Act.put _ (some 17) (.slice (some ⟨g, 0, none⟩) vs.length vs.length)) _
    simp only [Act.put, List.setIfInBounds_toArray, List.set_cons_zero, List.set_cons_succ]
    refine wpAnyH_take (i := 2) (oi := _) (v := .pointer (some ⟨w.heap.size, 3, none⟩)) rfl (by kernel_rfl) (by kernel_rfl) (by kernel_rfl) (fun _ _ _ h => h) (Or.inl ⟨by rfl, ?_⟩) hH0 ?_
    · intro wv hSw
      try dsimp only at hSw
      go_simp
    change wpAnyH _ _ _ _ _ _ _ (Act.put _ (some 18) (.pointer (some ⟨w.heap.size, 3, none⟩))) _
    simp only [Act.put, List.setIfInBounds_toArray, List.set_cons_zero, List.set_cons_succ]
    refine wpAnyH_take (i := 3) (oi := _) (v := .int .i64 y) rfl (by kernel_rfl) (by kernel_rfl) (by kernel_rfl) (fun _ _ _ h => h) (Or.inl ⟨by rfl, ?_⟩) hH0 ?_
    · intro wv hSw
      try dsimp only at hSw
      go_simp
    change wpAnyH _ _ _ _ _ _ _ (Act.put _ (some 19) (.int .i64 y)) _
    simp only [Act.put, List.setIfInBounds_toArray, List.set_cons_zero, List.set_cons_succ]
    refine wpAnyH_take (i := 4) (oi := _) (v := .func (.func F) #[] #[c1, c2]) rfl (by kernel_rfl) (by kernel_rfl) (by kernel_rfl) (fun _ _ _ h => h) (Or.inl ⟨by rfl, ?_⟩) hH0 ?_
    · intro wv hSw
      try dsimp only at hSw
      go_simp
    change wpAnyH _ _ _ _ _ _ _ (Act.put _ (some 20) (.func (.func F) #[] #[c1, c2])) _
    simp only [Act.put, List.setIfInBounds_toArray, List.set_cons_zero, List.set_cons_succ]
    refine wpAnyH_take (i := 5) (oi := _) (v := .pointer (some ⟨w.heap.size, 13, none⟩)) rfl (by kernel_rfl) (by kernel_rfl) (by kernel_rfl) (fun _ _ _ h => h) (Or.inl ⟨by rfl, ?_⟩) hH0 ?_
    · intro wv hSw
      try dsimp only at hSw
      go_simp
    change wpAnyH _ _ _ _ _ _ _ (Act.put _ (some 21) (.pointer (some ⟨w.heap.size, 13, none⟩))) _
    simp only [Act.put, List.setIfInBounds_toArray, List.set_cons_zero, List.set_cons_succ]
    refine wpAnyH_take (i := 6) (oi := _) (v := .slice (some ⟨g, 0, none⟩) vs.length vs.length) rfl (by kernel_rfl) (by kernel_rfl) (by kernel_rfl) (fun _ _ _ h => h) (Or.inl ⟨by rfl, ?_⟩) hH0 ?_
    · intro wv hSw
      try dsimp only at hSw
      go_simp
    change wpAnyH _ _ _ _ _ _ _ (Act.put _ (some 22) (.slice (some ⟨g, 0, none⟩) vs.length vs.length)) _
    simp only [Act.put, List.setIfInBounds_toArray, List.set_cons_zero, List.set_cons_succ]
    refine wpAnyH_take (i := 7) (oi := _) (v := .pointer (some ⟨w.heap.size, 3, none⟩)) rfl (by kernel_rfl) (by kernel_rfl) (by kernel_rfl) (fun _ _ _ h => h) (Or.inl ⟨by rfl, ?_⟩) hH0 ?_
    · intro wv hSw
      try dsimp only at hSw
      go_simp
    change wpAnyH _ _ _ _ _ _ _ (Act.put _ (some 23) (.pointer (some ⟨w.heap.size, 3, none⟩))) _
    simp only [Act.put, List.setIfInBounds_toArray, List.set_cons_zero, List.set_cons_succ]
    refine wpAnyH_take (i := 8) (oi := _) (v := .int .i64 y) rfl (by kernel_rfl) (by kernel_rfl) (by kernel_rfl) (fun _ _ _ h => h) (Or.inl ⟨by rfl, ?_⟩) hH0 ?_
    · intro wv hSw
      try dsimp only at hSw
      go_simp
    change wpAnyH _ _ _ _ _ _ _ (Act.put _ (some 24) (.int .i64 y)) _
    simp only [Act.put, List.setIfInBounds_toArray, List.set_cons_zero, List.set_cons_succ]
    refine wpAnyH_take (i := 9) (oi := _) (v := .pointer (some ⟨g, y, none⟩)) rfl (by kernel_rfl) (by kernel_rfl) (by kernel_rfl) (fun _ _ _ h => h) (Or.inl ⟨by rfl, ?_⟩) hH0 ?_
    · intro wv hSw
      try dsimp only at hSw
      go_simp
    change wpAnyH _ _ _ _ _ _ _ (Act.put _ (some 25) (.pointer (some ⟨g, y, none⟩))) _
    simp only [Act.put, List.setIfInBounds_toArray, List.set_cons_zero, List.set_cons_succ]
    refine wpAnyH_ready (rs := [10]) (by kernel_rfl) (by simp) ?_
    refine AllReadyH.cons (o := _) rfl (fun K hK => ?_) AllReadyH.nil
    go_simp
    refine hK.out _ _ (by exact ⟨v3, v13⟩) (fun hH1 => ?_)
    clear hK K
    try simp only [Act.put, List.setIfInBounds_toArray, List.set_cons_zero, List.set_cons_succ]
    refine wpAnyH_ready (rs := [11]) (by kernel_rfl) (by simp) ?_
    refine AllReadyH.cons (o := _) rfl (fun K hK => ?_) AllReadyH.nil
    go_simp
    refine (HF.out _ HR.out.below).mono ?_
    rintro e w3 ⟨D3, c3, rfl, hc3, r3, b3⟩
    have x3 := (HR.out.box.below b3 HR.out.box.lt)
    have z3 := x3.cells.c3
    have z13 := x3.cells.c13
    rw [HP.out] at z3
    have t3 := HTd.out.below b3 hgz
    have q3 := t3.cell y
    rw [List.getElem?_toArray, HV.out] at q3
    have f3 := t3.frozen
    go_wp2_with fail
    refine hK.out _ _ (by exact ⟨z3, z13⟩) (fun hH2 => ?_)
    clear hK K
    try simp only [Act.put, List.setIfInBounds_toArray, List.set_cons_zero, List.set_cons_succ]
    refine wpAnyH_take (i := 12) (oi := _) (v := .pointer (some ⟨g, y, none⟩)) rfl (by kernel_rfl) (by kernel_rfl) (by kernel_rfl) (fun _ _ _ h => h) (Or.inl ⟨by rfl, ?_⟩) hH2 ?_
    · intro wv hSw
      try dsimp only at hSw
      go_simp
    change wpAnyH _ _ _ _ _ _ _ (Act.put _ (some 28) (.pointer (some ⟨g, y, none⟩))) _
    simp only [Act.put, List.setIfInBounds_toArray, List.set_cons_zero, List.set_cons_succ]
    refine wpAnyH_ready (rs := [13]) (by kernel_rfl) (by simp) ?_
    refine AllReadyH.cons (o := _) rfl (fun K hK => ?_) AllReadyH.nil
    go_simp
    refine hK.out _ _ (by exact ⟨(cell_far (by exact (by omega : w.heap.size ≠ g)) _).trans z3, (cell_far (by exact (by omega : w.heap.size ≠ g)) _).trans z13⟩) (fun hH3 => ?_)
    clear hK K
    try simp only [Act.put, List.setIfInBounds_toArray, List.set_cons_zero, List.set_cons_succ]
    refine wpAnyH_done (by kernel_rfl) ?_ _
    clear hH0 hH1 hH2 hH3
    clear v3 v13 t1 z3 z13 q3 f3
    all_goals go_wp2_with fail
    all_goals go_meet
    all_goals
      have hset := t3.set1 y (.slice D3 l.length c3)
      rw [List.setIfInBounds_toArray] at hset
      refine ⟨D3, c3, x3.far (q := ⟨g, y, none⟩) (by exact (by omega : w.heap.size ≠ g)) _, (HR.out.ans.below b3 HR.out.ans.lt).far (q := ⟨g, y, none⟩) (by exact (by omega : w.heap.size + 1 ≠ g)) _, hc3, hset, ?_, ?_⟩
      · refine RowAt.far (r3.weak HR.out.ans.lt) (p := ⟨g, y, none⟩) (by exact (by omega : g < w.heap.size + 2)) _
      · exact (Chg.of (HR.out.below.trans (b3.mono HR.out.below.size)) hgl).set y _
  case rest =>
    clear v3 v13 t1 HV HP HR HTd HF HT hE
    obtain ⟨D3, c3, xg, xa, hc3, t3, r3, ch⟩ := hcut
    go_wp2_with (first
      | (with_reducible refine wpList_loadB xg (x := .tmp 2) ?_ ?_ ?_ ?_
         · with_reducible rfl
         · rfl
         · rfl)
      | (with_reducible refine wpList_storeA xa (x := .tmp 4) (y := .tmp 29) (p := p) (D := some ⟨g, 0, none⟩) (E := E) (n := vs.length) (c := vs.length) (m := m) (d := d) ?_ ?_ ?_ ?_ ?_
         · with_reducible rfl
         · rfl
         · rfl
         · rfl))
    refine bodyPost_ret (v := gv p (.slice (some ⟨g, 0, none⟩) vs.length vs.length) (.slice E m d)) (results_cell_row (P := Try.prog) Try.results51 _ _ (w.heap.size + 1) 35 _ (0, 0) _ rfl (xa.setRow p _ _) Try.underlying35 rfl box_size) rfl ?_
    refine ⟨rfl, D3, c3, hc3, ?_, ?_, ch.setRow hgl (Nat.le_succ _) _⟩
    · exact (setRow_other _ _ _ _ (by omega)).trans t3
    · exact (r3.eq (by simp) fun b _ _ hb _ _ => setRow_other _ _ _ _ (by omega)).weak (by omega)
end Go.Proofs.Ytpcpmeihebgncaa

/-
  What changed of package acts answers, told of a screen: its cursor's row is another one, in its place, all else as it was. What line answers ahead of the last row of the region, and what the function answers that printed hands to it. Conditions: rows of at most a thousand cells, the cursor's row is there.
-/
namespace Go.Proofs.Ytpcpmeihebgncaa
open Go.RowKit
set_option maxRecDepth 100000

theorem tab_no_int {B : Nat} {w : World} {g : Nat} {vs : List Value} {L : List (List C)} (h : Held w g 46 vs.toArray) (hr : RowsV B w vs L) {o : Nat} {k : IntKind} {x : Int} (hc : w.cell? ⟨g, o, none⟩ = some (.int k x)) : False := by
  rw [h.cell, List.getElem?_toArray] at hc
  obtain ⟨ho, e⟩ := List.getElem?_eq_some_iff.1 hc
  obtain ⟨D, c, e', _⟩ := hr.2 o ho (by rw [← hr.1]; exact ho)
  rw [e'] at e
  cases e
theorem RowsV.chg {B : Nat} {w w' : World} {g : Nat} {vs us : List Value} {L M : List (List C)} (h : Held w g 46 vs.toArray) (hr : RowsV B w vs L) (ch : Chg g w w') (hu : RowsV B w us M) : RowsV B w' us M := by
  refine ⟨hu.1, fun k a b => ?_⟩
  obtain ⟨D, c, e, hc, hrow⟩ := hu.2 k a b
  exact ⟨D, c, e, hc, hrow.eq ch.size fun b o x _ hl hx => ch.block b hl (by rintro rfl; exact tab_no_int h hr hx)⟩
/-- Row y is another one. -/
theorem OScr.turn {B : Nat} {w w' : World} {g h : Nat} {L Bk : List (List C)} (hs : OScr B w g h L Bk) {vs : List Value} (hv : Held w g 46 vs.toArray) (hr : RowsV B w vs L) (ch : Chg g w w') {y : Nat} {l : List C} {D : Option Addr} {c : Nat}
    (t : Held w' g 46 (vs.set y (.slice D l.length c)).toArray) (hc : l.length ≤ c) (r : RowAt w.heap.size w' D l) : OScr B w' g h (L.set y l) Bk := by
  have hB : B ≤ w.heap.size := by have := hs.rows.low; have := hs.rows.lt; omega
  refine ⟨⟨_, t, hs.rows.low, ?_⟩, ?_, hs.ne⟩
  · have h1 := RowsV.chg hv hr ch hr
    refine ⟨by simp [hr.1], fun k a b => ?_⟩
    rw [List.getElem_set, List.getElem_set]
    by_cases e : y = k
    · rw [if_pos e, if_pos e]
      exact ⟨D, c, rfl, hc, r.weak hB⟩
    · rw [if_neg e, if_neg e]
      exact h1.2 k _ _
  · obtain ⟨us, h1, h2, h3⟩ := hs.back
    exact ⟨us, ch.held h1 (Ne.symm hs.ne), h2, RowsV.chg hv hr ch h3⟩

/-- The screen's tables stay where they are; of what was there only table g has been turned. -/
def TurnPost (B g h : Nat) (w : World) (p : Nm) (L Bk : List (List C)) (e : Ending) (w' : World) : Prop := e = .returned (ov p g h L Bk) ∧ OScr B w' g h L Bk ∧ Chg g w w'

theorem changedO_any (F : Nat) (c1 c2 : Value) (p : Nm) (g h : Nat) (L Bk : List (List C)) (y : Nat) (l : List C) (B : Nat) (w : World) (hs : OScr B w g h L Bk) (hp : p.y = y) (hy : y < L.length)
    (hE : ∀ args w, (callFunc F args).run Try.prog w = .ok (.enter F args) w)
    (hF : ∀ wx D c, Below w.heap.size w wx → RowAt 0 wx D L[y] → Calls Try.prog F #[.slice D L[y].length c, c1, c2] wx (VPost wx l)) :
    Calls Try.prog 51 #[ov p g h L Bk, .func (.func F) #[] #[c1, c2]] w (TurnPost B g h w p (L.set y l) Bk) := by
  obtain ⟨vs, hv, hg, hr⟩ := hs.rows
  have hvy : y < vs.length := by rw [hr.1]; exact hy
  obtain ⟨D, c, e, hc, hrow⟩ := hr.2 y hvy hy
  have := changed_any F c1 c2 p g (some ⟨h, 0, none⟩) Bk.length Bk.length vs y D L[y].length c l w hv hp hvy (by rw [List.getElem?_eq_getElem hvy, e]) hE (fun wx hb => hF wx D c hb ((hrow.weak (Nat.zero_le _)).below hb (Nat.le_refl _)))
  rw [hr.1] at this
  refine this.mono ?_
  rintro e w' ⟨rfl, D1, c1, h1, h2, h3, h4⟩
  refine ⟨?_, hs.turn hv hr h4 h2 h1 h3, h4⟩
  unfold ov
  rw [List.length_set]

/-! ### printed's own function -/
set_option maxHeartbeats 400000 in
theorem printF_any (D : Option Addr) (c : Nat) (l : List C) (k kr : Nat) (p : Nm) (rr bb : Value) (r : Int) (w : World) (hb : Box w k p rr bb) (hr : w.cell? ⟨kr, 0, none⟩ = some (.int .i32 r)) (hrow : RowAt 0 w D l) (hn : l.length ≤ 1000) :
    Calls Try.prog 52 #[.slice D l.length c, .pointer (some ⟨k, 0, none⟩), .pointer (some ⟨kr, 0, none⟩)] w (VPost w (putF l p.x ⟨r, p.a⟩)) := by
  have HP := Lib.hid (put_any D c l p.x ⟨r, p.a⟩ w hrow.read hn)
  have u2 := hb.cells.c2
  have u5 := hb.cells.c5
  clear hrow
  go_enter Try.func52, Try.ntmps52
  go_wp2_with (
    go_at_call 53
    refine HP.out.mono ?_
    rintro e w1 hp
    obtain ⟨D1, c1, rfl, hc1, hr1, hb1⟩ := hp.v)
  go_ret
  exact ⟨D1, c1, rfl, hc1, hr1, hb1⟩
theorem enters {f : FuncId} {fn : Func} {c : Code} (hf : Try.prog.funcs[f]? = some fn) (hname : (fn.name == "runtime.NumGoroutine") = false) (hb : fn.body = some c) (args : Array Value) (w : World) : (callFunc f args).run Try.prog w = .ok (.enter f args) w := by
  have h1 : fn.name ≠ "runtime.NumGoroutine" := by simpa using hname
  simp [callFunc, hf, h1, hb, mark]
theorem enter43 : ∀ args w, (callFunc 52 args).run Try.prog w = .ok (.enter 52 args) w := enters Try.func52 (by kernel_rfl) rfl

/-! ### line -/
/-- The screen behind a line feed, ahead of the region's last row. -/
def lineNm (p : Nm) : Nm := { p with y := if p.y < p.h - 1 then p.y + 1 else p.y }
set_option maxHeartbeats 4000000 in
theorem line_any (p : Nm) (D E : Option Addr) (n c m d : Nat) (w : World) (h0 : 1 ≤ p.h) (h1 : p.h ≤ 1000) (y0 : 0 ≤ p.y) (hy : ¬ p.y = p.bottom) :
    Calls Try.prog 50 #[gv p (.slice D n c) (.slice E m d)] w (ValPost (gv (lineNm p) (.slice D n c) (.slice E m d)) w) := by
  have HS := Lib.hid (MS.start w p (.slice D n c) (.slice E m d))
  have s1 : IntKind.i64.wrap (p.h - 1) = p.h - 1 := IntWalk.i64_in _ (by omega)
  obtain ⟨q, hq⟩ : ∃ q, q = lineNm p := ⟨_, rfl⟩
  rw [← hq]
  have HQ := Lib.hid hq
  clear hq
  unfold gv gcs
  go_enter Try.func50, Try.ntmps50
  go_upto_region 1 with fail
  refine wp_world (fun wq => MS w p (.slice D n c) (.slice E m d) wq) HS.out ?_
  clear HS
  intro w2 rs
  have hz1 := rs.box.lt
  have hz2 := rs.ans.lt
  obtain ⟨pw, ph, px, py, pwr, pa, pt, pb, psx, psy, psa, pn, phd⟩ := p
  dsimp only at s1 h0 h1 hy y0
  have u1 := rs.box.cells.c1
  have u3 := rs.box.cells.c3
  have u7 := rs.box.cells.c7
  have uf := rs.box.cells.free
  dsimp only at u1 u3 u7
  by_cases hl : py < ph - 1
  · have s2 : IntKind.i64.wrap (py + 1) = py + 1 := IntWalk.i64_in _ (by omega)
    have e : lineNm ⟨pw, ph, px, py, pwr, pa, pt, pb, psx, psy, psa, pn, phd⟩ = ⟨pw, ph, px, py + 1, pwr, pa, pt, pb, psx, psy, psa, pn, phd⟩ := by simp [lineNm, hl]
    have hq := HQ.out
    rw [e] at hq
    subst hq
    clear e
    go_upto_region 5 with fail
    have rs3 := rs.far (rs.box.set_y (py + 1))
    dsimp only at rs3
    generalize hw3 : w2.setCell ⟨w.heap.size, 3, none⟩ (.int .i64 (py + 1)) = w3 at *
    clear hw3 u1 u3 u7 uf rs
    have xg := rs3.box
    have xa := rs3.ans
    go_wp2_with (first
      | (with_reducible refine wpList_loadB xg (x := .tmp 1) ?_ ?_ ?_ ?_
         · with_reducible rfl
         · rfl
         · rfl)
      | (with_reducible refine wpList_storeA xa (x := .tmp 2) (y := .tmp 24) (p := ⟨pw, ph, px, py + 1, pwr, pa, pt, pb, psx, psy, psa, pn, phd⟩) (D := D) (E := E) (n := n) (c := c) (m := m) (d := d) ?_ ?_ ?_ ?_ ?_
         · with_reducible rfl
         · rfl
         · rfl
         · rfl))
    refine bodyPost_ret (v := gv ⟨pw, ph, px, py + 1, pwr, pa, pt, pb, psx, psy, psa, pn, phd⟩ (.slice D n c) (.slice E m d)) (results_cell_row (P := Try.prog) Try.results50 _ _ (w.heap.size + 1) 35 _ (0, 0) _ rfl (xa.setRow _ _ _) Try.underlying35 rfl box_size) rfl ?_
    exact ⟨rfl, below_setRow rs3.below (Nat.le_succ _) _⟩
  · have e : lineNm ⟨pw, ph, px, py, pwr, pa, pt, pb, psx, psy, psa, pn, phd⟩ = ⟨pw, ph, px, py, pwr, pa, pt, pb, psx, psy, psa, pn, phd⟩ := by simp [lineNm, hl]
    have hq := HQ.out
    rw [e] at hq
    subst hq
    clear e
    have xg := rs.box
    have xa := rs.ans
    go_wp2_with (first
      | (with_reducible refine wpList_loadB xg (x := .tmp 1) ?_ ?_ ?_ ?_
         · with_reducible rfl
         · rfl
         · rfl)
      | (with_reducible refine wpList_storeA xa (x := .tmp 2) (y := .tmp 24) (p := ⟨pw, ph, px, py, pwr, pa, pt, pb, psx, psy, psa, pn, phd⟩) (D := D) (E := E) (n := n) (c := c) (m := m) (d := d) ?_ ?_ ?_ ?_ ?_
         · with_reducible rfl
         · rfl
         · rfl
         · rfl))
    refine bodyPost_ret (v := gv ⟨pw, ph, px, py, pwr, pa, pt, pb, psx, psy, psa, pn, phd⟩ (.slice D n c) (.slice E m d)) (results_cell_row (P := Try.prog) Try.results50 _ _ (w.heap.size + 1) 35 _ (0, 0) _ rfl (xa.setRow _ _ _) Try.underlying35 rfl box_size) rfl ?_
    exact ⟨rfl, below_setRow rs.below (Nat.le_succ _) _⟩
end Go.Proofs.Ytpcpmeihebgncaa

/-
  What printed of package acts answers: the sign stands in the cursor's cell, the cursor has gone on, or a wrap waits; behind a wrap that waited, on the next line. Conditions: the screen's sides lie between 1 and 1,000, the cursor is on it, the cursor's row is there and has at most a thousand cells.
-/
namespace Go.Proofs.Ytpcpmeihebgncaa
open Go.RowKit
set_option maxRecDepth 100000

/-- The box that is turned, a number's box, the answer's box. -/
structure PS (w : World) (t : TypeId) (v : Value) (p : Nm) (r b : Value) (wx : World) : Prop where
  box : Box wx w.heap.size p r b
  cell : Held wx (w.heap.size + 1) t #[v]
  ans : Box wx (w.heap.size + 2) zeroNm nilV nilV
theorem PS.start (w : World) (t : TypeId) (v : Value) (p : Nm) (r b : Value) : PS w t v p r b (((w.alloc (.cells (gcs p r b) 35)).alloc (.cells #[v] t)).alloc (.cells (gcs zeroNm nilV nilV) 35)) :=
  ⟨((Box.new w p r b).alloc _).alloc _, by have := (Held.new (w.alloc (.cells (gcs p r b) 35)) t #[v]).alloc (.cells (gcs zeroNm nilV nilV) 35); simpa using this, by have := Box.new ((w.alloc (.cells (gcs p r b) 35)).alloc (.cells #[v] t)) zeroNm nilV nilV; simpa using this⟩
theorem start_below (w : World) (o1 o2 o3 : Obj) : Below w.heap.size w (((w.alloc o1).alloc o2).alloc o3) := (((Below.refl _ _).alloc (Nat.le_refl _) _).alloc (by simp) _).alloc (by simp; omega) _
theorem PS.below {w : World} {t : TypeId} {v : Value} {p : Nm} {r b : Value} {wx wy : World} (h : PS w t v p r b wx) (hb : Below wx.heap.size wx wy) : PS w t v p r b wy := ⟨h.box.below hb h.box.lt, h.cell.below hb h.cell.lt, h.ans.below hb h.ans.lt⟩
theorem PS.chg {w : World} {t : TypeId} {v : Value} {p : Nm} {r b : Value} {wx wy : World} (h : PS w t v p r b wx) {g : Nat} (hc : Chg g wx wy) (hg : g < w.heap.size ∨ w.heap.size + 3 ≤ g) : PS w t v p r b wy := ⟨hc.box h.box (by omega), hc.held h.cell (by omega), hc.box h.ans (by omega)⟩
theorem PS.set {w : World} {t : TypeId} {v : Value} {p p' : Nm} {r b r' b' : Value} {wx : World} (h : PS w t v p r b wx) {o : Nat} {x : Value} (hb : Box (wx.setCell ⟨w.heap.size, o, none⟩ x) w.heap.size p' r' b') : PS w t v p' r' b' (wx.setCell ⟨w.heap.size, o, none⟩ x) :=
  ⟨hb, h.cell.far (p := ⟨w.heap.size, o, none⟩) (by exact (by omega : w.heap.size + 1 ≠ w.heap.size)) _, h.ans.far (q := ⟨w.heap.size, o, none⟩) (by exact (by omega : w.heap.size + 2 ≠ w.heap.size)) _⟩
theorem PS.put {w : World} {t : TypeId} {v : Value} {p : Nm} {r b : Value} {wx : World} (h : PS w t v p r b wx) (p' : Nm) (r' b' : Value) : PS w t v p' r' b' (wx.setRow w.heap.size (gcs p' r' b')) :=
  ⟨h.box.setRow _ _ _, (setRow_other _ _ _ _ (by omega)).trans h.cell, (setRow_other _ _ _ _ (by omega)).trans h.ans⟩
theorem OTab.box {B : Nat} {w w' : World} {g k : Nat} {L : List (List C)} (hs : OTab B w g L) {p : Nm} {D E : Option Addr} {n c m d : Nat} (hb : Box w k p (.slice D n c) (.slice E m d)) (hz : w.heap.size ≤ w'.heap.size) (hf : ∀ b, b < w.heap.size → b ≠ k → w'.heap[b]? = w.heap[b]?) : OTab B w' g L := by
  obtain ⟨vs, h1, h2, h3⟩ := hs
  refine ⟨vs, (hf g h1.lt (Held.ne h1 hb (by decide))).trans h1, h2, h3.1, fun k a b => ?_⟩
  obtain ⟨D', c, e, hc, hr⟩ := h3.2 k a b
  exact ⟨D', c, e, hc, hr.eq hz fun b _ _ _ hl hx => hf b hl (hb.no_rune hx)⟩
/-- A screen's tables stay where a screen's variable is turned. -/
theorem OScr.box {B : Nat} {w w' : World} {g h k : Nat} {L Bk : List (List C)} (hs : OScr B w g h L Bk) {p : Nm} {D E : Option Addr} {n c m d : Nat} (hb : Box w k p (.slice D n c) (.slice E m d)) (hz : w.heap.size ≤ w'.heap.size) (hf : ∀ b, b < w.heap.size → b ≠ k → w'.heap[b]? = w.heap[b]?) : OScr B w' g h L Bk := ⟨hs.rows.box hb hz hf, hs.back.box hb hz hf, hs.ne⟩
theorem OScr.bset {B : Nat} {w : World} {g h k : Nat} {L Bk : List (List C)} (hs : OScr B w g h L Bk) {p : Nm} {D E : Option Addr} {n c m d : Nat} (hb : Box w k p (.slice D n c) (.slice E m d)) (o : Nat) (x : Value) : OScr B (w.setCell ⟨k, o, none⟩ x) g h L Bk := hs.box hb (by simp) fun b _ hn => Below.heap_setCell w ⟨k, o, none⟩ x b hn
theorem OScr.bput {B : Nat} {w : World} {g h k : Nat} {L Bk : List (List C)} (hs : OScr B w g h L Bk) {p : Nm} {D E : Option Addr} {n c m d : Nat} (hb : Box w k p (.slice D n c) (.slice E m d)) (cs : Array Value) : OScr B (w.setRow k cs) g h L Bk := hs.box hb (by simp) fun b _ hn => setRow_other w k b cs hn
theorem Chg.bset {g k : Nat} {w w' : World} (h : Chg g w w') (hg : g < w.heap.size) (hk : w.heap.size ≤ k) (o : Nat) (x : Value) : Chg g w (w'.setCell ⟨k, o, none⟩ x) :=
  ⟨fun hB h0 => (h.below hB h0).setCell (p := ⟨k, o, none⟩) (Nat.le_trans hB (Nat.le_trans (Nat.le_of_lt hg) hk)) _, fun b hb hn => (Below.heap_setCell w' ⟨k, o, none⟩ x b (by exact (by omega : b ≠ k))).trans (h.block b hb hn), by simpa using h.size⟩
/-- A call that turned nothing, and one that turned g1 behind it. -/
theorem Chg.comp {g g1 : Nat} {w wx w' : World} (hb : Below w.heap.size w wx) (h1 : g1 = g ∨ w.heap.size ≤ g1) (hg : g < w.heap.size) (ch : Chg g1 wx w') : Chg g w w' := by
  have := hb.size
  exact ⟨fun hB h0 => ch.below (by omega) (h0.trans (hb.mono (by omega))), fun b hl hn => (ch.block b (by omega) (by omega)).trans (hb.block b hl), by have := ch.size; omega⟩

/-- A screen behind a line feed comes back; nothing that was there has been turned. -/
def LinePost (B g : Nat) (w : World) (q : Nm) (L Bk : List (List C)) (e : Ending) (w' : World) : Prop := ∃ g1 h1, e = .returned (ov q g1 h1 L Bk) ∧ OScr B w' g1 h1 L Bk ∧ (g1 = g ∨ w.heap.size ≤ g1) ∧ Below w.heap.size w w'

/-- The screen's numbers behind a sign. -/
def printNm (p : Nm) : Nm := if p.w - 1 ≤ p.x then { p with wrap := !p.noWrap } else { p with wrap := false, x := p.x + 1 }

set_option maxHeartbeats 4000000 in
theorem printed_any (B : Nat) (p q : Nm) (g h : Nat) (L Bk L1 Bk1 : List (List C)) (r : Int) (y : Nat) (w : World) (hs : OScr B w g h L Bk)
    (hc : (p.wrap = false ∧ q = p ∧ L1 = L ∧ Bk1 = Bk) ∨ (p.wrap = true ∧ ∀ wx, Below w.heap.size w wx → Calls Try.prog 50 #[ov { p with x := 0 } g h L Bk] wx (LinePost B g wx q L1 Bk1)))
    (hq : On q) (hy : q.y = y) (hyl : y < L1.length) (hn : L1[y].length ≤ 1000) :
    Calls Try.prog 27 #[ov p g h L Bk, .int .i32 r] w (InPost B g w (printNm q) (L1.set y (putF L1[y] q.x ⟨r, q.a⟩)) Bk1) := by
  have HS := Lib.hid (PS.start w 21 (.int .i32 r) p (.slice (some ⟨g, 0, none⟩) L.length L.length) (.slice (some ⟨h, 0, none⟩) Bk.length Bk.length))
  have HB := Lib.hid (start_below w (.cells (gcs p (.slice (some ⟨g, 0, none⟩) L.length L.length) (.slice (some ⟨h, 0, none⟩) Bk.length Bk.length)) 35) (.cells #[.int .i32 r] 21) (.cells (gcs zeroNm nilV nilV) 35))
  have hgl := hs.rows.lt
  have HH := Lib.hid hs
  have HC := Lib.hid hc
  have HQ := Lib.hid hq
  have HY := Lib.hid hy
  obtain ⟨L2, hL2⟩ : ∃ L2, L2 = L1.set y (putF L1[y] q.x ⟨r, q.a⟩) := ⟨_, rfl⟩
  rw [← hL2]
  have HL2 := Lib.hid hL2
  obtain ⟨z, hzq⟩ : ∃ z, z = printNm q := ⟨_, rfl⟩
  rw [← hzq]
  have HZ := Lib.hid hzq
  clear hs hc hq hy hL2 hzq
  unfold ov gv gcs
  go_enter Try.func27, Try.ntmps27
  go_upto_region 1 with fail
  refine wp_world (fun wq => PS w 21 (.int .i32 r) p (.slice (some ⟨g, 0, none⟩) L.length L.length) (.slice (some ⟨h, 0, none⟩) Bk.length Bk.length) wq ∧ Below w.heap.size w wq) ⟨HS.out, HB.out⟩ ?_
  clear HS HB
  rintro w2 ⟨ps, b2⟩
  have T : Hid (∀ (g1 h1 : Nat) (wx : World), PS w 21 (.int .i32 r) q (.slice (some ⟨g1, 0, none⟩) L1.length L1.length) (.slice (some ⟨h1, 0, none⟩) Bk1.length Bk1.length) wx → OScr B wx g1 h1 L1 Bk1 → Calls Try.prog 51 #[gv q (.slice (some ⟨g1, 0, none⟩) L1.length L1.length) (.slice (some ⟨h1, 0, none⟩) Bk1.length Bk1.length), .func (.func 52) #[] #[.pointer (some ⟨w.heap.size, 0, none⟩), .pointer (some ⟨w.heap.size + 1, 0, none⟩)]] wx (TurnPost B g1 h1 wx q L2 Bk1)) := fun g1 h1 wx ps hs => by
    rw [HL2.out]
    exact changedO_any 52 _ _ q g1 h1 L1 Bk1 y _ B wx hs HY.out hyl enter43 fun wy D c hb hrow => printF_any D c L1[y] _ _ q _ _ r wy (ps.box.below hb ps.box.lt) ((ps.cell.below hb ps.cell.lt).cell 0) hrow hn
  clear HY hn HL2
  have u4 := ps.box.cells.c4
  have u2 := ps.box.cells.c2
  have uf := ps.box.cells.free
  have hz := ps.ans.lt
  rcases HC.out with ⟨hw, rfl, rfl, rfl⟩ | ⟨hw, hl⟩
  · rw [hw] at u4
    go_upto_region 4 with fail
    refine wp_world (fun wq => ∃ g1 h1, PS w 21 (.int .i32 r) q (.slice (some ⟨g1, 0, none⟩) L1.length L1.length) (.slice (some ⟨h1, 0, none⟩) Bk1.length Bk1.length) wq ∧ OScr B wq g1 h1 L1 Bk1 ∧ (g1 = g ∨ w.heap.size + 3 ≤ g1) ∧ Below w.heap.size w wq) ⟨g, h, ps, HH.out.below b2 (Nat.le_refl _), .inl rfl, b2⟩ ?_
    clear ps b2 u4 u2 uf hz HC HH hw
    rintro wa ⟨g1, h1, pa, sa, ga, ba⟩
    have xg := pa.box
    go_upto_region 5 with (first
      | (with_reducible refine wpList_loadB xg (x := .tmp 2) ?_ ?_ ?_ ?_
         · with_reducible rfl
         · rfl
         · rfl)
      | (go_at_call 51
         refine (T.out g1 h1 wa pa sa).mono ?_
         rintro e w3 ⟨rfl, s3, c3⟩
         have p3 := pa.chg c3 (by omega)
         have x3 := p3.box)
      | (with_reducible refine wpList_storeA x3 (x := .tmp 2) (y := .tmp 13) (p := q) (D := some ⟨g1, 0, none⟩) (E := some ⟨h1, 0, none⟩) (n := L2.length) (c := L2.length) (m := Bk1.length) (d := Bk1.length) ?_ ?_ ?_ ?_ ?_
         · with_reducible rfl
         · rfl
         · rfl
         · rfl))
    have hzz := pa.box.lt
    refine wp_world (fun wq => PS w 21 (.int .i32 r) q (.slice (some ⟨g1, 0, none⟩) L2.length L2.length) (.slice (some ⟨h1, 0, none⟩) Bk1.length Bk1.length) wq ∧ OScr B wq g1 h1 L2 Bk1 ∧ Chg g w wq) ⟨p3.put q _ _, s3.bput x3 _, (Chg.comp ba (by omega) hgl c3).setRow hgl (Nat.le_refl _) _⟩ ?_
    clear pa sa ba xg p3 s3 c3 x3 T hzz
    rintro w4 ⟨p4, s4, c4⟩
    obtain ⟨k0, k1, k2, k3, k4, k5, k6, k7⟩ := HQ.out
    clear HQ
    obtain ⟨pw, ph, px, py, pwr, pa, pt, pb, psx, psy, psa, pn, phd⟩ := q
    dsimp only at k0 k1 k2 k3 k4 k5 k6 k7
    have s1 : IntKind.i64.wrap (pw - 1) = pw - 1 := IntWalk.i64_in _ (by omega)
    have s2 : IntKind.i64.wrap (px + 1) = px + 1 := IntWalk.i64_in _ (by omega)
    have v0 := p4.box.cells.c0
    have v2 := p4.box.cells.c2
    have v4 := p4.box.cells.c4
    have v11 := p4.box.cells.c11
    have vf := p4.box.cells.free
    have hz4 := p4.box.lt
    dsimp only at v0 v2 v4 v11
    by_cases hl : pw - 1 ≤ px
    · have hl' : px ≥ pw - 1 := hl
      have eq : printNm ⟨pw, ph, px, py, pwr, pa, pt, pb, psx, psy, psa, pn, phd⟩ = ⟨pw, ph, px, py, !pn, pa, pt, pb, psx, psy, psa, pn, phd⟩ := by simp [printNm, hl]
      have hzq := HZ.out
      rw [eq] at hzq
      subst hzq
      clear eq
      go_upto_region 9 with fail
      have p5 := p4.set (p4.box.set_wrap (!pn))
      have s5 := s4.bset p4.box 4 (.bool (!pn))
      have c5 := c4.bset hgl (Nat.le_refl _) 4 (.bool (!pn))
      dsimp only at p5
      generalize (w4.setCell ⟨w.heap.size, 4, none⟩ (.bool (!pn))) = w5 at *
      clear p4 s4 c4 v0 v2 v4 v11 vf hz4
      have x5 := p5.box
      have a5 := p5.ans
      go_wp2_with (first
        | (with_reducible refine wpList_loadB x5 (x := .tmp 2) ?_ ?_ ?_ ?_
           · with_reducible rfl
           · rfl
           · rfl)
        | (with_reducible refine wpList_storeA a5 (x := .tmp 4) (y := .tmp 33) (p := ⟨pw, ph, px, py, !pn, pa, pt, pb, psx, psy, psa, pn, phd⟩) (D := some ⟨g1, 0, none⟩) (E := some ⟨h1, 0, none⟩) (n := L2.length) (c := L2.length) (m := Bk1.length) (d := Bk1.length) ?_ ?_ ?_ ?_ ?_
           · with_reducible rfl
           · rfl
           · rfl
           · rfl))
      refine bodyPost_ret (v := gv ⟨pw, ph, px, py, !pn, pa, pt, pb, psx, psy, psa, pn, phd⟩ (.slice (some ⟨g1, 0, none⟩) L2.length L2.length) (.slice (some ⟨h1, 0, none⟩) Bk1.length Bk1.length)) (results_cell_row (P := Try.prog) Try.results27 _ _ (w.heap.size + 2) 35 _ (0, 0) _ rfl (a5.setRow _ _ _) Try.underlying35 rfl box_size) rfl ?_
      exact ⟨g1, h1, rfl, s5.bput a5 _, c5.setRow hgl (by omega) _⟩
    · have hl' : ¬ px ≥ pw - 1 := hl
      have eq : printNm ⟨pw, ph, px, py, pwr, pa, pt, pb, psx, psy, psa, pn, phd⟩ = ⟨pw, ph, px + 1, py, false, pa, pt, pb, psx, psy, psa, pn, phd⟩ := by simp [printNm, hl]
      have hzq := HZ.out
      rw [eq] at hzq
      subst hzq
      clear eq
      go_upto_region 9 with fail
      have p50 := p4.set (p4.box.set_wrap false)
      have p5 := p50.set (p50.box.set_x (px + 1))
      have s5 := (s4.bset p4.box 4 (.bool false)).bset p50.box 2 (.int .i64 (px + 1))
      have c5 := (c4.bset hgl (Nat.le_refl _) 4 (.bool false)).bset hgl (Nat.le_refl _) 2 (.int .i64 (px + 1))
      dsimp only at p5
      generalize ((w4.setCell ⟨w.heap.size, 4, none⟩ (.bool false)).setCell ⟨w.heap.size, 2, none⟩ (.int .i64 (px + 1))) = w5 at *
      clear p4 p50 s4 c4 v0 v2 v4 v11 vf hz4
      have x5 := p5.box
      have a5 := p5.ans
      go_wp2_with (first
        | (with_reducible refine wpList_loadB x5 (x := .tmp 2) ?_ ?_ ?_ ?_
           · with_reducible rfl
           · rfl
           · rfl)
        | (with_reducible refine wpList_storeA a5 (x := .tmp 4) (y := .tmp 33) (p := ⟨pw, ph, px + 1, py, false, pa, pt, pb, psx, psy, psa, pn, phd⟩) (D := some ⟨g1, 0, none⟩) (E := some ⟨h1, 0, none⟩) (n := L2.length) (c := L2.length) (m := Bk1.length) (d := Bk1.length) ?_ ?_ ?_ ?_ ?_
           · with_reducible rfl
           · rfl
           · rfl
           · rfl))
      refine bodyPost_ret (v := gv ⟨pw, ph, px + 1, py, false, pa, pt, pb, psx, psy, psa, pn, phd⟩ (.slice (some ⟨g1, 0, none⟩) L2.length L2.length) (.slice (some ⟨h1, 0, none⟩) Bk1.length Bk1.length)) (results_cell_row (P := Try.prog) Try.results27 _ _ (w.heap.size + 2) 35 _ (0, 0) _ rfl (a5.setRow _ _ _) Try.underlying35 rfl box_size) rfl ?_
      exact ⟨g1, h1, rfl, s5.bput a5 _, c5.setRow hgl (by omega) _⟩
  · rw [hw] at u4
    go_upto_region 3 with fail
    have p1 := ps.set (ps.box.set_x 0)
    have b1 := b2.setCell (p := ⟨w.heap.size, 2, none⟩) (Nat.le_refl _) (.int .i64 0)
    have hz1 : w.heap.size + 3 ≤ (w2.setCell ⟨w.heap.size, 2, none⟩ (.int .i64 0)).heap.size := by simp; omega
    have hl1 := hl _ b1
    clear hl
    dsimp only [ov] at hl1
    generalize hp0 : ({ p with x := 0 } : Nm) = p0 at p1 hl1
    clear hp0
    have HL := Lib.hid hl1
    clear hl1
    generalize (w2.setCell ⟨w.heap.size, 2, none⟩ (.int .i64 0)) = w1 at *
    clear ps b2 u4 u2 uf hz HC HH
    have x1 := p1.box
    go_upto_region 4 with (first
      | (with_reducible refine wpList_loadB x1 (x := .tmp 2) ?_ ?_ ?_ ?_
         · with_reducible rfl
         · rfl
         · rfl)
      | (go_at_call 50
         with_reducible refine HL.out.mono ?_
         rintro e w3 ⟨g1, h1, rfl, s3, e3, b3⟩
         have p3 := p1.below b3
         have x3 := p3.box)
      | (with_reducible refine wpList_storeA x3 (x := .tmp 2) (y := .tmp 10) (p := q) (D := some ⟨g1, 0, none⟩) (E := some ⟨h1, 0, none⟩) (n := L1.length) (c := L1.length) (m := Bk1.length) (d := Bk1.length) ?_ ?_ ?_ ?_ ?_
         · with_reducible rfl
         · rfl
         · rfl
         · rfl))
    refine wp_world (fun wq => ∃ g1 h1, PS w 21 (.int .i32 r) q (.slice (some ⟨g1, 0, none⟩) L1.length L1.length) (.slice (some ⟨h1, 0, none⟩) Bk1.length Bk1.length) wq ∧ OScr B wq g1 h1 L1 Bk1 ∧ (g1 = g ∨ w.heap.size + 3 ≤ g1) ∧ Below w.heap.size w wq) ⟨g1, h1, p3.put q _ _, s3.bput x3 _, by omega, below_setRow (b1.trans (b3.mono b1.size)) (Nat.le_refl _) _⟩ ?_
    clear p1 b1 hz1 HL x1 s3 e3 b3 p3 x3 hw
    rintro wa ⟨g1, h1, pa, sa, ga, ba⟩
    have xg := pa.box
    go_upto_region 5 with (first
      | (with_reducible refine wpList_loadB xg (x := .tmp 2) ?_ ?_ ?_ ?_
         · with_reducible rfl
         · rfl
         · rfl)
      | (go_at_call 51
         refine (T.out g1 h1 wa pa sa).mono ?_
         rintro e w3 ⟨rfl, s3, c3⟩
         have p3 := pa.chg c3 (by omega)
         have x3 := p3.box)
      | (with_reducible refine wpList_storeA x3 (x := .tmp 2) (y := .tmp 13) (p := q) (D := some ⟨g1, 0, none⟩) (E := some ⟨h1, 0, none⟩) (n := L2.length) (c := L2.length) (m := Bk1.length) (d := Bk1.length) ?_ ?_ ?_ ?_ ?_
         · with_reducible rfl
         · rfl
         · rfl
         · rfl))
    have hzz := pa.box.lt
    refine wp_world (fun wq => PS w 21 (.int .i32 r) q (.slice (some ⟨g1, 0, none⟩) L2.length L2.length) (.slice (some ⟨h1, 0, none⟩) Bk1.length Bk1.length) wq ∧ OScr B wq g1 h1 L2 Bk1 ∧ Chg g w wq) ⟨p3.put q _ _, s3.bput x3 _, (Chg.comp ba (by omega) hgl c3).setRow hgl (Nat.le_refl _) _⟩ ?_
    clear pa sa ba xg p3 s3 c3 x3 T hzz
    rintro w4 ⟨p4, s4, c4⟩
    obtain ⟨k0, k1, k2, k3, k4, k5, k6, k7⟩ := HQ.out
    clear HQ
    obtain ⟨pw, ph, px, py, pwr, pa, pt, pb, psx, psy, psa, pn, phd⟩ := q
    dsimp only at k0 k1 k2 k3 k4 k5 k6 k7
    have s1 : IntKind.i64.wrap (pw - 1) = pw - 1 := IntWalk.i64_in _ (by omega)
    have s2 : IntKind.i64.wrap (px + 1) = px + 1 := IntWalk.i64_in _ (by omega)
    have v0 := p4.box.cells.c0
    have v2 := p4.box.cells.c2
    have v4 := p4.box.cells.c4
    have v11 := p4.box.cells.c11
    have vf := p4.box.cells.free
    have hz4 := p4.box.lt
    dsimp only at v0 v2 v4 v11
    by_cases hl : pw - 1 ≤ px
    · have hl' : px ≥ pw - 1 := hl
      have eq : printNm ⟨pw, ph, px, py, pwr, pa, pt, pb, psx, psy, psa, pn, phd⟩ = ⟨pw, ph, px, py, !pn, pa, pt, pb, psx, psy, psa, pn, phd⟩ := by simp [printNm, hl]
      have hzq := HZ.out
      rw [eq] at hzq
      subst hzq
      clear eq
      go_upto_region 9 with fail
      have p5 := p4.set (p4.box.set_wrap (!pn))
      have s5 := s4.bset p4.box 4 (.bool (!pn))
      have c5 := c4.bset hgl (Nat.le_refl _) 4 (.bool (!pn))
      dsimp only at p5
      generalize (w4.setCell ⟨w.heap.size, 4, none⟩ (.bool (!pn))) = w5 at *
      clear p4 s4 c4 v0 v2 v4 v11 vf hz4
      have x5 := p5.box
      have a5 := p5.ans
      go_wp2_with (first
        | (with_reducible refine wpList_loadB x5 (x := .tmp 2) ?_ ?_ ?_ ?_
           · with_reducible rfl
           · rfl
           · rfl)
        | (with_reducible refine wpList_storeA a5 (x := .tmp 4) (y := .tmp 33) (p := ⟨pw, ph, px, py, !pn, pa, pt, pb, psx, psy, psa, pn, phd⟩) (D := some ⟨g1, 0, none⟩) (E := some ⟨h1, 0, none⟩) (n := L2.length) (c := L2.length) (m := Bk1.length) (d := Bk1.length) ?_ ?_ ?_ ?_ ?_
           · with_reducible rfl
           · rfl
           · rfl
           · rfl))
      refine bodyPost_ret (v := gv ⟨pw, ph, px, py, !pn, pa, pt, pb, psx, psy, psa, pn, phd⟩ (.slice (some ⟨g1, 0, none⟩) L2.length L2.length) (.slice (some ⟨h1, 0, none⟩) Bk1.length Bk1.length)) (results_cell_row (P := Try.prog) Try.results27 _ _ (w.heap.size + 2) 35 _ (0, 0) _ rfl (a5.setRow _ _ _) Try.underlying35 rfl box_size) rfl ?_
      exact ⟨g1, h1, rfl, s5.bput a5 _, c5.setRow hgl (by omega) _⟩
    · have hl' : ¬ px ≥ pw - 1 := hl
      have eq : printNm ⟨pw, ph, px, py, pwr, pa, pt, pb, psx, psy, psa, pn, phd⟩ = ⟨pw, ph, px + 1, py, false, pa, pt, pb, psx, psy, psa, pn, phd⟩ := by simp [printNm, hl]
      have hzq := HZ.out
      rw [eq] at hzq
      subst hzq
      clear eq
      go_upto_region 9 with fail
      have p50 := p4.set (p4.box.set_wrap false)
      have p5 := p50.set (p50.box.set_x (px + 1))
      have s5 := (s4.bset p4.box 4 (.bool false)).bset p50.box 2 (.int .i64 (px + 1))
      have c5 := (c4.bset hgl (Nat.le_refl _) 4 (.bool false)).bset hgl (Nat.le_refl _) 2 (.int .i64 (px + 1))
      dsimp only at p5
      generalize ((w4.setCell ⟨w.heap.size, 4, none⟩ (.bool false)).setCell ⟨w.heap.size, 2, none⟩ (.int .i64 (px + 1))) = w5 at *
      clear p4 p50 s4 c4 v0 v2 v4 v11 vf hz4
      have x5 := p5.box
      have a5 := p5.ans
      go_wp2_with (first
        | (with_reducible refine wpList_loadB x5 (x := .tmp 2) ?_ ?_ ?_ ?_
           · with_reducible rfl
           · rfl
           · rfl)
        | (with_reducible refine wpList_storeA a5 (x := .tmp 4) (y := .tmp 33) (p := ⟨pw, ph, px + 1, py, false, pa, pt, pb, psx, psy, psa, pn, phd⟩) (D := some ⟨g1, 0, none⟩) (E := some ⟨h1, 0, none⟩) (n := L2.length) (c := L2.length) (m := Bk1.length) (d := Bk1.length) ?_ ?_ ?_ ?_ ?_
           · with_reducible rfl
           · rfl
           · rfl
           · rfl))
      refine bodyPost_ret (v := gv ⟨pw, ph, px + 1, py, false, pa, pt, pb, psx, psy, psa, pn, phd⟩ (.slice (some ⟨g1, 0, none⟩) L2.length L2.length) (.slice (some ⟨h1, 0, none⟩) Bk1.length Bk1.length)) (results_cell_row (P := Try.prog) Try.results27 _ _ (w.heap.size + 2) 35 _ (0, 0) _ rfl (a5.setRow _ _ _) Try.underlying35 rfl box_size) rfl ?_
      exact ⟨g1, h1, rfl, s5.bput a5 _, c5.setRow hgl (by omega) _⟩
end Go.Proofs.Ytpcpmeihebgncaa

/-
  What rowCleared of package acts answers: of the cursor's row the cells from the cursor on, up to it, or all of them are blank. Conditions: what is asked is 0, 1 or 2; the cursor's row is there and has at most a thousand cells, the cursor stands at 0 to 1,000.
-/
namespace Go.Proofs.Ytpcpmeihebgncaa
open Go.RowKit
set_option maxRecDepth 100000

/-- The cursor's row, cleared as it is asked. -/
def rclearF (l : List C) (part x : Int) : List C := if part = 0 then clearF l x l.length else if part = 1 then clearF l 0 (x + 1) else clearF l 0 l.length
theorem rclearF_len (l : List C) (part x : Int) : (rclearF l part x).length = l.length := by
  unfold rclearF
  split
  · exact clearF_len _ _ _
  · split <;> exact clearF_len _ _ _

set_option maxHeartbeats 1000000 in
theorem clearFn_any (D : Option Addr) (c : Nat) (l : List C) (k kp : Nat) (p : Nm) (rr bb : Value) (part : Int) (w : World) (hb : Box w k p rr bb) (hr : w.cell? ⟨kp, 0, none⟩ = some (.int .i64 part)) (hrow : RowAt 0 w D l) (hn : l.length ≤ 1000) (x0 : 0 ≤ p.x) (x1 : p.x ≤ 1000) (hp : part = 0 ∨ part = 1 ∨ part = 2) :
    Calls Try.prog 138 #[.slice D l.length c, .pointer (some ⟨kp, 0, none⟩), .pointer (some ⟨k, 0, none⟩)] w (VPost w (rclearF l part p.x)) := by
  have HP := Lib.hid (fun a b => clear_any D c l a b w hrow.read hn)
  have u2 := hb.cells.c2
  have s1 : IntKind.i64.wrap (p.x + 1) = p.x + 1 := IntWalk.i64_in _ (by omega)
  clear hrow hb
  rcases hp with rfl | rfl | rfl
  all_goals
    simp only [rclearF, if_true, if_false, Int.reduceEq]
    go_enter Try.func138, Try.ntmps138
    go_wp2_with (
      go_at_call 112
      refine (HP.out _ _).mono ?_
      rintro e w1 hp
      obtain ⟨D1, c1, rfl, hc1, hr1, hb1⟩ := hp.v)
    go_ret
    exact ⟨D1, c1, rfl, hc1, hr1, hb1⟩
theorem enter104 : ∀ args w, (callFunc 138 args).run Try.prog w = .ok (.enter 138 args) w := enters Try.func138 (by kernel_rfl) rfl

set_option maxHeartbeats 4000000 in
theorem rowCleared_any (B : Nat) (p : Nm) (g h : Nat) (L Bk : List (List C)) (part : Int) (y : Nat) (w : World) (hs : OScr B w g h L Bk) (x0 : 0 ≤ p.x) (x1 : p.x ≤ 1000) (hy : p.y = y) (hyl : y < L.length) (hn : L[y].length ≤ 1000) (hp : part = 0 ∨ part = 1 ∨ part = 2) :
    Calls Try.prog 105 #[ov p g h L Bk, .int .i64 part] w (TurnPost B g h w p (L.set y (rclearF L[y] part p.x)) Bk) := by
  have HS := Lib.hid (PS.start w 3 (.int .i64 part) p (.slice (some ⟨g, 0, none⟩) L.length L.length) (.slice (some ⟨h, 0, none⟩) Bk.length Bk.length))
  have HB := Lib.hid (start_below w (.cells (gcs p (.slice (some ⟨g, 0, none⟩) L.length L.length) (.slice (some ⟨h, 0, none⟩) Bk.length Bk.length)) 35) (.cells #[.int .i64 part] 3) (.cells (gcs zeroNm nilV nilV) 35))
  have hgl := hs.rows.lt
  obtain ⟨L2, hL2⟩ : ∃ L2, L2 = L.set y (rclearF L[y] part p.x) := ⟨_, rfl⟩
  have T : Hid (∀ (wx : World), PS w 3 (.int .i64 part) p (.slice (some ⟨g, 0, none⟩) L.length L.length) (.slice (some ⟨h, 0, none⟩) Bk.length Bk.length) wx → OScr B wx g h L Bk → Calls Try.prog 51 #[gv p (.slice (some ⟨g, 0, none⟩) L.length L.length) (.slice (some ⟨h, 0, none⟩) Bk.length Bk.length), .func (.func 138) #[] #[.pointer (some ⟨w.heap.size + 1, 0, none⟩), .pointer (some ⟨w.heap.size, 0, none⟩)]] wx (TurnPost B g h wx p L2 Bk)) := fun wx ps hs => by
    rw [hL2]
    exact changedO_any 138 _ _ p g h L Bk y _ B wx hs hy hyl enter104 fun wy D c hb hrow => clearFn_any D c L[y] _ _ p _ _ part wy (ps.box.below hb ps.box.lt) ((ps.cell.below hb ps.cell.lt).cell 0) hrow hn x0 x1 hp
  have HH := Lib.hid hs
  rw [← hL2]
  have HL : Hid (L2.length = L.length) := by rw [hL2, List.length_set]; exact Lib.hid rfl
  clear hs hy hn hp hL2 x0 x1 hyl
  unfold ov gv gcs
  go_enter Try.func105, Try.ntmps105
  go_upto_region 1 with fail
  refine wp_world (fun wq => PS w 3 (.int .i64 part) p (.slice (some ⟨g, 0, none⟩) L.length L.length) (.slice (some ⟨h, 0, none⟩) Bk.length Bk.length) wq ∧ Below w.heap.size w wq) ⟨HS.out, HB.out⟩ ?_
  clear HS HB
  rintro w2 ⟨ps, b2⟩
  have xg := ps.box
  go_wp2_with (first
    | (with_reducible refine wpList_loadB xg (x := .tmp 2) ?_ ?_ ?_ ?_
       · with_reducible rfl
       · rfl
       · rfl)
    | (go_at_call 51
       refine (T.out w2 ps (HH.out.below b2 (Nat.le_refl _))).mono ?_
       rintro e w3 ⟨rfl, s3, c3⟩
       have a3 := (ps.chg c3 (.inl hgl)).ans)
    | (with_reducible refine wpList_storeA a3 (x := .tmp 4) (y := .tmp 7) (p := p) (D := some ⟨g, 0, none⟩) (E := some ⟨h, 0, none⟩) (n := L2.length) (c := L2.length) (m := Bk.length) (d := Bk.length) ?_ ?_ ?_ ?_ ?_
       · with_reducible rfl
       · rfl
       · rfl
       · rfl))
  refine bodyPost_ret (v := gv p (.slice (some ⟨g, 0, none⟩) L2.length L2.length) (.slice (some ⟨h, 0, none⟩) Bk.length Bk.length)) (results_cell_row (P := Try.prog) Try.results105 _ _ (w.heap.size + 2) 35 _ (0, 0) _ rfl (a3.setRow _ _ _) Try.underlying35 rfl box_size) rfl ?_
  exact ⟨rfl, s3.bput a3 _, (Chg.comp b2 (.inl rfl) hgl c3).setRow hgl (by omega) _⟩
end Go.Proofs.Ytpcpmeihebgncaa

/-
  What screenCleared of package acts answers: the cursor's row cleared as it is asked, and the rows behind it, ahead of it, or all of them blank. Conditions: what is asked is 0, 1 or 2; the rows have at most a thousand cells, there are at most a thousand of them, the cursor's is one of them.
-/
namespace Go.Proofs.Ytpcpmeihebgncaa
open Go.RowKit
set_option maxRecDepth 100000

/-- Whether row i is cleared whole. -/
def goesB (part : Int) (y i : Nat) : Bool := if part = 0 then decide (y < i) else if part = 1 then decide (i < y) else true
/-- The first k rows, cleared as it is asked. -/
def scrF (L : List (List C)) (part : Int) (y k : Nat) : List (List C) := L.mapIdx fun i l => if i < k ∧ goesB part y i = true then clearF l 0 l.length else l
theorem scrF_len (L : List (List C)) (part : Int) (y k : Nat) : (scrF L part y k).length = L.length := by simp [scrF]
theorem scrF_at (L : List (List C)) (part : Int) (y k i : Nat) (h : i < (scrF L part y k).length) (h' : i < L.length) : (scrF L part y k)[i] = if i < k ∧ goesB part y i = true then clearF L[i] 0 L[i].length else L[i] := by simp [scrF]
theorem scrF_zero (L : List (List C)) (part : Int) (y : Nat) : scrF L part y 0 = L := by
  apply List.ext_getElem
  · simp [scrF]
  · intro i h1 h2
    rw [scrF_at _ _ _ _ _ h1 h2, if_neg (by omega)]
theorem scrF_skip (L : List (List C)) (part : Int) (y k : Nat) (h : goesB part y k = false) : scrF L part y (k + 1) = scrF L part y k := by
  apply List.ext_getElem
  · simp [scrF]
  · intro i h1 h2
    have h3 : i < L.length := by simpa [scrF] using h1
    rw [scrF_at _ _ _ _ _ h1 h3, scrF_at _ _ _ _ _ h2 h3]
    by_cases e : i = k
    · subst e
      rw [if_neg (by simp [h]), if_neg (by simp)]
    · by_cases c : i < k ∧ goesB part y i = true
      · rw [if_pos c, if_pos ⟨by omega, c.2⟩]
      · rw [if_neg c, if_neg (fun hh => c ⟨by omega, hh.2⟩)]
theorem scrF_next (L : List (List C)) (part : Int) (y k : Nat) (h : goesB part y k = true) (hk : k < L.length) : scrF L part y (k + 1) = (scrF L part y k).set k (clearF L[k] 0 L[k].length) := by
  apply List.ext_getElem
  · simp [scrF]
  · intro i h1 h2
    have h3 : i < L.length := by simpa [scrF] using h1
    rw [scrF_at _ _ _ _ _ h1 h3, List.getElem_set]
    by_cases e : k = i
    · subst e
      rw [if_pos rfl, if_pos ⟨by omega, h⟩]
    · rw [if_neg e, scrF_at _ _ _ _ _ (by simpa [scrF] using h3) h3]
      by_cases c : i < k ∧ goesB part y i = true
      · rw [if_pos c, if_pos ⟨by omega, c.2⟩]
      · rw [if_neg c, if_neg (fun hh => c ⟨by omega, hh.2⟩)]
theorem scrF_self (L : List (List C)) (part : Int) (y k : Nat) (hk : k < L.length) (h : k < (scrF L part y k).length) : (scrF L part y k)[k] = L[k] := by
  rw [scrF_at _ _ _ _ _ h hk, if_neg (by omega)]

/-- The rows so far. -/
structure ScrSt (B : Nat) (w : World) (p : Nm) (g h : Nat) (L Bk : List (List C)) (part : Int) (y k : Nat) (wr : World) : Prop where
  le : k ≤ L.length
  box : Box wr w.heap.size p (.slice (some ⟨g, 0, none⟩) L.length L.length) (.slice (some ⟨h, 0, none⟩) Bk.length Bk.length)
  ans : Box wr (w.heap.size + 1) zeroNm nilV nilV
  scr : OScr B wr g h (scrF L part y k) Bk
  chg : Chg g w wr
def ScrRel (B : Nat) (w : World) (p : Nm) (g h : Nat) (L Bk : List (List C)) (part : Int) (y : Nat) (i : Value) (wr : World) : Prop := ∃ k : Nat, i = .int .i64 (k : Int) ∧ ScrSt B w p g h L Bk part y k wr
theorem ScrSt.drew {B : Nat} {w : World} {p : Nm} {g h : Nat} {L Bk : List (List C)} {part : Int} {y k : Nat} {wr : World} (hs : ScrSt B w p g h L Bk part y k wr) (hg : g < w.heap.size) : ScrSt B w p g h L Bk part y k wr.drew := by
  have hb : Below wr.heap.size wr wr.drew := below_drewN (Below.refl _ _) 1
  have hz := hs.chg.size
  exact ⟨hs.le, hs.box, hs.ans, hs.scr.below hb (Nat.le_refl _), hs.chg.trans (Chg.of hb (by omega))⟩
theorem ScrSt.skip {B : Nat} {w : World} {p : Nm} {g h : Nat} {L Bk : List (List C)} {part : Int} {y k : Nat} {wr : World} (hs : ScrSt B w p g h L Bk part y k wr) (hk : k < L.length) (hg : goesB part y k = false) : ScrSt B w p g h L Bk part y (k + 1) wr :=
  ⟨hk, hs.box, hs.ans, by rw [scrF_skip _ _ _ _ hg]; exact hs.scr, hs.chg⟩
theorem ScrSt.next {B : Nat} {w : World} {p : Nm} {g h : Nat} {L Bk : List (List C)} {part : Int} {y k : Nat} {wr w1 : World} (hs : ScrSt B w p g h L Bk part y k wr) (hk : k < L.length) (hg : goesB part y k = true) (hgl : g < w.heap.size) (hb : Below wr.heap.size wr w1) {D : Option Addr} {c : Nat} (hc : L[k].length ≤ c) (hr : RowAt wr.heap.size w1 D (clearF L[k] 0 L[k].length)) :
    ScrSt B w p g h L Bk part y (k + 1) (w1.setCell ⟨g, k, none⟩ (.slice D L[k].length c)) := by
  have hz := hs.chg.size
  have h1 : Chg g wr (w1.setCell ⟨g, k, none⟩ (.slice D L[k].length c)) := (Chg.of hb (by omega)).set k _
  refine ⟨hk, h1.box hs.box (by omega), h1.box hs.ans (by omega), ?_, hs.chg.trans h1⟩
  rw [scrF_next _ _ _ _ hg hk]
  obtain ⟨vs, hv, _, hrr⟩ := hs.scr.rows
  have ht := (hv.below hb (by omega)).set1 k (.slice D L[k].length c)
  rw [List.setIfInBounds_toArray] at ht
  refine hs.scr.turn hv hrr h1 (D := D) (c := c) ?_ (by rw [clearF_len]; exact hc) (hr.far (p := ⟨g, k, none⟩) (by exact (by omega : g < wr.heap.size)) _)
  rw [clearF_len]
  exact ht

set_option maxHeartbeats 8000000 in
theorem screenCleared_any (B : Nat) (p : Nm) (g h : Nat) (L0 Bk : List (List C)) (part : Int) (y : Nat) (w : World) (hs : OScr B w g h L0 Bk) (x0 : 0 ≤ p.x) (x1 : p.x ≤ 1000) (hy : p.y = y) (hyl : y < L0.length) (hn : ∀ r ∈ L0, r.length ≤ 1000) (hlen : L0.length ≤ 1000) (hp : part = 0 ∨ part = 1 ∨ part = 2) :
    Calls Try.prog 104 #[ov p g h L0 Bk, .int .i64 part] w (TurnPost B g h w p (scrF (L0.set y (rclearF L0[y] part p.x)) part y L0.length) Bk) := by
  have HS := Lib.hid (MS.start w p (.slice (some ⟨g, 0, none⟩) L0.length L0.length) (.slice (some ⟨h, 0, none⟩) Bk.length Bk.length))
  have hgl := hs.rows.lt
  obtain ⟨L, hL⟩ : ∃ L, L = L0.set y (rclearF L0[y] part p.x) := ⟨_, rfl⟩
  have hLn : ∀ r ∈ L, r.length ≤ 1000 := by
    intro r hr
    rw [hL] at hr
    rcases List.mem_or_eq_of_mem_set hr with hr | rfl
    · exact hn r hr
    · rw [rclearF_len]
      exact hn _ (List.getElem_mem _)
  have hLl : L.length = L0.length := by rw [hL, List.length_set]
  have T : Hid (∀ (wx : World), OScr B wx g h L0 Bk → Calls Try.prog 105 #[gv p (.slice (some ⟨g, 0, none⟩) L0.length L0.length) (.slice (some ⟨h, 0, none⟩) Bk.length Bk.length), .int .i64 part] wx (TurnPost B g h wx p L Bk)) := fun wx hs => by
    rw [hL]
    exact rowCleared_any B p g h L0 Bk part y wx hs x0 x1 hy hyl (hn _ (List.getElem_mem _)) hp
  have HH := Lib.hid hs
  rw [← hL, ← hLl]
  have HLL := Lib.hid hLl
  have HLN := Lib.hid hLn
  have HY := Lib.hid hy
  have hLlen : L.length ≤ 1000 := by omega
  obtain ⟨L2, hL2⟩ : ∃ L2, L2 = scrF L part y L.length := ⟨_, rfl⟩
  rw [← hL2]
  have HL2 := Lib.hid hL2
  clear hs hy hn hL x0 x1 hyl hLl hLn hL2
  unfold ov gv gcs
  go_enter Try.func104, Try.ntmps104
  go_upto_region 1 with fail
  refine wp_world (fun wq => MS w p (.slice (some ⟨g, 0, none⟩) L0.length L0.length) (.slice (some ⟨h, 0, none⟩) Bk.length Bk.length) wq) HS.out ?_
  clear HS
  intro w2 ms
  have xg := ms.box
  go_upto_region 2 with (first
    | (with_reducible refine wpList_loadB xg (x := .tmp 2) ?_ ?_ ?_ ?_
       · with_reducible rfl
       · rfl
       · rfl)
    | (go_at_call 105
       refine (T.out w2 (HH.out.below ms.below (Nat.le_refl _))).mono ?_
       rintro e w3 ⟨rfl, s3, c3⟩
       have x3 := c3.box ms.box (by omega)
       have a3 := c3.box ms.ans (by omega))
    | (with_reducible refine wpList_storeA x3 (x := .tmp 2) (y := .tmp 9) (p := p) (D := some ⟨g, 0, none⟩) (E := some ⟨h, 0, none⟩) (n := L.length) (c := L.length) (m := Bk.length) (d := Bk.length) ?_ ?_ ?_ ?_ ?_
       · with_reducible rfl
       · rfl
       · rfl
       · rfl))
  refine wp_world (fun wq => ScrSt B w p g h L Bk part y 0 wq) ⟨Nat.zero_le _, x3.setRow _ _ _, (setRow_other _ _ _ _ (by omega)).trans a3, by rw [scrF_zero]; exact s3.bput x3 _, (Chg.comp ms.below (.inl rfl) hgl c3).setRow hgl (Nat.le_refl _) _⟩ ?_
  clear ms xg x3 a3 s3 c3 T HH HLL hlen
  intro w4 st4
  have cc13 := st4.box.cells.c13
  go_wp2_with fail
  go_loopw [13] (ScrRel B w p g h L Bk part y) (fun i _ => L.length - (intOf i).toNat)
  case atStart => exact ⟨0, rfl, st4⟩
  case round =>
    clear st4 cc13
    obtain ⟨k, rfl, st⟩ := hrel
    have v3 := st.box.cells.c3
    have v13 := st.box.cells.c13
    rw [HY.out] at v3
    have hz : w.heap.size < wr.heap.size := st.box.lt
    by_cases hlt : k < L.length
    · have hki : (k : Int) < (L.length : Int) := by omega
      have hk2 : k < (scrF L part y k).length := by rw [scrF_len]; exact hlt
      obtain ⟨b, off, E, ce, e0, _, hbl, _, hcell, hce, hrow⟩ := st.scr.rows.lines.at k hk2
      cases e0
      rw [scrF_self L part y k hlt hk2] at hcell hce hrow
      rw [Nat.zero_add] at hcell
      have hq := HLN.out _ (List.getElem_mem hlt)
      have HROW := Lib.hid hrow
      have HST := Lib.hid st
      clear hrow st
      rcases hp with rfl | rfl | rfl
      · by_cases hc : y < k
        · have hg0 : goesB 0 y k = true := by simp [goesB]; omega
          have HG := Lib.hid hg0
          clear hg0
          have hci : (k : Int) > (y : Int) := by omega
          go_upto_region 6 with fail
          have d13 : wr.drew.cell? ⟨w.heap.size, 13, none⟩ = some (.slice (some ⟨g, 0, none⟩) L.length L.length) := v13
          have HSD := Lib.hid (HST.out.drew hgl)
          clear v3 v13 hcell
          refine wp_region_held_drew (S := fun w' => w'.cell? ⟨w.heap.size, 13, none⟩ = some (.slice (some ⟨g, 0, none⟩) L.length L.length)) (by kernel_rfl) (by exact d13) (fun hH0 => ?_)
          refine wpAnyH_take (i := 0) (oi := _) (v := .pointer (some ⟨w.heap.size, 13, none⟩)) rfl (by kernel_rfl) (by kernel_rfl) (by kernel_rfl) (fun _ _ _ h => h) (Or.inl ⟨by rfl, ?_⟩) hH0 ?_
          · intro wv hSw
            try dsimp only at hSw
            go_simp
          change wpAnyH _ _ _ _ _ _ _ (Act.put _ (some 40) (.pointer (some ⟨w.heap.size, 13, none⟩))) _
          simp only [Act.put, List.setIfInBounds_toArray, List.set_cons_zero, List.set_cons_succ]
          refine wpAnyH_take (i := 1) (oi := _) (v := .slice (some ⟨g, 0, none⟩) L.length L.length) rfl (by kernel_rfl) (by kernel_rfl) (by kernel_rfl) (fun _ _ _ h => h) (Or.inl ⟨by rfl, ?_⟩) hH0 ?_
          · intro wv hSw
            try dsimp only at hSw
            go_simp
          change wpAnyH _ _ _ _ _ _ _ (Act.put _ (some 41) (.slice (some ⟨g, 0, none⟩) L.length L.length)) _
          simp only [Act.put, List.setIfInBounds_toArray, List.set_cons_zero, List.set_cons_succ]
          refine wpAnyH_take (i := 2) (oi := _) (v := .int .i64 k) rfl (by kernel_rfl) (by kernel_rfl) (by kernel_rfl) (fun _ _ _ h => h) (Or.inl ⟨by rfl, ?_⟩) hH0 ?_
          · intro wv hSw
            try dsimp only at hSw
            go_simp
          change wpAnyH _ _ _ _ _ _ _ (Act.put _ (some 42) (.int .i64 k)) _
          simp only [Act.put, List.setIfInBounds_toArray, List.set_cons_zero, List.set_cons_succ]
          refine wpAnyH_take (i := 3) (oi := _) (v := .slice E L[k].length ce) rfl (by kernel_rfl) (by kernel_rfl) (by kernel_rfl) (fun _ _ _ h => h) (Or.inl ⟨by rfl, ?_⟩) hH0 ?_
          · intro wv hSw
            try dsimp only at hSw
            go_simp
          change wpAnyH _ _ _ _ _ _ _ (Act.put _ (some 43) (.slice E L[k].length ce)) _
          simp only [Act.put, List.setIfInBounds_toArray, List.set_cons_zero, List.set_cons_succ]
          refine wpAnyH_take (i := 4) (oi := _) (v := .slice E L[k].length ce) rfl (by kernel_rfl) (by kernel_rfl) (by kernel_rfl) (fun _ _ _ h => h) (Or.inl ⟨by rfl, ?_⟩) hH0 ?_
          · intro wv hSw
            try dsimp only at hSw
            go_simp
          change wpAnyH _ _ _ _ _ _ _ (Act.put _ (some 44) (.slice E L[k].length ce)) _
          simp only [Act.put, List.setIfInBounds_toArray, List.set_cons_zero, List.set_cons_succ]
          refine wpAnyH_take (i := 5) (oi := _) (v := .int .i64 L[k].length) rfl (by kernel_rfl) (by kernel_rfl) (by kernel_rfl) (fun _ _ _ h => h) (Or.inl ⟨by rfl, ?_⟩) hH0 ?_
          · intro wv hSw
            try dsimp only at hSw
            go_simp
          change wpAnyH _ _ _ _ _ _ _ (Act.put _ (some 45) (.int .i64 L[k].length)) _
          simp only [Act.put, List.setIfInBounds_toArray, List.set_cons_zero, List.set_cons_succ]
          refine wpAnyH_ready (rs := [6]) (by kernel_rfl) (by simp) ?_
          refine AllReadyH.cons (o := _) rfl (fun K hK => ?_) AllReadyH.nil
          go_simp
          refine (clear_any E ce L[k] 0 L[k].length wr.drew (RowAt.read HROW.out) hq).mono ?_
          rintro e w1 hp1
          obtain ⟨D1, c1, rfl, hc1, hr1, hb1⟩ := hp1.v
          rw [clearF_len] at hc1 ⊢
          have t1 := HSD.out.box.below hb1 HSD.out.box.lt
          have z13 := t1.cells.c13
          obtain ⟨vs, hv, _, hrr⟩ := HSD.out.scr.rows
          have hv1 := hv.below hb1 (by exact (by omega : g < wr.heap.size))
          have q1 := hv1.cell k
          have hkv : k < vs.length := by rw [hrr.1]; exact hk2
          rw [List.getElem?_toArray, List.getElem?_eq_getElem hkv] at q1
          have f1 := hv1.frozen
          have hgz : g < w1.heap.size := hv1.lt
          go_wp2_with fail
          refine hK.out _ _ (by exact z13) (fun hH1 => ?_)
          clear hK K
          try simp only [Act.put, List.setIfInBounds_toArray, List.set_cons_zero, List.set_cons_succ]
          refine wpAnyH_take (i := 7) (oi := _) (v := .pointer (some ⟨g, k, none⟩)) rfl (by kernel_rfl) (by kernel_rfl) (by kernel_rfl) (fun _ _ _ h => h) (Or.inl ⟨by rfl, ?_⟩) hH1 ?_
          · intro wv hSw
            try dsimp only at hSw
            go_simp
          change wpAnyH _ _ _ _ _ _ _ (Act.put _ (some 47) (.pointer (some ⟨g, k, none⟩))) _
          simp only [Act.put, List.setIfInBounds_toArray, List.set_cons_zero, List.set_cons_succ]
          refine wpAnyH_ready (rs := [8]) (by kernel_rfl) (by simp) ?_
          refine AllReadyH.cons (o := _) rfl (fun K hK => ?_) AllReadyH.nil
          go_simp
          refine hK.out _ _ (by exact (cell_far (by exact (by omega : w.heap.size ≠ g)) _).trans z13) (fun hH2 => ?_)
          clear hK K
          try simp only [Act.put, List.setIfInBounds_toArray, List.set_cons_zero, List.set_cons_succ]
          refine wpAnyH_done (by kernel_rfl) ?_ _
          clear hH0 hH1 hH2
          clear d13 z13 q1 f1
          go_wp2_with fail
          go_roundw
          case rel => exact ⟨k + 1, by go_num, HSD.out.next hlt HG.out hgl hb1 hc1 hr1⟩
          case measure => simp [intOf]; omega
        · have hg0 : goesB 0 y k = false := by simp [goesB]; omega
          have HG := Lib.hid hg0
          clear hg0
          have hci : ¬ (k : Int) > (y : Int) := by omega
          go_wp2_with fail
          go_roundw
          case rel => exact ⟨k + 1, by go_num, HST.out.skip hlt HG.out⟩
          case measure => simp [intOf]; omega
      · by_cases hc : k < y
        · have hg0 : goesB 1 y k = true := by simp [goesB]; omega
          have HG := Lib.hid hg0
          clear hg0
          have hci : (k : Int) < (y : Int) := by omega
          go_upto_region 6 with fail
          have d13 : wr.drew.cell? ⟨w.heap.size, 13, none⟩ = some (.slice (some ⟨g, 0, none⟩) L.length L.length) := v13
          have HSD := Lib.hid (HST.out.drew hgl)
          clear v3 v13 hcell
          refine wp_region_held_drew (S := fun w' => w'.cell? ⟨w.heap.size, 13, none⟩ = some (.slice (some ⟨g, 0, none⟩) L.length L.length)) (by kernel_rfl) (by exact d13) (fun hH0 => ?_)
          refine wpAnyH_take (i := 0) (oi := _) (v := .pointer (some ⟨w.heap.size, 13, none⟩)) rfl (by kernel_rfl) (by kernel_rfl) (by kernel_rfl) (fun _ _ _ h => h) (Or.inl ⟨by rfl, ?_⟩) hH0 ?_
          · intro wv hSw
            try dsimp only at hSw
            go_simp
          change wpAnyH _ _ _ _ _ _ _ (Act.put _ (some 40) (.pointer (some ⟨w.heap.size, 13, none⟩))) _
          simp only [Act.put, List.setIfInBounds_toArray, List.set_cons_zero, List.set_cons_succ]
          refine wpAnyH_take (i := 1) (oi := _) (v := .slice (some ⟨g, 0, none⟩) L.length L.length) rfl (by kernel_rfl) (by kernel_rfl) (by kernel_rfl) (fun _ _ _ h => h) (Or.inl ⟨by rfl, ?_⟩) hH0 ?_
          · intro wv hSw
            try dsimp only at hSw
            go_simp
          change wpAnyH _ _ _ _ _ _ _ (Act.put _ (some 41) (.slice (some ⟨g, 0, none⟩) L.length L.length)) _
          simp only [Act.put, List.setIfInBounds_toArray, List.set_cons_zero, List.set_cons_succ]
          refine wpAnyH_take (i := 2) (oi := _) (v := .int .i64 k) rfl (by kernel_rfl) (by kernel_rfl) (by kernel_rfl) (fun _ _ _ h => h) (Or.inl ⟨by rfl, ?_⟩) hH0 ?_
          · intro wv hSw
            try dsimp only at hSw
            go_simp
          change wpAnyH _ _ _ _ _ _ _ (Act.put _ (some 42) (.int .i64 k)) _
          simp only [Act.put, List.setIfInBounds_toArray, List.set_cons_zero, List.set_cons_succ]
          refine wpAnyH_take (i := 3) (oi := _) (v := .slice E L[k].length ce) rfl (by kernel_rfl) (by kernel_rfl) (by kernel_rfl) (fun _ _ _ h => h) (Or.inl ⟨by rfl, ?_⟩) hH0 ?_
          · intro wv hSw
            try dsimp only at hSw
            go_simp
          change wpAnyH _ _ _ _ _ _ _ (Act.put _ (some 43) (.slice E L[k].length ce)) _
          simp only [Act.put, List.setIfInBounds_toArray, List.set_cons_zero, List.set_cons_succ]
          refine wpAnyH_take (i := 4) (oi := _) (v := .slice E L[k].length ce) rfl (by kernel_rfl) (by kernel_rfl) (by kernel_rfl) (fun _ _ _ h => h) (Or.inl ⟨by rfl, ?_⟩) hH0 ?_
          · intro wv hSw
            try dsimp only at hSw
            go_simp
          change wpAnyH _ _ _ _ _ _ _ (Act.put _ (some 44) (.slice E L[k].length ce)) _
          simp only [Act.put, List.setIfInBounds_toArray, List.set_cons_zero, List.set_cons_succ]
          refine wpAnyH_take (i := 5) (oi := _) (v := .int .i64 L[k].length) rfl (by kernel_rfl) (by kernel_rfl) (by kernel_rfl) (fun _ _ _ h => h) (Or.inl ⟨by rfl, ?_⟩) hH0 ?_
          · intro wv hSw
            try dsimp only at hSw
            go_simp
          change wpAnyH _ _ _ _ _ _ _ (Act.put _ (some 45) (.int .i64 L[k].length)) _
          simp only [Act.put, List.setIfInBounds_toArray, List.set_cons_zero, List.set_cons_succ]
          refine wpAnyH_ready (rs := [6]) (by kernel_rfl) (by simp) ?_
          refine AllReadyH.cons (o := _) rfl (fun K hK => ?_) AllReadyH.nil
          go_simp
          refine (clear_any E ce L[k] 0 L[k].length wr.drew (RowAt.read HROW.out) hq).mono ?_
          rintro e w1 hp1
          obtain ⟨D1, c1, rfl, hc1, hr1, hb1⟩ := hp1.v
          rw [clearF_len] at hc1 ⊢
          have t1 := HSD.out.box.below hb1 HSD.out.box.lt
          have z13 := t1.cells.c13
          obtain ⟨vs, hv, _, hrr⟩ := HSD.out.scr.rows
          have hv1 := hv.below hb1 (by exact (by omega : g < wr.heap.size))
          have q1 := hv1.cell k
          have hkv : k < vs.length := by rw [hrr.1]; exact hk2
          rw [List.getElem?_toArray, List.getElem?_eq_getElem hkv] at q1
          have f1 := hv1.frozen
          have hgz : g < w1.heap.size := hv1.lt
          go_wp2_with fail
          refine hK.out _ _ (by exact z13) (fun hH1 => ?_)
          clear hK K
          try simp only [Act.put, List.setIfInBounds_toArray, List.set_cons_zero, List.set_cons_succ]
          refine wpAnyH_take (i := 7) (oi := _) (v := .pointer (some ⟨g, k, none⟩)) rfl (by kernel_rfl) (by kernel_rfl) (by kernel_rfl) (fun _ _ _ h => h) (Or.inl ⟨by rfl, ?_⟩) hH1 ?_
          · intro wv hSw
            try dsimp only at hSw
            go_simp
          change wpAnyH _ _ _ _ _ _ _ (Act.put _ (some 47) (.pointer (some ⟨g, k, none⟩))) _
          simp only [Act.put, List.setIfInBounds_toArray, List.set_cons_zero, List.set_cons_succ]
          refine wpAnyH_ready (rs := [8]) (by kernel_rfl) (by simp) ?_
          refine AllReadyH.cons (o := _) rfl (fun K hK => ?_) AllReadyH.nil
          go_simp
          refine hK.out _ _ (by exact (cell_far (by exact (by omega : w.heap.size ≠ g)) _).trans z13) (fun hH2 => ?_)
          clear hK K
          try simp only [Act.put, List.setIfInBounds_toArray, List.set_cons_zero, List.set_cons_succ]
          refine wpAnyH_done (by kernel_rfl) ?_ _
          clear hH0 hH1 hH2
          clear d13 z13 q1 f1
          go_wp2_with fail
          go_roundw
          case rel => exact ⟨k + 1, by go_num, HSD.out.next hlt HG.out hgl hb1 hc1 hr1⟩
          case measure => simp [intOf]; omega
        · have hg0 : goesB 1 y k = false := by simp [goesB]; omega
          have HG := Lib.hid hg0
          clear hg0
          have hci : ¬ (k : Int) < (y : Int) := by omega
          go_wp2_with fail
          go_roundw
          case rel => exact ⟨k + 1, by go_num, HST.out.skip hlt HG.out⟩
          case measure => simp [intOf]; omega
      · have hg0 : goesB 2 y k = true := by simp [goesB]
        have HG := Lib.hid hg0
        clear hg0
        skip
        go_upto_region 6 with fail
        have d13 : wr.drew.cell? ⟨w.heap.size, 13, none⟩ = some (.slice (some ⟨g, 0, none⟩) L.length L.length) := v13
        have HSD := Lib.hid (HST.out.drew hgl)
        clear v3 v13 hcell
        refine wp_region_held_drew (S := fun w' => w'.cell? ⟨w.heap.size, 13, none⟩ = some (.slice (some ⟨g, 0, none⟩) L.length L.length)) (by kernel_rfl) (by exact d13) (fun hH0 => ?_)
        refine wpAnyH_take (i := 0) (oi := _) (v := .pointer (some ⟨w.heap.size, 13, none⟩)) rfl (by kernel_rfl) (by kernel_rfl) (by kernel_rfl) (fun _ _ _ h => h) (Or.inl ⟨by rfl, ?_⟩) hH0 ?_
        · intro wv hSw
          try dsimp only at hSw
          go_simp
        change wpAnyH _ _ _ _ _ _ _ (Act.put _ (some 40) (.pointer (some ⟨w.heap.size, 13, none⟩))) _
        simp only [Act.put, List.setIfInBounds_toArray, List.set_cons_zero, List.set_cons_succ]
        refine wpAnyH_take (i := 1) (oi := _) (v := .slice (some ⟨g, 0, none⟩) L.length L.length) rfl (by kernel_rfl) (by kernel_rfl) (by kernel_rfl) (fun _ _ _ h => h) (Or.inl ⟨by rfl, ?_⟩) hH0 ?_
        · intro wv hSw
          try dsimp only at hSw
          go_simp
        change wpAnyH _ _ _ _ _ _ _ (Act.put _ (some 41) (.slice (some ⟨g, 0, none⟩) L.length L.length)) _
        simp only [Act.put, List.setIfInBounds_toArray, List.set_cons_zero, List.set_cons_succ]
        refine wpAnyH_take (i := 2) (oi := _) (v := .int .i64 k) rfl (by kernel_rfl) (by kernel_rfl) (by kernel_rfl) (fun _ _ _ h => h) (Or.inl ⟨by rfl, ?_⟩) hH0 ?_
        · intro wv hSw
          try dsimp only at hSw
          go_simp
        change wpAnyH _ _ _ _ _ _ _ (Act.put _ (some 42) (.int .i64 k)) _
        simp only [Act.put, List.setIfInBounds_toArray, List.set_cons_zero, List.set_cons_succ]
        refine wpAnyH_take (i := 3) (oi := _) (v := .slice E L[k].length ce) rfl (by kernel_rfl) (by kernel_rfl) (by kernel_rfl) (fun _ _ _ h => h) (Or.inl ⟨by rfl, ?_⟩) hH0 ?_
        · intro wv hSw
          try dsimp only at hSw
          go_simp
        change wpAnyH _ _ _ _ _ _ _ (Act.put _ (some 43) (.slice E L[k].length ce)) _
        simp only [Act.put, List.setIfInBounds_toArray, List.set_cons_zero, List.set_cons_succ]
        refine wpAnyH_take (i := 4) (oi := _) (v := .slice E L[k].length ce) rfl (by kernel_rfl) (by kernel_rfl) (by kernel_rfl) (fun _ _ _ h => h) (Or.inl ⟨by rfl, ?_⟩) hH0 ?_
        · intro wv hSw
          try dsimp only at hSw
          go_simp
        change wpAnyH _ _ _ _ _ _ _ (Act.put _ (some 44) (.slice E L[k].length ce)) _
        simp only [Act.put, List.setIfInBounds_toArray, List.set_cons_zero, List.set_cons_succ]
        refine wpAnyH_take (i := 5) (oi := _) (v := .int .i64 L[k].length) rfl (by kernel_rfl) (by kernel_rfl) (by kernel_rfl) (fun _ _ _ h => h) (Or.inl ⟨by rfl, ?_⟩) hH0 ?_
        · intro wv hSw
          try dsimp only at hSw
          go_simp
        change wpAnyH _ _ _ _ _ _ _ (Act.put _ (some 45) (.int .i64 L[k].length)) _
        simp only [Act.put, List.setIfInBounds_toArray, List.set_cons_zero, List.set_cons_succ]
        refine wpAnyH_ready (rs := [6]) (by kernel_rfl) (by simp) ?_
        refine AllReadyH.cons (o := _) rfl (fun K hK => ?_) AllReadyH.nil
        go_simp
        refine (clear_any E ce L[k] 0 L[k].length wr.drew (RowAt.read HROW.out) hq).mono ?_
        rintro e w1 hp1
        obtain ⟨D1, c1, rfl, hc1, hr1, hb1⟩ := hp1.v
        rw [clearF_len] at hc1 ⊢
        have t1 := HSD.out.box.below hb1 HSD.out.box.lt
        have z13 := t1.cells.c13
        obtain ⟨vs, hv, _, hrr⟩ := HSD.out.scr.rows
        have hv1 := hv.below hb1 (by exact (by omega : g < wr.heap.size))
        have q1 := hv1.cell k
        have hkv : k < vs.length := by rw [hrr.1]; exact hk2
        rw [List.getElem?_toArray, List.getElem?_eq_getElem hkv] at q1
        have f1 := hv1.frozen
        have hgz : g < w1.heap.size := hv1.lt
        go_wp2_with fail
        refine hK.out _ _ (by exact z13) (fun hH1 => ?_)
        clear hK K
        try simp only [Act.put, List.setIfInBounds_toArray, List.set_cons_zero, List.set_cons_succ]
        refine wpAnyH_take (i := 7) (oi := _) (v := .pointer (some ⟨g, k, none⟩)) rfl (by kernel_rfl) (by kernel_rfl) (by kernel_rfl) (fun _ _ _ h => h) (Or.inl ⟨by rfl, ?_⟩) hH1 ?_
        · intro wv hSw
          try dsimp only at hSw
          go_simp
        change wpAnyH _ _ _ _ _ _ _ (Act.put _ (some 47) (.pointer (some ⟨g, k, none⟩))) _
        simp only [Act.put, List.setIfInBounds_toArray, List.set_cons_zero, List.set_cons_succ]
        refine wpAnyH_ready (rs := [8]) (by kernel_rfl) (by simp) ?_
        refine AllReadyH.cons (o := _) rfl (fun K hK => ?_) AllReadyH.nil
        go_simp
        refine hK.out _ _ (by exact (cell_far (by exact (by omega : w.heap.size ≠ g)) _).trans z13) (fun hH2 => ?_)
        clear hK K
        try simp only [Act.put, List.setIfInBounds_toArray, List.set_cons_zero, List.set_cons_succ]
        refine wpAnyH_done (by kernel_rfl) ?_ _
        clear hH0 hH1 hH2
        clear d13 z13 q1 f1
        go_wp2_with fail
        go_roundw
        case rel => exact ⟨k + 1, by go_num, HSD.out.next hlt HG.out hgl hb1 hc1 hr1⟩
        case measure => simp [intOf]; omega
    · have hki : ¬ (k : Int) < (L.length : Int) := by omega
      obtain rfl : k = L.length := by have := st.le; omega
      have s5 := st.scr
      rw [← HL2.out] at s5
      have HE : Hid (L.length = L2.length) := by rw [HL2.out, scrF_len]; exact Lib.hid rfl
      have c5 := st.chg
      have x5 := st.box
      have a5 := st.ans
      clear st v3 v13 hp
      rw [HE.out] at x5
      go_wp2_with (first
        | (with_reducible refine wpList_loadB x5 (x := .tmp 2) ?_ ?_ ?_ ?_
           · with_reducible rfl
           · rfl
           · rfl)
        | (with_reducible refine wpList_storeA a5 (x := .tmp 4) (y := .tmp 49) (p := p) (D := some ⟨g, 0, none⟩) (E := some ⟨h, 0, none⟩) (n := L2.length) (c := L2.length) (m := Bk.length) (d := Bk.length) ?_ ?_ ?_ ?_ ?_
           · with_reducible rfl
           · rfl
           · rfl
           · rfl))
      refine bodyPost_ret (v := gv p (.slice (some ⟨g, 0, none⟩) L2.length L2.length) (.slice (some ⟨h, 0, none⟩) Bk.length Bk.length)) (results_cell_row (P := Try.prog) Try.results104 _ _ (w.heap.size + 1) 35 _ (0, 0) _ rfl (a5.setRow _ _ _) Try.underlying35 rfl box_size) rfl ?_
      exact ⟨rfl, s5.bput a5 _, c5.setRow hgl (Nat.le_succ _) _⟩
end Go.Proofs.Ytpcpmeihebgncaa

/-
  What rewritten of package acts answers for J, K and what is not known, and what sequenced answers where it hands on to it. Conditions: the screen's sides lie between 1 and 1,000, its rows are as wide as it, the cursor is on it.
-/
namespace Go.Proofs.Ytpcpmeihebgncaa
open Go.RowKit
set_option maxRecDepth 100000

/-- A whole screen is read, in a region that draws its order. -/
theorem yields_loadB {ops : Array Oper} {S : World → Prop} {o : Oper} {a : Act} {x : Operand} {g : Nat} {p : Nm} {r b : Value} (hw : Region.wanted o (yielded ops a.tmps) = true) (ho : o.op = .load 35 x) (hx : a.eval x = .pointer (some ⟨g, 0, none⟩)) (hS : ∀ w, S w → Box w g p r b) : YieldsIf Try.prog ops S o (gv p r b) a :=
  yieldsIf_load_mid hw 35 x ho g 0 hx (gcs p r b).toList _ (fun w h j v hv => by
    rw [Nat.zero_add, Held.cell (hS w h) j]
    simpa using hv) Try.underlying35 rfl box_size
theorem wp_storeA {o : Oper} {a : Act} {w : World} {K : Act → World → Prop} {Q : Exit → Act → World → Prop} {x y : Operand} {g : Nat} {q : Nm} {r0 b0 : Value} (h : Box w g q r0 b0) {p : Nm} {D E : Option Addr} {n c m d : Nat}
    (ho : o.op = .store 35 x y) (hx : a.eval x = .pointer (some ⟨g, 0, none⟩)) (hy : a.eval y = gv p (.slice D n c) (.slice E m d))
    (k : K (a.put o.dst undef) (w.setRow g (gcs p (.slice D n c) (.slice E m d)))) : Oper.wp Try.prog o a w K Q :=
  wp_store_row 35 x y ho g _ hx hy 35 _ h box_size (gcs_size _ _ _) (gcs_one _ _ _ _ _ _ _) k

theorem TurnPost.into {B g h : Nat} {w : World} {p : Nm} {L Bk : List (List C)} {e : Ending} {w' : World} (t : TurnPost B g h w p L Bk e w') : InPost B g w p L Bk e w' := ⟨g, h, t.1, t.2.1, t.2.2⟩
theorem ValPost.into {B g h : Nat} {w : World} {p : Nm} {L Bk : List (List C)} {e : Ending} {w' : World} (hs : OScr B w g h L Bk) (t : ValPost (ov p g h L Bk) w e w') : InPost B g w p L Bk e w' := ⟨g, h, t.1, hs.below t.2 (Nat.le_refl _), Chg.of t.2 hs.rows.lt⟩

/-- None of the letters that sequenced knows itself. -/
def NotSeq (r : Int) : Prop := r ≠ 65 ∧ r ≠ 66 ∧ r ≠ 67 ∧ r ≠ 68 ∧ r ≠ 71 ∧ r ≠ 100 ∧ r ≠ 72 ∧ r ≠ 102 ∧ r ≠ 114 ∧ r ≠ 109

set_option maxHeartbeats 4000000 in
theorem seq_rw (B : Nat) (p p2 : Nm) (g h : Nat) (L Bk L2 Bk2 : List (List C)) (r : Int) (PD : Option Addr) (pc : Nat) (xs : List Int) (w : World) (hs : OScr B w g h L Bk) (hr : ReadI w (.slice PD xs.length pc) xs) (hne : NotSeq r)
    (hT : ∀ wx, OScr B wx g h L Bk → Calls Try.prog 59 #[ov p g h L Bk, .int .i32 r, .int .i64 (toldF xs 0 1), .int .i64 (toldF xs 0 0)] wx (InPost B g wx p2 L2 Bk2)) :
    Calls Try.prog 30 #[ov p g h L Bk, .int .i32 r, .slice PD xs.length pc] w (InPost B g w p2 L2 Bk2) := by
  have HS := Lib.hid (MS.start w p (.slice (some ⟨g, 0, none⟩) L.length L.length) (.slice (some ⟨h, 0, none⟩) Bk.length Bk.length))
  have HT : Hid (∀ wx, Below w.heap.size w wx → Calls Try.prog 56 #[.slice PD xs.length pc, .int .i64 0, .int .i64 1] wx fun e w' => e = .returned (.int .i64 (toldF xs 0 1)) ∧ wx = w') := fun wx hb => told_any PD pc xs 0 1 wx (hr.below hb (Nat.le_refl _))
  have HT0 : Hid (∀ wx, Below w.heap.size w wx → Calls Try.prog 56 #[.slice PD xs.length pc, .int .i64 0, .int .i64 0] wx fun e w' => e = .returned (.int .i64 (toldF xs 0 0)) ∧ wx = w') := fun wx hb => told_any PD pc xs 0 0 wx (hr.below hb (Nat.le_refl _))
  have T : Hid (∀ wx, OScr B wx g h L Bk → Calls Try.prog 59 #[gv p (.slice (some ⟨g, 0, none⟩) L.length L.length) (.slice (some ⟨h, 0, none⟩) Bk.length Bk.length), .int .i32 r, .int .i64 (toldF xs 0 1), .int .i64 (toldF xs 0 0)] wx (InPost B g wx p2 L2 Bk2)) := hT
  clear hT
  generalize toldF xs 0 1 = n at *
  generalize toldF xs 0 0 = part at *
  have HH := Lib.hid hs
  have hgl := hs.rows.lt
  obtain ⟨n65, n66, n67, n68, n71, n100, n72, n102, n114, n109⟩ := hne
  clear hr hs
  unfold ov gv gcs
  go_enter Try.func30, Try.ntmps30
  go_upto_region 1 with fail
  refine wp_world (fun wq => MS w p (.slice (some ⟨g, 0, none⟩) L.length L.length) (.slice (some ⟨h, 0, none⟩) Bk.length Bk.length) wq) HS.out ?_
  clear HS
  intro w2 rs
  have xg := rs.box
  have HR0 := Lib.hid rs
  clear rs
  go_upto_region 23 with (
    go_at_call 56
    refine (HT.out _ HR0.out.below).mono ?_
    rintro e w' ⟨rfl, rfl⟩)
  have HR := Lib.hid HR0.out.drew
  clear n65 n66 n67 n68 n71 n100 n72 n102 n114 n109 xg HR0 HT
  refine wp_region_held_drew (S := fun w' => Box w' w.heap.size p (.slice (some ⟨g, 0, none⟩) L.length L.length) (.slice (some ⟨h, 0, none⟩) Bk.length Bk.length)) (by kernel_rfl) (by exact HR.out.box) (fun hH0 => ?_)
  refine wpAnyH_take (i := 0) (oi := _) (v := gv p (.slice (some ⟨g, 0, none⟩) L.length L.length) (.slice (some ⟨h, 0, none⟩) Bk.length Bk.length)) rfl (by kernel_rfl) (by kernel_rfl) (by kernel_rfl) (fun _ _ _ h => h) (yields_loadB (by rfl) rfl (by rfl) (fun _ h => h)) hH0 ?_
  change wpAnyH _ _ _ _ _ _ _ (Act.put _ (some 96) (gv p (.slice (some ⟨g, 0, none⟩) L.length L.length) (.slice (some ⟨h, 0, none⟩) Bk.length Bk.length))) _
  simp only [Act.put, List.setIfInBounds_toArray, List.set_cons_zero, List.set_cons_succ]
  refine wpAnyH_take (i := 1) (oi := _) (v := .int .i32 r) rfl (by kernel_rfl) (by kernel_rfl) (by kernel_rfl) (fun _ _ _ h => h) (Or.inl ⟨by rfl, ?_⟩) hH0 ?_
  · intro wv hSw
    try dsimp only at hSw
    go_simp
  change wpAnyH _ _ _ _ _ _ _ (Act.put _ (some 97) (.int .i32 r)) _
  simp only [Act.put, List.setIfInBounds_toArray, List.set_cons_zero, List.set_cons_succ]
  refine wpAnyH_take (i := 2) (oi := _) (v := .int .i64 n) rfl (by kernel_rfl) (by kernel_rfl) (by kernel_rfl) (fun _ _ _ h => h) (Or.inl ⟨by rfl, ?_⟩) hH0 ?_
  · intro wv hSw
    try dsimp only at hSw
    go_simp
  change wpAnyH _ _ _ _ _ _ _ (Act.put _ (some 98) (.int .i64 n)) _
  simp only [Act.put, List.setIfInBounds_toArray, List.set_cons_zero, List.set_cons_succ]
  refine wpAnyH_take (i := 3) (oi := _) (v := .slice PD xs.length pc) rfl (by kernel_rfl) (by kernel_rfl) (by kernel_rfl) (fun _ _ _ h => h) (Or.inl ⟨by rfl, ?_⟩) hH0 ?_
  · intro wv hSw
    try dsimp only at hSw
    go_simp
  change wpAnyH _ _ _ _ _ _ _ (Act.put _ (some 99) (.slice PD xs.length pc)) _
  simp only [Act.put, List.setIfInBounds_toArray, List.set_cons_zero, List.set_cons_succ]
  refine wpAnyH_ready (rs := [4]) (by kernel_rfl) (by simp) ?_
  refine AllReadyH.cons (o := _) rfl (fun K hK => ?_) AllReadyH.nil
  go_simp
  refine (HT0.out _ HR.out.below).mono ?_
  rintro e w' ⟨rfl, rfl⟩
  go_wp2_with fail
  refine hK.out _ _ (by exact HR.out.box) (fun hH1 => ?_)
  clear hK K
  try simp only [Act.put, List.setIfInBounds_toArray, List.set_cons_zero, List.set_cons_succ]
  refine wpAnyH_ready (rs := [5]) (by kernel_rfl) (by simp) ?_
  refine AllReadyH.cons (o := _) rfl (fun K hK => ?_) AllReadyH.nil
  go_simp
  refine (T.out w2.drew (HH.out.below HR.out.below (Nat.le_refl _))).mono ?_
  rintro e w5 ⟨g5, h5, rfl, s5, c5⟩
  have x5 := c5.box HR.out.box (by omega)
  have a5 := c5.box HR.out.ans (by omega)
  go_wp2_with fail
  refine hK.out _ _ (by exact x5) (fun hH2 => ?_)
  clear hK K
  try simp only [Act.put, List.setIfInBounds_toArray, List.set_cons_zero, List.set_cons_succ]
  refine wpAnyH_ready (rs := [6]) (by kernel_rfl) (by simp) ?_
  refine AllReadyH.cons (o := _) rfl (fun K hK => ?_) AllReadyH.nil
  rw [if_pos (by rfl)]
  refine wp_storeA a5 (x := .tmp 6) (y := .tmp 101) (p := p2) (D := some ⟨g5, 0, none⟩) (E := some ⟨h5, 0, none⟩) (n := L2.length) (c := L2.length) (m := Bk2.length) (d := Bk2.length) rfl rfl rfl ?_
  refine hK.out _ _ (by exact (setRow_other _ _ _ _ (by omega)).trans x5) (fun hH3 => ?_)
  clear hK K
  dsimp only [Act.put]
  refine wpAnyH_done (by kernel_rfl) ?_ _
  clear hH0 hH1 hH2 hH3
  go_wp2_with fail
  refine bodyPost_ret (v := gv p2 (.slice (some ⟨g5, 0, none⟩) L2.length L2.length) (.slice (some ⟨h5, 0, none⟩) Bk2.length Bk2.length)) (results_cell_row (P := Try.prog) Try.results30 _ _ (w.heap.size + 1) 35 _ (0, 0) _ rfl (a5.setRow _ _ _) Try.underlying35 rfl box_size) rfl ?_
  exact ⟨g5, h5, rfl, s5.bput a5 _, (Chg.comp HR.out.below (.inl rfl) hgl c5).setRow hgl (Nat.le_succ _) _⟩

set_option maxHeartbeats 4000000 in
theorem rew_J (B : Nat) (p : Nm) (g h : Nat) (L Bk L2 : List (List C)) (n part : Int) (w : World) (hs : OScr B w g h L Bk)
    (hT : ∀ wx, OScr B wx g h L Bk → Calls Try.prog 104 #[ov p g h L Bk, .int .i64 part] wx (TurnPost B g h wx p L2 Bk)) :
    Calls Try.prog 59 #[ov p g h L Bk, .int .i32 74, .int .i64 n, .int .i64 part] w (InPost B g w p L2 Bk) := by
  have HS := Lib.hid (PS.start w 3 (.int .i64 n) p (.slice (some ⟨g, 0, none⟩) L.length L.length) (.slice (some ⟨h, 0, none⟩) Bk.length Bk.length))
  have HB := Lib.hid (start_below w (.cells (gcs p (.slice (some ⟨g, 0, none⟩) L.length L.length) (.slice (some ⟨h, 0, none⟩) Bk.length Bk.length)) 35) (.cells #[.int .i64 n] 3) (.cells (gcs zeroNm nilV nilV) 35))
  have T : Hid (∀ wx, OScr B wx g h L Bk → Calls Try.prog 104 #[gv p (.slice (some ⟨g, 0, none⟩) L.length L.length) (.slice (some ⟨h, 0, none⟩) Bk.length Bk.length), .int .i64 part] wx (TurnPost B g h wx p L2 Bk)) := hT
  have HH := Lib.hid hs
  have hgl := hs.rows.lt
  clear hT hs
  unfold ov gv gcs
  go_enter Try.func59, Try.ntmps59
  go_upto_region 1 with fail
  refine wp_world (fun wq => PS w 3 (.int .i64 n) p (.slice (some ⟨g, 0, none⟩) L.length L.length) (.slice (some ⟨h, 0, none⟩) Bk.length Bk.length) wq ∧ Below w.heap.size w wq) ⟨HS.out, HB.out⟩ ?_
  clear HS HB
  rintro w2 ⟨ps, b2⟩
  have xg := ps.box
  go_wp2_with (first
    | (with_reducible refine wpList_loadB xg (x := .tmp 4) ?_ ?_ ?_ ?_
       · with_reducible rfl
       · rfl
       · rfl)
    | (go_at_call 104
       refine (T.out w2 (HH.out.below b2 (Nat.le_refl _))).mono ?_
       rintro e w3 ⟨rfl, s3, c3⟩
       have a3 := (ps.chg c3 (.inl hgl)).ans)
    | (with_reducible refine wpList_storeA a3 (x := .tmp 8) (y := .tmp 14) (p := p) (D := some ⟨g, 0, none⟩) (E := some ⟨h, 0, none⟩) (n := L2.length) (c := L2.length) (m := Bk.length) (d := Bk.length) ?_ ?_ ?_ ?_ ?_
       · with_reducible rfl
       · rfl
       · rfl
       · rfl))
  refine bodyPost_ret (v := gv p (.slice (some ⟨g, 0, none⟩) L2.length L2.length) (.slice (some ⟨h, 0, none⟩) Bk.length Bk.length)) (results_cell_row (P := Try.prog) Try.results59 _ _ (w.heap.size + 2) 35 _ (0, 0) _ rfl (a3.setRow _ _ _) Try.underlying35 rfl box_size) rfl ?_
  exact ⟨g, h, rfl, s3.bput a3 _, (Chg.comp b2 (.inl rfl) hgl c3).setRow hgl (by omega) _⟩

set_option maxHeartbeats 4000000 in
theorem rew_K (B : Nat) (p : Nm) (g h : Nat) (L Bk L2 : List (List C)) (n part : Int) (w : World) (hs : OScr B w g h L Bk)
    (hT : ∀ wx, OScr B wx g h L Bk → Calls Try.prog 105 #[ov p g h L Bk, .int .i64 part] wx (TurnPost B g h wx p L2 Bk)) :
    Calls Try.prog 59 #[ov p g h L Bk, .int .i32 75, .int .i64 n, .int .i64 part] w (InPost B g w p L2 Bk) := by
  have HS := Lib.hid (PS.start w 3 (.int .i64 n) p (.slice (some ⟨g, 0, none⟩) L.length L.length) (.slice (some ⟨h, 0, none⟩) Bk.length Bk.length))
  have HB := Lib.hid (start_below w (.cells (gcs p (.slice (some ⟨g, 0, none⟩) L.length L.length) (.slice (some ⟨h, 0, none⟩) Bk.length Bk.length)) 35) (.cells #[.int .i64 n] 3) (.cells (gcs zeroNm nilV nilV) 35))
  have T : Hid (∀ wx, OScr B wx g h L Bk → Calls Try.prog 105 #[gv p (.slice (some ⟨g, 0, none⟩) L.length L.length) (.slice (some ⟨h, 0, none⟩) Bk.length Bk.length), .int .i64 part] wx (TurnPost B g h wx p L2 Bk)) := hT
  have HH := Lib.hid hs
  have hgl := hs.rows.lt
  clear hT hs
  unfold ov gv gcs
  go_enter Try.func59, Try.ntmps59
  go_upto_region 1 with fail
  refine wp_world (fun wq => PS w 3 (.int .i64 n) p (.slice (some ⟨g, 0, none⟩) L.length L.length) (.slice (some ⟨h, 0, none⟩) Bk.length Bk.length) wq ∧ Below w.heap.size w wq) ⟨HS.out, HB.out⟩ ?_
  clear HS HB
  rintro w2 ⟨ps, b2⟩
  have xg := ps.box
  go_wp2_with (first
    | (with_reducible refine wpList_loadB xg (x := .tmp 4) ?_ ?_ ?_ ?_
       · with_reducible rfl
       · rfl
       · rfl)
    | (go_at_call 105
       refine (T.out w2 (HH.out.below b2 (Nat.le_refl _))).mono ?_
       rintro e w3 ⟨rfl, s3, c3⟩
       have a3 := (ps.chg c3 (.inl hgl)).ans)
    | (with_reducible refine wpList_storeA a3 (x := .tmp 8) (y := .tmp 19) (p := p) (D := some ⟨g, 0, none⟩) (E := some ⟨h, 0, none⟩) (n := L2.length) (c := L2.length) (m := Bk.length) (d := Bk.length) ?_ ?_ ?_ ?_ ?_
       · with_reducible rfl
       · rfl
       · rfl
       · rfl))
  refine bodyPost_ret (v := gv p (.slice (some ⟨g, 0, none⟩) L2.length L2.length) (.slice (some ⟨h, 0, none⟩) Bk.length Bk.length)) (results_cell_row (P := Try.prog) Try.results59 _ _ (w.heap.size + 2) 35 _ (0, 0) _ rfl (a3.setRow _ _ _) Try.underlying35 rfl box_size) rfl ?_
  exact ⟨g, h, rfl, s3.bput a3 _, (Chg.comp b2 (.inl rfl) hgl c3).setRow hgl (by omega) _⟩

/-- None of the letters that rewritten knows. -/
def NotRew (r : Int) : Prop := r ≠ 74 ∧ r ≠ 75 ∧ r ≠ 76 ∧ r ≠ 77 ∧ r ≠ 64 ∧ r ≠ 80 ∧ r ≠ 88 ∧ r ≠ 83 ∧ r ≠ 84
set_option maxHeartbeats 4000000 in
theorem rew_no (p : Nm) (D E : Option Addr) (nn c m d : Nat) (r n part : Int) (w : World) (hne : NotRew r) :
    Calls Try.prog 59 #[gv p (.slice D nn c) (.slice E m d), .int .i32 r, .int .i64 n, .int .i64 part] w (ValPost (gv p (.slice D nn c) (.slice E m d)) w) := by
  have HS := Lib.hid (PS.start w 3 (.int .i64 n) p (.slice D nn c) (.slice E m d))
  have HB := Lib.hid (start_below w (.cells (gcs p (.slice D nn c) (.slice E m d)) 35) (.cells #[.int .i64 n] 3) (.cells (gcs zeroNm nilV nilV) 35))
  obtain ⟨n74, n75, n76, n77, n64, n80, n88, n83, n84⟩ := hne
  unfold gv gcs
  go_enter Try.func59, Try.ntmps59
  go_upto_region 1 with fail
  refine wp_world (fun wq => PS w 3 (.int .i64 n) p (.slice D nn c) (.slice E m d) wq ∧ Below w.heap.size w wq) ⟨HS.out, HB.out⟩ ?_
  clear HS HB
  rintro w2 ⟨ps, b2⟩
  have xg := ps.box
  have a3 := ps.ans
  go_wp2_with (first
    | (with_reducible refine wpList_loadB xg (x := .tmp 4) ?_ ?_ ?_ ?_
       · with_reducible rfl
       · rfl
       · rfl)
    | (with_reducible refine wpList_storeA a3 (x := .tmp 8) (y := .tmp 63) (p := p) (D := D) (E := E) (n := nn) (c := c) (m := m) (d := d) ?_ ?_ ?_ ?_ ?_
       · with_reducible rfl
       · rfl
       · rfl
       · rfl))
  refine bodyPost_ret (v := gv p (.slice D nn c) (.slice E m d)) (results_cell_row (P := Try.prog) Try.results59 _ _ (w.heap.size + 2) 35 _ (0, 0) _ rfl (a3.setRow _ _ _) Try.underlying35 rfl box_size) rfl ?_
  exact ⟨rfl, below_setRow b2 (by omega) _⟩
end Go.Proofs.Ytpcpmeihebgncaa

/-
  What Apply of package acts answers: what the function of the action's kind answers of a screen of the call's own. Conditions: at most a thousand rows of at most a thousand cells, at most fifty lines that went.
-/
namespace Go.Proofs.Ytpcpmeihebgncaa
open Go.RowKit
set_option maxRecDepth 100000

/-- The box that is turned, the action's box, the answer's box. -/
structure AS (w : World) (cs : Array Value) (p : Nm) (r b : Value) (wx : World) : Prop where
  box : Box wx w.heap.size p r b
  act : Held wx (w.heap.size + 1) 44 cs
  ans : Box wx (w.heap.size + 2) zeroNm nilV nilV
theorem AS.start (w : World) (cs : Array Value) (p : Nm) (r b : Value) : AS w cs p r b (((w.alloc (.cells (gcs p r b) 35)).alloc (.cells cs 44)).alloc (.cells (gcs zeroNm nilV nilV) 35)) :=
  ⟨((Box.new w p r b).alloc _).alloc _, by have := (Held.new (w.alloc (.cells (gcs p r b) 35)) 44 cs).alloc (.cells (gcs zeroNm nilV nilV) 35); simpa using this, by have := Box.new ((w.alloc (.cells (gcs p r b) 35)).alloc (.cells cs 44)) zeroNm nilV nilV; simpa using this⟩
theorem AS.below {w : World} {cs : Array Value} {p : Nm} {r b : Value} {wx wy : World} (h : AS w cs p r b wx) (hb : Below wx.heap.size wx wy) : AS w cs p r b wy := ⟨h.box.below hb h.box.lt, h.act.below hb h.act.lt, h.ans.below hb h.ans.lt⟩
theorem AS.put {w : World} {cs : Array Value} {p : Nm} {r b : Value} {wx : World} (h : AS w cs p r b wx) (p' : Nm) (r' b' : Value) : AS w cs p' r' b' (wx.setRow w.heap.size (gcs p' r' b')) :=
  ⟨h.box.setRow _ _ _, (setRow_other _ _ _ _ (by omega)).trans h.act, (setRow_other _ _ _ _ (by omega)).trans h.ans⟩

set_option maxHeartbeats 4000000 in
theorem app_print (p p2 : Nm) (D E PD : Option Addr) (n c m d pn pc : Nat) (L Bk L2 Bk2 : List (List C)) (r : Int) (w : World) (hs : Scr 0 w D E n c m d L Bk) (hn : n ≤ 1000) (hm : m ≤ 50) (hl : ∀ r ∈ L, r.length ≤ 1000) (hlb : ∀ r ∈ Bk, r.length ≤ 1000)
    (hT : ∀ (B : Nat) (wx : World) (g h : Nat), Below w.heap.size w wx → OScr B wx g h L Bk → Calls Try.prog 27 #[ov p g h L Bk, .int .i32 r] wx (InPost B g wx p2 L2 Bk2)) :
    Calls Try.prog 14 #[gv p (.slice D n c) (.slice E m d), .agg #[.int .i64 1, .int .i32 r, .slice PD pn pc]] w (GridPost w p2 L2 Bk2) := by
  have HS := Lib.hid (AS.start w #[.int .i64 1, .int .i32 r, .slice PD pn pc] p (.slice D n c) (.slice E m d))
  have HB := Lib.hid (start_below w (.cells (gcs p (.slice D n c) (.slice E m d)) 35) (.cells #[.int .i64 1, .int .i32 r, .slice PD pn pc] 44) (.cells (gcs zeroNm nilV nilV) 35))
  have HO : Hid (∀ wx, Below w.heap.size w wx → Calls Try.prog 26 #[gv p (.slice D n c) (.slice E m d)] wx (OwnPost wx p L Bk)) := fun wx hb => aownS_any p D E n c m d L Bk wx (hs.below hb (Nat.le_refl _)) hn hm hl hlb
  have T : Hid (∀ (B : Nat) (wx : World) (g h : Nat), Below w.heap.size w wx → OScr B wx g h L Bk → Calls Try.prog 27 #[gv p (.slice (some ⟨g, 0, none⟩) L.length L.length) (.slice (some ⟨h, 0, none⟩) Bk.length Bk.length), .int .i32 r] wx (InPost B g wx p2 L2 Bk2)) := hT
  clear hT hs hn hm hl hlb
  unfold gv gcs
  go_enter Try.func14, Try.ntmps14
  go_upto_region 1 with fail
  refine wp_world (fun wq => AS w #[.int .i64 1, .int .i32 r, .slice PD pn pc] p (.slice D n c) (.slice E m d) wq ∧ Below w.heap.size w wq) ⟨HS.out, HB.out⟩ ?_
  clear HS HB
  rintro w2 ⟨ps, b2⟩
  have xg := ps.box
  have hz2 := ps.ans.lt
  go_upto_region 2 with (first
    | (with_reducible refine wpList_loadB xg (x := .tmp 2) ?_ ?_ ?_ ?_
       · with_reducible rfl
       · rfl
       · rfl)
    | (go_at_call 26
       refine (HO.out w2 b2).mono ?_
       rintro e w3 ⟨g, h, rfl, s3, b3⟩
       have p3 := ps.below b3
       have x3 := p3.box)
    | (with_reducible refine wpList_storeA x3 (x := .tmp 2) (y := .tmp 6) (p := p) (D := some ⟨g, 0, none⟩) (E := some ⟨h, 0, none⟩) (n := L.length) (c := L.length) (m := Bk.length) (d := Bk.length) ?_ ?_ ?_ ?_ ?_
       · with_reducible rfl
       · rfl
       · rfl
       · rfl))
  have hgl := s3.rows.low
  refine wp_world (fun wq => AS w #[.int .i64 1, .int .i32 r, .slice PD pn pc] p (.slice (some ⟨g, 0, none⟩) L.length L.length) (.slice (some ⟨h, 0, none⟩) Bk.length Bk.length) wq ∧ OScr w2.heap.size wq g h L Bk ∧ Below w.heap.size w wq) ⟨p3.put p _ _, s3.bput x3 _, below_setRow (b2.trans (b3.mono b2.size)) (Nat.le_refl _) _⟩ ?_
  clear ps xg p3 s3 x3 b3 HO b2
  rintro w4 ⟨p4, s4, b4⟩
  have u0 := p4.act.cell 0
  have u1 := p4.act.cell 1
  have u2 := p4.act.cell 2
  have x4 := p4.box
  simp only [List.getElem?_toArray, List.getElem?_cons_zero, List.getElem?_cons_succ] at u0 u1 u2
  go_wp2_with (first
    | (with_reducible refine wpList_loadB x4 (x := .tmp 2) ?_ ?_ ?_ ?_
       · with_reducible rfl
       · rfl
       · rfl)
    | (go_at_call 27
       refine (T.out w2.heap.size w4 g h b4 s4).mono ?_
       rintro e w5 ⟨g5, h5, rfl, s5, c5⟩
       have a5 := c5.box p4.ans (by omega))
    | (with_reducible refine wpList_storeA a5 (x := .tmp 4) (y := .tmp 14) (p := p2) (D := some ⟨g5, 0, none⟩) (E := some ⟨h5, 0, none⟩) (n := L2.length) (c := L2.length) (m := Bk2.length) (d := Bk2.length) ?_ ?_ ?_ ?_ ?_
       · with_reducible rfl
       · rfl
       · rfl
       · rfl))
  refine bodyPost_ret (v := gv p2 (.slice (some ⟨g5, 0, none⟩) L2.length L2.length) (.slice (some ⟨h5, 0, none⟩) Bk2.length Bk2.length)) (results_cell_row (P := Try.prog) Try.results14 _ _ (w.heap.size + 2) 35 _ (0, 0) _ rfl (a5.setRow _ _ _) Try.underlying35 rfl box_size) rfl ?_
  exact ⟨_, _, _, _, _, _, rfl, ((s5.bput a5 _).weak (by omega)).scr, below_setRow (c5.below (by omega) b4) (by omega) _⟩

set_option maxHeartbeats 4000000 in
theorem app_ctl (p p2 : Nm) (D E PD : Option Addr) (n c m d pn pc : Nat) (L Bk L2 Bk2 : List (List C)) (r : Int) (w : World) (hs : Scr 0 w D E n c m d L Bk) (hn : n ≤ 1000) (hm : m ≤ 50) (hl : ∀ r ∈ L, r.length ≤ 1000) (hlb : ∀ r ∈ Bk, r.length ≤ 1000)
    (hT : ∀ (B : Nat) (wx : World) (g h : Nat), Below w.heap.size w wx → OScr B wx g h L Bk → Calls Try.prog 28 #[ov p g h L Bk, .int .i32 r] wx (InPost B g wx p2 L2 Bk2)) :
    Calls Try.prog 14 #[gv p (.slice D n c) (.slice E m d), .agg #[.int .i64 2, .int .i32 r, .slice PD pn pc]] w (GridPost w p2 L2 Bk2) := by
  have HS := Lib.hid (AS.start w #[.int .i64 2, .int .i32 r, .slice PD pn pc] p (.slice D n c) (.slice E m d))
  have HB := Lib.hid (start_below w (.cells (gcs p (.slice D n c) (.slice E m d)) 35) (.cells #[.int .i64 2, .int .i32 r, .slice PD pn pc] 44) (.cells (gcs zeroNm nilV nilV) 35))
  have HO : Hid (∀ wx, Below w.heap.size w wx → Calls Try.prog 26 #[gv p (.slice D n c) (.slice E m d)] wx (OwnPost wx p L Bk)) := fun wx hb => aownS_any p D E n c m d L Bk wx (hs.below hb (Nat.le_refl _)) hn hm hl hlb
  have T : Hid (∀ (B : Nat) (wx : World) (g h : Nat), Below w.heap.size w wx → OScr B wx g h L Bk → Calls Try.prog 28 #[gv p (.slice (some ⟨g, 0, none⟩) L.length L.length) (.slice (some ⟨h, 0, none⟩) Bk.length Bk.length), .int .i32 r] wx (InPost B g wx p2 L2 Bk2)) := hT
  clear hT hs hn hm hl hlb
  unfold gv gcs
  go_enter Try.func14, Try.ntmps14
  go_upto_region 1 with fail
  refine wp_world (fun wq => AS w #[.int .i64 2, .int .i32 r, .slice PD pn pc] p (.slice D n c) (.slice E m d) wq ∧ Below w.heap.size w wq) ⟨HS.out, HB.out⟩ ?_
  clear HS HB
  rintro w2 ⟨ps, b2⟩
  have xg := ps.box
  have hz2 := ps.ans.lt
  go_upto_region 2 with (first
    | (with_reducible refine wpList_loadB xg (x := .tmp 2) ?_ ?_ ?_ ?_
       · with_reducible rfl
       · rfl
       · rfl)
    | (go_at_call 26
       refine (HO.out w2 b2).mono ?_
       rintro e w3 ⟨g, h, rfl, s3, b3⟩
       have p3 := ps.below b3
       have x3 := p3.box)
    | (with_reducible refine wpList_storeA x3 (x := .tmp 2) (y := .tmp 6) (p := p) (D := some ⟨g, 0, none⟩) (E := some ⟨h, 0, none⟩) (n := L.length) (c := L.length) (m := Bk.length) (d := Bk.length) ?_ ?_ ?_ ?_ ?_
       · with_reducible rfl
       · rfl
       · rfl
       · rfl))
  have hgl := s3.rows.low
  refine wp_world (fun wq => AS w #[.int .i64 2, .int .i32 r, .slice PD pn pc] p (.slice (some ⟨g, 0, none⟩) L.length L.length) (.slice (some ⟨h, 0, none⟩) Bk.length Bk.length) wq ∧ OScr w2.heap.size wq g h L Bk ∧ Below w.heap.size w wq) ⟨p3.put p _ _, s3.bput x3 _, below_setRow (b2.trans (b3.mono b2.size)) (Nat.le_refl _) _⟩ ?_
  clear ps xg p3 s3 x3 b3 HO b2
  rintro w4 ⟨p4, s4, b4⟩
  have u0 := p4.act.cell 0
  have u1 := p4.act.cell 1
  have u2 := p4.act.cell 2
  have x4 := p4.box
  simp only [List.getElem?_toArray, List.getElem?_cons_zero, List.getElem?_cons_succ] at u0 u1 u2
  go_wp2_with (first
    | (with_reducible refine wpList_loadB x4 (x := .tmp 2) ?_ ?_ ?_ ?_
       · with_reducible rfl
       · rfl
       · rfl)
    | (go_at_call 28
       refine (T.out w2.heap.size w4 g h b4 s4).mono ?_
       rintro e w5 ⟨g5, h5, rfl, s5, c5⟩
       have a5 := c5.box p4.ans (by omega))
    | (with_reducible refine wpList_storeA a5 (x := .tmp 4) (y := .tmp 20) (p := p2) (D := some ⟨g5, 0, none⟩) (E := some ⟨h5, 0, none⟩) (n := L2.length) (c := L2.length) (m := Bk2.length) (d := Bk2.length) ?_ ?_ ?_ ?_ ?_
       · with_reducible rfl
       · rfl
       · rfl
       · rfl))
  refine bodyPost_ret (v := gv p2 (.slice (some ⟨g5, 0, none⟩) L2.length L2.length) (.slice (some ⟨h5, 0, none⟩) Bk2.length Bk2.length)) (results_cell_row (P := Try.prog) Try.results14 _ _ (w.heap.size + 2) 35 _ (0, 0) _ rfl (a5.setRow _ _ _) Try.underlying35 rfl box_size) rfl ?_
  exact ⟨_, _, _, _, _, _, rfl, ((s5.bput a5 _).weak (by omega)).scr, below_setRow (c5.below (by omega) b4) (by omega) _⟩

set_option maxHeartbeats 4000000 in
theorem app_esc (p p2 : Nm) (D E PD : Option Addr) (n c m d pn pc : Nat) (L Bk L2 Bk2 : List (List C)) (r : Int) (w : World) (hs : Scr 0 w D E n c m d L Bk) (hn : n ≤ 1000) (hm : m ≤ 50) (hl : ∀ r ∈ L, r.length ≤ 1000) (hlb : ∀ r ∈ Bk, r.length ≤ 1000)
    (hT : ∀ (B : Nat) (wx : World) (g h : Nat), Below w.heap.size w wx → OScr B wx g h L Bk → Calls Try.prog 29 #[ov p g h L Bk, .int .i32 r] wx (InPost B g wx p2 L2 Bk2)) :
    Calls Try.prog 14 #[gv p (.slice D n c) (.slice E m d), .agg #[.int .i64 3, .int .i32 r, .slice PD pn pc]] w (GridPost w p2 L2 Bk2) := by
  have HS := Lib.hid (AS.start w #[.int .i64 3, .int .i32 r, .slice PD pn pc] p (.slice D n c) (.slice E m d))
  have HB := Lib.hid (start_below w (.cells (gcs p (.slice D n c) (.slice E m d)) 35) (.cells #[.int .i64 3, .int .i32 r, .slice PD pn pc] 44) (.cells (gcs zeroNm nilV nilV) 35))
  have HO : Hid (∀ wx, Below w.heap.size w wx → Calls Try.prog 26 #[gv p (.slice D n c) (.slice E m d)] wx (OwnPost wx p L Bk)) := fun wx hb => aownS_any p D E n c m d L Bk wx (hs.below hb (Nat.le_refl _)) hn hm hl hlb
  have T : Hid (∀ (B : Nat) (wx : World) (g h : Nat), Below w.heap.size w wx → OScr B wx g h L Bk → Calls Try.prog 29 #[gv p (.slice (some ⟨g, 0, none⟩) L.length L.length) (.slice (some ⟨h, 0, none⟩) Bk.length Bk.length), .int .i32 r] wx (InPost B g wx p2 L2 Bk2)) := hT
  clear hT hs hn hm hl hlb
  unfold gv gcs
  go_enter Try.func14, Try.ntmps14
  go_upto_region 1 with fail
  refine wp_world (fun wq => AS w #[.int .i64 3, .int .i32 r, .slice PD pn pc] p (.slice D n c) (.slice E m d) wq ∧ Below w.heap.size w wq) ⟨HS.out, HB.out⟩ ?_
  clear HS HB
  rintro w2 ⟨ps, b2⟩
  have xg := ps.box
  have hz2 := ps.ans.lt
  go_upto_region 2 with (first
    | (with_reducible refine wpList_loadB xg (x := .tmp 2) ?_ ?_ ?_ ?_
       · with_reducible rfl
       · rfl
       · rfl)
    | (go_at_call 26
       refine (HO.out w2 b2).mono ?_
       rintro e w3 ⟨g, h, rfl, s3, b3⟩
       have p3 := ps.below b3
       have x3 := p3.box)
    | (with_reducible refine wpList_storeA x3 (x := .tmp 2) (y := .tmp 6) (p := p) (D := some ⟨g, 0, none⟩) (E := some ⟨h, 0, none⟩) (n := L.length) (c := L.length) (m := Bk.length) (d := Bk.length) ?_ ?_ ?_ ?_ ?_
       · with_reducible rfl
       · rfl
       · rfl
       · rfl))
  have hgl := s3.rows.low
  refine wp_world (fun wq => AS w #[.int .i64 3, .int .i32 r, .slice PD pn pc] p (.slice (some ⟨g, 0, none⟩) L.length L.length) (.slice (some ⟨h, 0, none⟩) Bk.length Bk.length) wq ∧ OScr w2.heap.size wq g h L Bk ∧ Below w.heap.size w wq) ⟨p3.put p _ _, s3.bput x3 _, below_setRow (b2.trans (b3.mono b2.size)) (Nat.le_refl _) _⟩ ?_
  clear ps xg p3 s3 x3 b3 HO b2
  rintro w4 ⟨p4, s4, b4⟩
  have u0 := p4.act.cell 0
  have u1 := p4.act.cell 1
  have u2 := p4.act.cell 2
  have x4 := p4.box
  simp only [List.getElem?_toArray, List.getElem?_cons_zero, List.getElem?_cons_succ] at u0 u1 u2
  go_wp2_with (first
    | (with_reducible refine wpList_loadB x4 (x := .tmp 2) ?_ ?_ ?_ ?_
       · with_reducible rfl
       · rfl
       · rfl)
    | (go_at_call 29
       refine (T.out w2.heap.size w4 g h b4 s4).mono ?_
       rintro e w5 ⟨g5, h5, rfl, s5, c5⟩
       have a5 := c5.box p4.ans (by omega))
    | (with_reducible refine wpList_storeA a5 (x := .tmp 4) (y := .tmp 26) (p := p2) (D := some ⟨g5, 0, none⟩) (E := some ⟨h5, 0, none⟩) (n := L2.length) (c := L2.length) (m := Bk2.length) (d := Bk2.length) ?_ ?_ ?_ ?_ ?_
       · with_reducible rfl
       · rfl
       · rfl
       · rfl))
  refine bodyPost_ret (v := gv p2 (.slice (some ⟨g5, 0, none⟩) L2.length L2.length) (.slice (some ⟨h5, 0, none⟩) Bk2.length Bk2.length)) (results_cell_row (P := Try.prog) Try.results14 _ _ (w.heap.size + 2) 35 _ (0, 0) _ rfl (a5.setRow _ _ _) Try.underlying35 rfl box_size) rfl ?_
  exact ⟨_, _, _, _, _, _, rfl, ((s5.bput a5 _).weak (by omega)).scr, below_setRow (c5.below (by omega) b4) (by omega) _⟩

set_option maxHeartbeats 4000000 in
theorem app_csi (p p2 : Nm) (D E PD : Option Addr) (n c m d pn pc : Nat) (L Bk L2 Bk2 : List (List C)) (r : Int) (w : World) (hs : Scr 0 w D E n c m d L Bk) (hn : n ≤ 1000) (hm : m ≤ 50) (hl : ∀ r ∈ L, r.length ≤ 1000) (hlb : ∀ r ∈ Bk, r.length ≤ 1000)
    (hT : ∀ (B : Nat) (wx : World) (g h : Nat), Below w.heap.size w wx → OScr B wx g h L Bk → Calls Try.prog 30 #[ov p g h L Bk, .int .i32 r, .slice PD pn pc] wx (InPost B g wx p2 L2 Bk2)) :
    Calls Try.prog 14 #[gv p (.slice D n c) (.slice E m d), .agg #[.int .i64 4, .int .i32 r, .slice PD pn pc]] w (GridPost w p2 L2 Bk2) := by
  have HS := Lib.hid (AS.start w #[.int .i64 4, .int .i32 r, .slice PD pn pc] p (.slice D n c) (.slice E m d))
  have HB := Lib.hid (start_below w (.cells (gcs p (.slice D n c) (.slice E m d)) 35) (.cells #[.int .i64 4, .int .i32 r, .slice PD pn pc] 44) (.cells (gcs zeroNm nilV nilV) 35))
  have HO : Hid (∀ wx, Below w.heap.size w wx → Calls Try.prog 26 #[gv p (.slice D n c) (.slice E m d)] wx (OwnPost wx p L Bk)) := fun wx hb => aownS_any p D E n c m d L Bk wx (hs.below hb (Nat.le_refl _)) hn hm hl hlb
  have T : Hid (∀ (B : Nat) (wx : World) (g h : Nat), Below w.heap.size w wx → OScr B wx g h L Bk → Calls Try.prog 30 #[gv p (.slice (some ⟨g, 0, none⟩) L.length L.length) (.slice (some ⟨h, 0, none⟩) Bk.length Bk.length), .int .i32 r, .slice PD pn pc] wx (InPost B g wx p2 L2 Bk2)) := hT
  clear hT hs hn hm hl hlb
  unfold gv gcs
  go_enter Try.func14, Try.ntmps14
  go_upto_region 1 with fail
  refine wp_world (fun wq => AS w #[.int .i64 4, .int .i32 r, .slice PD pn pc] p (.slice D n c) (.slice E m d) wq ∧ Below w.heap.size w wq) ⟨HS.out, HB.out⟩ ?_
  clear HS HB
  rintro w2 ⟨ps, b2⟩
  have xg := ps.box
  have hz2 := ps.ans.lt
  go_upto_region 2 with (first
    | (with_reducible refine wpList_loadB xg (x := .tmp 2) ?_ ?_ ?_ ?_
       · with_reducible rfl
       · rfl
       · rfl)
    | (go_at_call 26
       refine (HO.out w2 b2).mono ?_
       rintro e w3 ⟨g, h, rfl, s3, b3⟩
       have p3 := ps.below b3
       have x3 := p3.box)
    | (with_reducible refine wpList_storeA x3 (x := .tmp 2) (y := .tmp 6) (p := p) (D := some ⟨g, 0, none⟩) (E := some ⟨h, 0, none⟩) (n := L.length) (c := L.length) (m := Bk.length) (d := Bk.length) ?_ ?_ ?_ ?_ ?_
       · with_reducible rfl
       · rfl
       · rfl
       · rfl))
  have hgl := s3.rows.low
  refine wp_world (fun wq => AS w #[.int .i64 4, .int .i32 r, .slice PD pn pc] p (.slice (some ⟨g, 0, none⟩) L.length L.length) (.slice (some ⟨h, 0, none⟩) Bk.length Bk.length) wq ∧ OScr w2.heap.size wq g h L Bk ∧ Below w.heap.size w wq) ⟨p3.put p _ _, s3.bput x3 _, below_setRow (b2.trans (b3.mono b2.size)) (Nat.le_refl _) _⟩ ?_
  clear ps xg p3 s3 x3 b3 HO b2
  rintro w4 ⟨p4, s4, b4⟩
  have u0 := p4.act.cell 0
  have u1 := p4.act.cell 1
  have u2 := p4.act.cell 2
  have x4 := p4.box
  simp only [List.getElem?_toArray, List.getElem?_cons_zero, List.getElem?_cons_succ] at u0 u1 u2
  go_wp2_with (first
    | (with_reducible refine wpList_loadB x4 (x := .tmp 2) ?_ ?_ ?_ ?_
       · with_reducible rfl
       · rfl
       · rfl)
    | (go_at_call 30
       refine (T.out w2.heap.size w4 g h b4 s4).mono ?_
       rintro e w5 ⟨g5, h5, rfl, s5, c5⟩
       have a5 := c5.box p4.ans (by omega))
    | (with_reducible refine wpList_storeA a5 (x := .tmp 4) (y := .tmp 34) (p := p2) (D := some ⟨g5, 0, none⟩) (E := some ⟨h5, 0, none⟩) (n := L2.length) (c := L2.length) (m := Bk2.length) (d := Bk2.length) ?_ ?_ ?_ ?_ ?_
       · with_reducible rfl
       · rfl
       · rfl
       · rfl))
  refine bodyPost_ret (v := gv p2 (.slice (some ⟨g5, 0, none⟩) L2.length L2.length) (.slice (some ⟨h5, 0, none⟩) Bk2.length Bk2.length)) (results_cell_row (P := Try.prog) Try.results14 _ _ (w.heap.size + 2) 35 _ (0, 0) _ rfl (a5.setRow _ _ _) Try.underlying35 rfl box_size) rfl ?_
  exact ⟨_, _, _, _, _, _, rfl, ((s5.bput a5 _).weak (by omega)).scr, below_setRow (c5.below (by omega) b4) (by omega) _⟩

set_option maxHeartbeats 4000000 in
theorem app_priv (p p2 : Nm) (D E PD : Option Addr) (n c m d pn pc : Nat) (L Bk L2 Bk2 : List (List C)) (r : Int) (w : World) (hs : Scr 0 w D E n c m d L Bk) (hn : n ≤ 1000) (hm : m ≤ 50) (hl : ∀ r ∈ L, r.length ≤ 1000) (hlb : ∀ r ∈ Bk, r.length ≤ 1000)
    (hT : ∀ (B : Nat) (wx : World) (g h : Nat), Below w.heap.size w wx → OScr B wx g h L Bk → Calls Try.prog 31 #[ov p g h L Bk, .int .i32 r, .slice PD pn pc] wx (InPost B g wx p2 L2 Bk2)) :
    Calls Try.prog 14 #[gv p (.slice D n c) (.slice E m d), .agg #[.int .i64 5, .int .i32 r, .slice PD pn pc]] w (GridPost w p2 L2 Bk2) := by
  have HS := Lib.hid (AS.start w #[.int .i64 5, .int .i32 r, .slice PD pn pc] p (.slice D n c) (.slice E m d))
  have HB := Lib.hid (start_below w (.cells (gcs p (.slice D n c) (.slice E m d)) 35) (.cells #[.int .i64 5, .int .i32 r, .slice PD pn pc] 44) (.cells (gcs zeroNm nilV nilV) 35))
  have HO : Hid (∀ wx, Below w.heap.size w wx → Calls Try.prog 26 #[gv p (.slice D n c) (.slice E m d)] wx (OwnPost wx p L Bk)) := fun wx hb => aownS_any p D E n c m d L Bk wx (hs.below hb (Nat.le_refl _)) hn hm hl hlb
  have T : Hid (∀ (B : Nat) (wx : World) (g h : Nat), Below w.heap.size w wx → OScr B wx g h L Bk → Calls Try.prog 31 #[gv p (.slice (some ⟨g, 0, none⟩) L.length L.length) (.slice (some ⟨h, 0, none⟩) Bk.length Bk.length), .int .i32 r, .slice PD pn pc] wx (InPost B g wx p2 L2 Bk2)) := hT
  clear hT hs hn hm hl hlb
  unfold gv gcs
  go_enter Try.func14, Try.ntmps14
  go_upto_region 1 with fail
  refine wp_world (fun wq => AS w #[.int .i64 5, .int .i32 r, .slice PD pn pc] p (.slice D n c) (.slice E m d) wq ∧ Below w.heap.size w wq) ⟨HS.out, HB.out⟩ ?_
  clear HS HB
  rintro w2 ⟨ps, b2⟩
  have xg := ps.box
  have hz2 := ps.ans.lt
  go_upto_region 2 with (first
    | (with_reducible refine wpList_loadB xg (x := .tmp 2) ?_ ?_ ?_ ?_
       · with_reducible rfl
       · rfl
       · rfl)
    | (go_at_call 26
       refine (HO.out w2 b2).mono ?_
       rintro e w3 ⟨g, h, rfl, s3, b3⟩
       have p3 := ps.below b3
       have x3 := p3.box)
    | (with_reducible refine wpList_storeA x3 (x := .tmp 2) (y := .tmp 6) (p := p) (D := some ⟨g, 0, none⟩) (E := some ⟨h, 0, none⟩) (n := L.length) (c := L.length) (m := Bk.length) (d := Bk.length) ?_ ?_ ?_ ?_ ?_
       · with_reducible rfl
       · rfl
       · rfl
       · rfl))
  have hgl := s3.rows.low
  refine wp_world (fun wq => AS w #[.int .i64 5, .int .i32 r, .slice PD pn pc] p (.slice (some ⟨g, 0, none⟩) L.length L.length) (.slice (some ⟨h, 0, none⟩) Bk.length Bk.length) wq ∧ OScr w2.heap.size wq g h L Bk ∧ Below w.heap.size w wq) ⟨p3.put p _ _, s3.bput x3 _, below_setRow (b2.trans (b3.mono b2.size)) (Nat.le_refl _) _⟩ ?_
  clear ps xg p3 s3 x3 b3 HO b2
  rintro w4 ⟨p4, s4, b4⟩
  have u0 := p4.act.cell 0
  have u1 := p4.act.cell 1
  have u2 := p4.act.cell 2
  have x4 := p4.box
  simp only [List.getElem?_toArray, List.getElem?_cons_zero, List.getElem?_cons_succ] at u0 u1 u2
  go_wp2_with (first
    | (with_reducible refine wpList_loadB x4 (x := .tmp 2) ?_ ?_ ?_ ?_
       · with_reducible rfl
       · rfl
       · rfl)
    | (go_at_call 31
       refine (T.out w2.heap.size w4 g h b4 s4).mono ?_
       rintro e w5 ⟨g5, h5, rfl, s5, c5⟩
       have a5 := c5.box p4.ans (by omega))
    | (with_reducible refine wpList_storeA a5 (x := .tmp 4) (y := .tmp 42) (p := p2) (D := some ⟨g5, 0, none⟩) (E := some ⟨h5, 0, none⟩) (n := L2.length) (c := L2.length) (m := Bk2.length) (d := Bk2.length) ?_ ?_ ?_ ?_ ?_
       · with_reducible rfl
       · rfl
       · rfl
       · rfl))
  refine bodyPost_ret (v := gv p2 (.slice (some ⟨g5, 0, none⟩) L2.length L2.length) (.slice (some ⟨h5, 0, none⟩) Bk2.length Bk2.length)) (results_cell_row (P := Try.prog) Try.results14 _ _ (w.heap.size + 2) 35 _ (0, 0) _ rfl (a5.setRow _ _ _) Try.underlying35 rfl box_size) rfl ?_
  exact ⟨_, _, _, _, _, _, rfl, ((s5.bput a5 _).weak (by omega)).scr, below_setRow (c5.below (by omega) b4) (by omega) _⟩
end Go.Proofs.Ytpcpmeihebgncaa
