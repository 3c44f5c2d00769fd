/-
  A pane in memory: where it is in an escape, and its screen, twenty-three cells in one block; whole, or one of its two parts, out of and into it. No condition.
-/
import Derived.Test.YtpcpmeihebgncaaB1
import Derived.Test.YtpcpmeihebgncaaB3
import Derived.Deep.MidRow
import Derived.Test.YtpcpmeihebgncaaB5
import Derived.Deep.RegionHeld3
import Derived.Deep.Cut
import Derived.Deep.DeepCutAuto
import Derived.Test.YtpcpmeihebgncaaB6
import Derived.Deep.QuietTactic
import Derived.BigQuiet
import Derived.Lib.SmallJoins
namespace Go.Proofs.Ytpcpmeihebgncaa
open Go.RowKit
set_option maxRecDepth 100000

def pcs (e : Esca.E) (P : Value) (p : Nm) (r b : Value) : Array Value := #[.int .i64 e.mode, .int .i64 e.u.n, .int .i64 e.u.m, .int .i64 e.u.g, P, .int .i64 e.num, .bool e.priv, .bool e.skip, .int .i64 p.w, .int .i64 p.h, .int .i64 p.x, .int .i64 p.y, .bool p.wrap, .int .i64 p.a, .int .i64 p.top, .int .i64 p.bottom, .int .i64 p.sx, .int .i64 p.sy, .int .i64 p.sa, .bool p.noWrap, .bool p.hidden, r, b]
def pv (e : Esca.E) (P : Value) (p : Nm) (r b : Value) : Value := .agg (pcs e P p r b)
def PBox (w : World) (g : Nat) (e : Esca.E) (P : Value) (p : Nm) (r b : Value) : Prop := Held w g 37 (pcs e P p r b)
theorem pcs_size (e : Esca.E) (P : Value) (p : Nm) (r b : Value) : (pcs e P p r b).size = 23 := rfl
theorem pcs_one (e : Esca.E) (p : Nm) (F D E : Option Addr) (f q n c m d : Nat) : (pcs e (.slice F f q) p (.slice D n c) (.slice E m d)).all (·.oneCell') = true := by simp [pcs, Value.oneCell']
theorem escC_one (e : Esca.E) (F : Option Addr) (f q : Nat) : (Esca.escC e (.slice F f q)).all (·.oneCell') = true := by simp [Esca.escC, Value.oneCell']
theorem pbox_size : (Try.prog.info? 37).map (·.size) = some 23 := by kernel_rfl
theorem ebox_size : (Try.prog.info? 32).map (·.size) = some 8 := by kernel_rfl
theorem PBox.lt {w : World} {g : Nat} {e : Esca.E} {P : Value} {p : Nm} {r b : Value} (h : PBox w g e P p r b) : g < w.heap.size := Held.lt h
theorem PBox.below {w w' : World} {g C : Nat} {e : Esca.E} {P : Value} {p : Nm} {r b : Value} (h : PBox w g e P p r b) (hb : Below C w w') (hC : g < C) : PBox w' g e P p r b := Held.below h hb hC
theorem PBox.alloc {w : World} {g : Nat} {e : Esca.E} {P : Value} {p : Nm} {r b : Value} (h : PBox w g e P p r b) (o : Obj) : PBox (w.alloc o) g e P p r b := Held.alloc h o
theorem PBox.new (w : World) (e : Esca.E) (P : Value) (p : Nm) (r b : Value) : PBox (w.alloc (.cells (pcs e P p r b) 37)) w.heap.size e P p r b := Held.new _ _ _
theorem PBox.drew {w : World} {g : Nat} {e : Esca.E} {P : Value} {p : Nm} {r b : Value} (h : PBox w g e P p r b) : PBox w.drew g e P p r b := h
theorem PBox.other {w : World} {g k : Nat} {e : Esca.E} {P : Value} {p : Nm} {r b : Value} (h : PBox w g e P p r b) (hk : g ≠ k) (cs : Array Value) : PBox (w.setRow k cs) g e P p r b := (setRow_other _ _ _ _ hk).trans h
theorem PBox.setRow {w : World} {g : Nat} {e : Esca.E} {P : Value} {p : Nm} {r b : Value} (h : PBox w g e P p r b) (e' : Esca.E) (P' : Value) (p' : Nm) (r' b' : Value) : PBox (w.setRow g (pcs e' P' p' r' b')) g e' P' p' r' b' := setRow_heap w g _ _ 37 (0, 0) h
/-- Cells, from a place on, are others. -/
def setMany (cs : Array Value) : Nat → List Value → Array Value
  | _, [] => cs
  | o, v :: r => setMany (cs.setIfInBounds o v) (o + 1) r
theorem setCells_row (g : Nat) (t : TypeId) : ∀ (vs : List Value) (o : Nat) (w : World) (cs : Array Value), w.heap[g]? = some (.cells cs t (0, 0)) → w.setCells g o vs = w.setRow g (setMany cs o vs)
  | [], o, w, cs, h => (setRow_self w g cs t (0, 0) h).symm
  | v :: r, o, w, cs, h => by
    show (w.setCell ⟨g, o, none⟩ v).setCells g (o + 1) r = _
    rw [setCells_row g t r (o + 1) _ (cs.setIfInBounds o v) (heap_setCell_same w g o cs t v h), setCell_eq_setRow w g o cs t (0, 0) v h, setRow_setRow]
    rfl
theorem pbox_range {w : World} {g : Nat} {cs : Array Value} {t : TypeId} (h : Held w g t cs) (o : Nat) (vs : List Value) (hv : ∀ j, j < vs.length → cs[o + j]? = vs[j]?) : w.rangeAt g o vs := fun j v hj => by
  rw [Held.cell h, hv j ((List.getElem?_eq_some_iff.1 hj).1), hj]
theorem pbox_there {w : World} {g : Nat} {cs : Array Value} {t : TypeId} (h : Held w g t cs) (o n : Nat) (hn : o + n ≤ cs.size) : w.there g o n := fun j hj => by
  refine ⟨?_, h.frozen _⟩
  rw [Held.cell h]
  simp; omega
theorem pe_at (e : Esca.E) (P : Value) (p : Nm) (r b : Value) : ∀ j, j < (Esca.escC e P).toList.length → (pcs e P p r b)[0 + j]? = (Esca.escC e P).toList[j]? := by
  intro j hj
  simp only [Esca.escC, List.length_cons, List.length_nil] at hj
  match j, hj with
  | 0, _ => rfl
  | 1, _ => rfl
  | 2, _ => rfl
  | 3, _ => rfl
  | 4, _ => rfl
  | 5, _ => rfl
  | 6, _ => rfl
  | 7, _ => rfl
theorem pg_at (e : Esca.E) (P : Value) (p : Nm) (r b : Value) : ∀ j, j < (gcs p r b).toList.length → (pcs e P p r b)[8 + j]? = (gcs p r b).toList[j]? := by
  intro j hj
  simp only [gcs, List.length_cons, List.length_nil] at hj
  match j, hj with
  | 0, _ => rfl
  | 1, _ => rfl
  | 2, _ => rfl
  | 3, _ => rfl
  | 4, _ => rfl
  | 5, _ => rfl
  | 6, _ => rfl
  | 7, _ => rfl
  | 8, _ => rfl
  | 9, _ => rfl
  | 10, _ => rfl
  | 11, _ => rfl
  | 12, _ => rfl
  | 13, _ => rfl
  | 14, _ => rfl
theorem put_e (e e' : Esca.E) (P P' : Value) (p : Nm) (r b : Value) : setMany (pcs e P p r b) 0 (Esca.escC e' P').toList = pcs e' P' p r b := by
  simp only [setMany, pcs, Esca.escC, List.setIfInBounds_toArray, List.set_cons_zero, List.set_cons_succ, Nat.reduceAdd]
theorem put_g (e : Esca.E) (P : Value) (p p' : Nm) (r b r' b' : Value) : setMany (pcs e P p r b) 8 (gcs p' r' b').toList = pcs e P p' r' b' := by
  simp only [setMany, pcs, gcs, List.setIfInBounds_toArray, List.set_cons_zero, List.set_cons_succ, Nat.reduceAdd]

section
variable {ops : Array Oper} {rest : List Oper} {o : Oper} {a : Act} {w : World} {Q : Exit → Act → World → Prop} {K : Act → World → Prop} {x y : Operand} {g : Nat} {e e' : Esca.E} {P : Value} {p p' : Nm} {r b : Value}
/-- A whole pane is read. -/
theorem wpList_loadP (h : PBox w g e P p r b) (ho : o.op = .load 37 x) (hw : Region.wanted o (yielded ops a.tmps) = true) (hx : a.eval x = .pointer (some ⟨g, 0, none⟩))
    (k : wpList Try.prog ops Q rest (a.put o.dst (pv e P p r b)) w) : wpList Try.prog ops Q (o :: rest) a w :=
  wpList_step fun _ hK => by
    rw [if_pos hw]
    exact wp_load_row 37 x ho g hx 37 (pcs e P p r b) (0, 0) _ h Try.underlying37 rfl pbox_size (hK _ _ k)
/-- Its place in an escape is read. -/
theorem wpList_loadPE (h : PBox w g e P p r b) (ho : o.op = .load 32 x) (hw : Region.wanted o (yielded ops a.tmps) = true) (hx : a.eval x = .pointer (some ⟨g, 0, none⟩))
    (k : wpList Try.prog ops Q rest (a.put o.dst (Esca.escV e P)) w) : wpList Try.prog ops Q (o :: rest) a w :=
  wpList_step fun _ hK => by
    rw [if_pos hw]
    exact wp_load_mid 32 x ho g 0 hx (Esca.escC e P).toList _ (pbox_range h 0 _ (pe_at e P p r b)) Try.underlying32 rfl ebox_size (hK _ _ k)
/-- Its screen is read. -/
theorem wpList_loadPG (h : PBox w g e P p r b) (ho : o.op = .load 35 x) (hw : Region.wanted o (yielded ops a.tmps) = true) (hx : a.eval x = .pointer (some ⟨g, 8, none⟩))
    (k : wpList Try.prog ops Q rest (a.put o.dst (gv p r b)) w) : wpList Try.prog ops Q (o :: rest) a w :=
  wpList_step fun _ hK => by
    rw [if_pos hw]
    exact wp_load_mid 35 x ho g 8 hx (gcs p r b).toList _ (pbox_range h 8 _ (pg_at e P p r b)) Try.underlying35 rfl box_size (hK _ _ k)
/-- The same two in a region that draws its order. -/
theorem yields_loadPE {S : World → Prop} (hw : Region.wanted o (yielded ops a.tmps) = true) (ho : o.op = .load 32 x) (hx : a.eval x = .pointer (some ⟨g, 0, none⟩)) (hS : ∀ w, S w → PBox w g e P p r b) : YieldsIf Try.prog ops S o (Esca.escV e P) a :=
  yieldsIf_load_mid hw 32 x ho g 0 hx (Esca.escC e P).toList _ (fun w h => pbox_range (hS w h) 0 _ (pe_at e P p r b)) Try.underlying32 rfl ebox_size
theorem yields_loadPG {S : World → Prop} (hw : Region.wanted o (yielded ops a.tmps) = true) (ho : o.op = .load 35 x) (hx : a.eval x = .pointer (some ⟨g, 8, none⟩)) (hS : ∀ w, S w → PBox w g e P p r b) : YieldsIf Try.prog ops S o (gv p r b) a :=
  yieldsIf_load_mid hw 35 x ho g 8 hx (gcs p r b).toList _ (fun w h => pbox_range (hS w h) 8 _ (pg_at e P p r b)) Try.underlying35 rfl box_size
/-- A whole pane is stored where one lies. -/
theorem wp_storeP {F D E : Option Addr} {f q n c m d : Nat} {P0 r0 b0 : Value} (h : PBox w g e P0 p r0 b0) (ho : o.op = .store 37 x y) (hx : a.eval x = .pointer (some ⟨g, 0, none⟩)) (hy : a.eval y = pv e' (.slice F f q) p' (.slice D n c) (.slice E m d))
    (k : K (a.put o.dst undef) (w.setRow g (pcs e' (.slice F f q) p' (.slice D n c) (.slice E m d)))) : Oper.wp Try.prog o a w K Q :=
  wp_store_row 37 x y ho g _ hx hy 37 _ h pbox_size (pcs_size _ _ _ _ _) (pcs_one _ _ _ _ _ _ _ _ _ _ _) k
theorem wpList_storeP {F D E : Option Addr} {f q n c m d : Nat} {P0 r0 b0 : Value} (h : PBox w g e P0 p r0 b0) (ho : o.op = .store 37 x y) (hw : Region.wanted o (yielded ops a.tmps) = true) (hx : a.eval x = .pointer (some ⟨g, 0, none⟩)) (hy : a.eval y = pv e' (.slice F f q) p' (.slice D n c) (.slice E m d))
    (k : wpList Try.prog ops Q rest (a.put o.dst undef) (w.setRow g (pcs e' (.slice F f q) p' (.slice D n c) (.slice E m d)))) : wpList Try.prog ops Q (o :: rest) a w :=
  wpList_step fun _ hK => by
    rw [if_pos hw]
    exact wp_storeP h ho hx hy (hK _ _ k)
/-- Its place in an escape is stored. -/
theorem wpList_storePE {F D E : Option Addr} {f q n c m d : Nat} (h : PBox w g e (.slice F f q) p (.slice D n c) (.slice E m d)) {F' : Option Addr} {f' q' : Nat} (ho : o.op = .store 32 x y) (hw : Region.wanted o (yielded ops a.tmps) = true) (hx : a.eval x = .pointer (some ⟨g, 0, none⟩)) (hy : a.eval y = Esca.escV e' (.slice F' f' q'))
    (k : wpList Try.prog ops Q rest (a.put o.dst undef) (w.setRow g (pcs e' (.slice F' f' q') p (.slice D n c) (.slice E m d)))) : wpList Try.prog ops Q (o :: rest) a w :=
  wpList_step fun _ hK => by
    rw [if_pos hw]
    refine wp_store_mid 32 x y ho g 0 (Esca.escC e' (.slice F' f' q')) hx hy (pbox_there h 0 _ (by show 0 + 8 ≤ 23; omega)) ebox_size (escC_one _ _ _ _) ?_
    rw [setCells_row g 37 _ 0 w _ h, put_e]
    exact hK _ _ k
/-- Its screen is stored. -/
theorem wpList_storePG {F D E : Option Addr} {f q n c m d : Nat} (h : PBox w g e (.slice F f q) p (.slice D n c) (.slice E m d)) {D' E' : Option Addr} {n' c' m' d' : Nat} (ho : o.op = .store 35 x y) (hw : Region.wanted o (yielded ops a.tmps) = true) (hx : a.eval x = .pointer (some ⟨g, 8, none⟩)) (hy : a.eval y = gv p' (.slice D' n' c') (.slice E' m' d'))
    (k : wpList Try.prog ops Q rest (a.put o.dst undef) (w.setRow g (pcs e (.slice F f q) p' (.slice D' n' c') (.slice E' m' d')))) : wpList Try.prog ops Q (o :: rest) a w :=
  wpList_step fun _ hK => by
    rw [if_pos hw]
    refine wp_store_mid 35 x y ho g 8 (gcs p' (.slice D' n' c') (.slice E' m' d')) hx hy (pbox_there h 8 _ (by show 8 + 15 ≤ 23; omega)) box_size (gcs_one _ _ _ _ _ _ _) ?_
    rw [setCells_row g 37 _ 8 w _ h, put_g]
    exact hK _ _ k
end
/-- What a call that answers a pane leaves. -/
def PanePost (w : World) (e : Esca.E) (p : Nm) (L Bk : List (List C)) (x : Ending) (w' : World) : Prop :=
  ∃ F f q D n c E m d, x = .returned (pv e (.slice F f q) p (.slice D n c) (.slice E m d)) ∧ Esca.Ints w' w.heap.size (.slice F f q) e.par ∧ Scr w.heap.size w' D E n c m d L Bk ∧ Below w.heap.size w w'
/-- A part of memory that stays: blocks at or above B. -/
theorem Scr.eq {B : Nat} {w w' : World} {D E : Option Addr} {n c m d : Nat} {L Bk : List (List C)} (hs : Scr B w D E n c m d L Bk) (hz : w.heap.size ≤ w'.heap.size) (hf : ∀ b, B ≤ b → w'.heap[b]? = w.heap[b]?) : Scr B w' D E n c m d L Bk := ⟨hs.rows.eq hz hf, hs.back.eq hz hf, hs.nr, hs.nb, hs.cr, hs.cb⟩
theorem Scr.put {B : Nat} {w : World} {k : Nat} {D E : Option Addr} {n c m d : Nat} {L Bk : List (List C)} (hs : Scr B w D E n c m d L Bk) (hk : k < B) (cs : Array Value) : Scr B (w.setRow k cs) D E n c m d L Bk := hs.eq (by simp) fun b hb => setRow_other _ _ _ _ (by omega)
theorem ints_put {B : Nat} {w : World} {k : Nat} {v : Value} {l : List Int} (h : Esca.Ints w B v l) (hk : k < B) (cs : Array Value) : Esca.Ints (w.setRow k cs) B v l := by
  exact Esca.Ints.moved (row := some k) h (fun j _ hj => setRow_other _ _ _ _ (fun e => hj (by rw [e]))) fun j hj => fun e => by
    have := (World.ownsRow.lt h j hj).1
    cases e
    omega
end Go.Proofs.Ytpcpmeihebgncaa

/-
  What own, ownEsc, ownGrid, ownLines and New of package pane answer. Conditions: at most a thousand rows of at most a thousand cells, at most fifty lines that went, at most a thousand parameters.
-/
namespace Go.Proofs.Ytpcpmeihebgncaa.Esca
open Go.RowKit
set_option maxRecDepth 100000
set_option maxHeartbeats 1000000 in
theorem pownE_any (e : E) (p : Value) (B : Nat) (w : World) (hp : Ints w B p e.par) (hl : e.par.length ≤ 1000) : Calls Try.prog 43 #[escV e p] w (EscPost w.heap.size w e) := by
  obtain ⟨mo, ⟨n, m, g⟩, par, num, pr, sk⟩ := e
  unfold escV
  dsimp only at *
  obtain ⟨D, c, rfl⟩ := ints_form hp
  go_enter Try.func43, Try.ntmps43
  go_wp2_with (
    go_at_call 89
    refine (clone_any _ par B _ (Ints.alloc (Ints.alloc hp _) _) hl).mono ?_
    rintro e w2 ⟨v, rfl, hr, hb2⟩
    obtain ⟨D2, c2, rfl⟩ := ints_form hr
    obtain ⟨H1, H2⟩ := two_new hb2
    obtain ⟨x0, x1, x2, x3, x4, x5, x6, x7, xf⟩ := esc_cells H1
    obtain ⟨y0, y1, y2, y3, y4, y5, y6, y7, yf⟩ := esc_cells H2)
  refine bodyPost_ret (v := escV ⟨mo, ⟨n, m, g⟩, par, num, pr, sk⟩ (.slice D2 par.length c2)) (by simp [results, Try.results43, go_sem, escV, y0, y1, y2, y3, y4, y5, y6, y7]) rfl ⟨_, rfl, ?_, ?_⟩
  · have hr' : Ints w2 (w.heap.size + 2) (.slice D2 par.length c2) par := hr.base (by simp)
    refine Ints.base (B := w.heap.size + 2) ?_ (by omega)
    repeat (first | with_reducible exact hr' | with_reducible refine Ints.setlo ?_ (by omega) _)
  · repeat (with_reducible refine below_set ?_ (by omega) _)
    exact (below_alloc2 _ _ _).trans (hb2.mono (by simp; omega))
end Go.Proofs.Ytpcpmeihebgncaa.Esca
namespace Go.Proofs.Ytpcpmeihebgncaa
open Go.RowKit
set_option maxRecDepth 100000

set_option maxHeartbeats 400000 in
theorem pownO_any (D : Option Addr) (c : Nat) (M : List (List C)) (w : World) (hr : Lines 0 w D M) (hn : M.length ≤ 1050) (hl : ∀ r ∈ M, r.length ≤ 1000) : Calls Try.prog 118 #[.slice D M.length c] w (OLPost w M) := by
  have hm := run_makeL w M.length (by omega)
  have HS := Lib.hid (FillSt.start w M)
  have HR := Lib.hid hr
  clear hr
  go_enter Try.func118, Try.ntmps118
  go_wp2_with fail
  go_loopw [11] (FillRel w w.heap.size M) (fun i _ => M.length - (intOf i).toNat)
  case atStart => exact ⟨[], rfl, HS.out⟩
  case round =>
    obtain ⟨vs, rfl, hst⟩ := hrel
    by_cases hlt : vs.length < M.length
    · have hki : (vs.length : Int) < (M.length : Int) := by omega
      obtain ⟨b, off, E, ce, rfl, _, hbl, _, hcell, hce, hrow⟩ := (HR.out.below hst.below (Nat.le_refl _)).at vs.length hlt
      have hrn : M[vs.length].length ≤ 1000 := hl _ (List.getElem_mem _)
      have HROW := Lib.hid hrow
      clear hrow
      have HCL := Lib.hid (clone_any E ce M[vs.length] wr HROW.out hrn)
      have HST := Lib.hid hst
      have hfl := fillV_cell hst.table hlt
      have hgl := hst.table.lt
      have hfz := hst.table.frozen
      clear hst hrn
      generalize hq : M[vs.length] = q at *
      have HQ := Lib.hid hq
      clear hq
      go_wp2_with (
        go_at_call 95
        refine HCL.out.mono ?_
        rintro e w1 ⟨D1, c1, rfl, hc1, hr1, hb1⟩
        have hfl1 := (fillV_cell (HST.out.table.below hb1 hgl) hlt)
        have hfz1 := (HST.out.table.below hb1 hgl).frozen)
      go_roundw
      case rel =>
        refine ⟨vs ++ [.slice D1 q.length c1], by simp, HST.out.next (Nat.le_refl _) hb1 hlt ⟨D1, c1, ?_, ?_, ?_⟩⟩
        · rw [HQ.out]
        · rw [HQ.out]; exact hc1
        · rw [HQ.out]; exact hr1
      case measure => simp [intOf]; omega
    · have ek : vs.length = M.length := by have := hst.le; omega
      have hki : ¬ (vs.length : Int) < (M.length : Int) := by omega
      have HP := Lib.hid (hst.opost (Nat.le_refl _) ek)
      clear hst ek
      go_wp2_with fail
      go_ret
      exact HP.out


set_option maxHeartbeats 4000000 in
theorem pownS_any (p : Nm) (D E : Option Addr) (n c m d : Nat) (L Bk : List (List C)) (w : World) (hs : Scr 0 w D E n c m d L Bk) (hn : n ≤ 1000) (hm : m ≤ 50) (hl : ∀ r ∈ L, r.length ≤ 1000) (hlb : ∀ r ∈ Bk, r.length ≤ 1000) :
    Calls Try.prog 79 #[gv p (.slice D n c) (.slice E m d)] w (OwnPost w p L Bk) := by
  have rs := MS.start w p (.slice D n c) (.slice E m d)
  have HS := Lib.hid rs
  have HH := Lib.hid hs
  clear rs hs
  unfold gv gcs
  go_enter Try.func79, Try.ntmps79
  go_upto_region 1 with fail
  refine wp_world (fun wq => MS w p (.slice D n c) (.slice E m d) wq) HS.out ?_
  clear HS
  intro w2 rs
  have HR : Hid (∀ wx, Below w.heap.size w wx → Calls Try.prog 118 #[.slice D n c] wx (OLPost wx L)) := fun wx hb => by
    have := pownO_any D c L wx (HH.out.rows.below hb (Nat.le_refl _)) (by rw [HH.out.nr]; omega) hl
    rwa [HH.out.nr] at this
  have HB : Hid (∀ wx, Below w.heap.size w wx → Calls Try.prog 118 #[.slice E m d] wx (OLPost wx Bk)) := fun wx hb => by
    have := pownO_any E d Bk wx (HH.out.back.below hb (Nat.le_refl _)) (by rw [HH.out.nb]; omega) hlb
    rwa [HH.out.nb] at this
  have rsd := rs.drew
  have b0 := rsd.below
  have u13 := rsd.box.cells.c13
  have u14 := rsd.box.cells.c14
  have uf := rsd.box.cells.free
  have hz0 : w.heap.size < w2.heap.size := rs.box.lt
  clear hl hlb hn hm
  have a0 := rsd.ans
  have hz1 : w.heap.size + 1 < w2.heap.size := rs.ans.lt
  go_cut [] (OwnRel2 w p L Bk)
  case first =>
    go_region_with (first
      | (go_at_call 118
         with_reducible refine (HR.out _ b0).mono ?_
         rintro e w3 ⟨g3, rfl, l3, b3⟩
         have r3 := rsd.box.below b3 rsd.box.lt
         have y13 := r3.cells.c13
         have y14 := r3.cells.c14
         have yf := r3.cells.free)
      | (go_at_call 118
         with_reducible refine (HB.out _ (b0.trans (b3.mono b0.size))).mono ?_
         rintro e w5 ⟨g5, rfl, l5, b5⟩
         have r5 := r3.below b5 r3.lt
         have z13 := r5.cells.c13
         have z14 := r5.cells.c14
         have zf := r5.cells.free)
      | (go_at_call 118
         with_reducible refine (HB.out _ ((b0.trans (b3.mono b0.size)).setCell (p := ⟨w.heap.size, 13, none⟩) (Nat.le_refl _) _)).mono ?_
         rintro e w5 ⟨g5, rfl, l5, b5⟩
         have r5 := (r3.set_rows (.slice (some ⟨g3, 0, none⟩) L.length L.length)).below b5 (by simpa using r3.lt)
         have z13 := r5.cells.c13
         have z14 := r5.cells.c14
         have zf := r5.cells.free))
    all_goals clear u13 u14 uf y13 y14 yf z13 z14 zf
    all_goals go_wp2_with fail
    all_goals go_meet
    all_goals
      have b35 : Below w2.drew.heap.size w2.drew w5 := b3.trans (b5.mono b3.size)
      have hz2 : w.heap.size + 2 ≤ w2.drew.heap.size := hz1
      have hz3 := b3.size
      refine ⟨g3, g5, (r5.set_rows _).set_back _, ?_, ⟨?_, ?_, ?_⟩, ?_⟩
      · exact ((a0.below b35 (by exact hz1)).far (q := ⟨w.heap.size, 13, none⟩) (by exact (by omega : w.heap.size + 1 ≠ w.heap.size)) _).far (q := ⟨w.heap.size, 14, none⟩) (by exact (by omega : w.heap.size + 1 ≠ w.heap.size)) _
      · exact (((l3.below b5 (Nat.le_refl _)).weak hz2).far (p := ⟨w.heap.size, 13, none⟩) (by exact (by omega : w.heap.size < w.heap.size + 2)) _).far (p := ⟨w.heap.size, 14, none⟩) (by exact (by omega : w.heap.size < w.heap.size + 2)) _
      · exact ((l5.weak (by omega)).far (p := ⟨w.heap.size, 13, none⟩) (by exact (by omega : w.heap.size < w.heap.size + 2)) _).far (p := ⟨w.heap.size, 14, none⟩) (by exact (by omega : w.heap.size < w.heap.size + 2)) _
      · have := l3.lt
        have := l5.low
        omega
      · exact ((b0.trans (b35.mono b0.size)).setCell (p := ⟨w.heap.size, 13, none⟩) (Nat.le_refl _) _).setCell (p := ⟨w.heap.size, 14, none⟩) (Nat.le_refl _) _
  case rest =>
    clear u13 u14 uf HR HB HH rs rsd b0 a0 hz0 hz1
    obtain ⟨g3, g5, xg, xa, l3, bz⟩ := hcut
    go_wp2_with (first
      | (with_reducible refine wpList_loadB xg (x := .tmp 1) ?_ ?_ ?_ ?_
         · with_reducible rfl
         · rfl
         · rfl)
      | (with_reducible refine wpList_storeA xa (x := .tmp 2) (y := .tmp 11) (p := p) (D := some ⟨g3, 0, none⟩) (E := some ⟨g5, 0, none⟩) (n := L.length) (c := L.length) (m := Bk.length) (d := Bk.length) ?_ ?_ ?_ ?_ ?_
         · with_reducible rfl
         · rfl
         · rfl
         · rfl))
    refine bodyPost_ret (v := gv p (.slice (some ⟨g3, 0, none⟩) L.length L.length) (.slice (some ⟨g5, 0, none⟩) Bk.length Bk.length)) (results_cell_row (P := Try.prog) Try.results79 _ _ (w.heap.size + 1) 35 _ (0, 0) _ rfl (xa.setRow p _ _) Try.underlying35 rfl box_size) rfl ?_
    have e : ∀ b, w.heap.size + 2 ≤ b → b < wc.heap.size → (wc.setRow (w.heap.size + 1) (gcs p (.slice (some ⟨g3, 0, none⟩) L.length L.length) (.slice (some ⟨g5, 0, none⟩) Bk.length Bk.length))).heap[b]? = wc.heap[b]? := fun b hb _ => setRow_other _ _ _ _ (by omega)
    exact ⟨_, _, rfl, (l3.eq (by simp) e).weak (by omega), below_setRow bz (Nat.le_succ _) _⟩

/-- The box that is read, the answer's box. -/
structure QS (w : World) (e : Esca.E) (P : Value) (p : Nm) (r b : Value) (wx : World) : Prop where
  box : PBox wx w.heap.size e P p r b
  ans : PBox wx (w.heap.size + 1) Esca.E.zero nilV zeroNm nilV nilV
  below : Below w.heap.size w wx
theorem QS.start (w : World) (e : Esca.E) (P : Value) (p : Nm) (r b : Value) : QS w e P p r b ((w.alloc (.cells (pcs e P p r b) 37)).alloc (.cells (pcs Esca.E.zero nilV zeroNm nilV nilV) 37)) :=
  ⟨(PBox.new w e P p r b).alloc _, by have := PBox.new (w.alloc (.cells (pcs e P p r b) 37)) Esca.E.zero nilV zeroNm nilV nilV; simpa using this, ((Below.refl _ _).alloc (Nat.le_refl _) _).alloc (by simp) _⟩
theorem QS.next {w : World} {e : Esca.E} {P : Value} {p : Nm} {r b : Value} {wx wy : World} (h : QS w e P p r b wx) (hb : Below wx.heap.size wx wy) : QS w e P p r b wy := ⟨h.box.below hb h.box.lt, h.ans.below hb h.ans.lt, h.below.trans (hb.mono h.below.size)⟩
theorem QS.drew {w : World} {e : Esca.E} {P : Value} {p : Nm} {r b : Value} {wx : World} (h : QS w e P p r b wx) : QS w e P p r b wx.drew := ⟨h.box, h.ans, below_drewN h.below 1⟩

def QRes (w : World) (e : Esca.E) (p : Nm) (L Bk : List (List C)) (wx : World) : Prop := ∃ F2 q2 g2 h2, PBox wx (w.heap.size + 1) e (.slice F2 e.par.length q2) p (.slice (some ⟨g2, 0, none⟩) L.length L.length) (.slice (some ⟨h2, 0, none⟩) Bk.length Bk.length) ∧ Esca.Ints wx (w.heap.size + 2) (.slice F2 e.par.length q2) e.par ∧ OScr (w.heap.size + 2) wx g2 h2 L Bk ∧ Below w.heap.size w wx
set_option maxHeartbeats 4000000 in
theorem pown_any (e : Esca.E) (F : Option Addr) (f q B : Nat) (p : Nm) (D E : Option Addr) (n c m d : Nat) (L Bk : List (List C)) (w : World) (hp : Esca.Ints w B (.slice F f q) e.par) (he : e.par.length ≤ 1000) (hs : Scr 0 w D E n c m d L Bk) (hn : n ≤ 1000) (hm : m ≤ 50) (hl : ∀ r ∈ L, r.length ≤ 1000) (hlb : ∀ r ∈ Bk, r.length ≤ 1000) :
    Calls Try.prog 40 #[pv e (.slice F f q) p (.slice D n c) (.slice E m d)] w (PanePost w e p L Bk) := by
  have HS := Lib.hid (QS.start w e (.slice F f q) p (.slice D n c) (.slice E m d))
  have HE : Hid (∀ wx, Below w.heap.size w wx → Calls Try.prog 43 #[Esca.escV e (.slice F f q)] wx (Esca.EscPost wx.heap.size wx e)) := fun wx hb => Esca.pownE_any e _ B wx (hp.below hb (Nat.le_refl _)) he
  have HG : Hid (∀ wx, Below w.heap.size w wx → Calls Try.prog 79 #[gv p (.slice D n c) (.slice E m d)] wx (OwnPost wx p L Bk)) := fun wx hb => pownS_any p D E n c m d L Bk wx (hs.below hb (Nat.le_refl _)) hn hm hl hlb
  clear hp he hs hn hm hl hlb
  unfold pv pcs
  go_enter Try.func40, Try.ntmps40
  go_upto_region 1 with fail
  refine wp_world (fun wq => QS w e (.slice F f q) p (.slice D n c) (.slice E m d) wq) HS.out ?_
  clear HS
  intro w2 rs
  have HR := Lib.hid rs.drew
  clear rs
  go_cut [] (QRes w e p L Bk)
  case first =>
    refine wp_region_held_drew (S := fun w' => PBox w' w.heap.size e (.slice F f q) p (.slice D n c) (.slice E m d)) (by kernel_rfl) (by exact HR.out.box) (fun hH0 => ?_)
    refine wpAnyH_take (i := 0) (oi := _) (v := .pointer (some ⟨w.heap.size, 0, none⟩)) rfl (by kernel_rfl) (by kernel_rfl) (by kernel_rfl) (fun _ _ _ h => h) (Or.inl ⟨by rfl, ?_⟩) hH0 ?_
    · intro wv hSw
      try dsimp only at hSw
      go_simp
    change wpAnyH _ _ _ _ _ _ _ (Act.put _ (some 3) (.pointer (some ⟨w.heap.size, 0, none⟩))) _
    simp only [Act.put, List.setIfInBounds_toArray, List.set_cons_zero, List.set_cons_succ]
    refine wpAnyH_take (i := 1) (oi := _) (v := Esca.escV e (.slice F f q)) rfl (by kernel_rfl) (by kernel_rfl) (by kernel_rfl) (fun _ _ _ h => h) (yields_loadPE (by rfl) rfl (by rfl) (fun _ h => h)) hH0 ?_
    change wpAnyH _ _ _ _ _ _ _ (Act.put _ (some 4) (Esca.escV e (.slice F f q))) _
    simp only [Act.put, List.setIfInBounds_toArray, List.set_cons_zero, List.set_cons_succ]
    refine wpAnyH_take (i := 3) (oi := _) (v := .pointer (some ⟨w.heap.size, 8, none⟩)) rfl (by kernel_rfl) (by kernel_rfl) (by kernel_rfl) (fun _ _ _ h => h) (Or.inl ⟨by rfl, ?_⟩) hH0 ?_
    · intro wv hSw
      try dsimp only at hSw
      go_simp
    change wpAnyH _ _ _ _ _ _ _ (Act.put _ (some 6) (.pointer (some ⟨w.heap.size, 8, none⟩))) _
    simp only [Act.put, List.setIfInBounds_toArray, List.set_cons_zero, List.set_cons_succ]
    refine wpAnyH_take (i := 4) (oi := _) (v := gv p (.slice D n c) (.slice E m d)) rfl (by kernel_rfl) (by kernel_rfl) (by kernel_rfl) (fun _ _ _ h => h) (yields_loadPG (by rfl) rfl (by rfl) (fun _ h => h)) hH0 ?_
    change wpAnyH _ _ _ _ _ _ _ (Act.put _ (some 7) (gv p (.slice D n c) (.slice E m d))) _
    simp only [Act.put, List.setIfInBounds_toArray, List.set_cons_zero, List.set_cons_succ]
    refine wpAnyH_ready (rs := [2]) (by kernel_rfl) (by simp) ?_
    refine AllReadyH.cons (o := _) rfl (fun K hK => ?_) AllReadyH.nil
    · go_simp
      refine (HE.out _ (by exact HR.out.below)).mono ?_
      rintro x w3 ⟨P2, rfl, iw3, bw3⟩
      obtain ⟨F2, q2, rfl⟩ := Esca.ints_form iw3
      have r3 := HR.out.next bw3
      refine hK.out _ _ (by exact r3.box) (fun hH1 => ?_)
      clear hK K
      try simp only [Act.put, List.setIfInBounds_toArray, List.set_cons_zero, List.set_cons_succ]
      refine wpAnyH_ready (rs := [5]) (by kernel_rfl) (by simp) ?_
      refine AllReadyH.cons (o := _) rfl (fun K hK => ?_) AllReadyH.nil
      go_simp
      refine (HG.out w3 (by exact r3.below)).mono ?_
      rintro x w4 ⟨g2, h2, rfl, sw4, bw4⟩
      have r4 := r3.next bw4
      refine hK.out _ _ (by exact r4.box) (fun hH2 => ?_)
      clear hK K
      try simp only [Act.put, List.setIfInBounds_toArray, List.set_cons_zero, List.set_cons_succ]
      refine wpAnyH_take (i := 6) (oi := _) (v := pv e (.slice F2 e.par.length q2) p (.slice (some ⟨g2, 0, none⟩) L.length L.length) (.slice (some ⟨h2, 0, none⟩) Bk.length Bk.length)) rfl (by kernel_rfl) (by kernel_rfl) (by kernel_rfl) (fun _ _ _ h => h) (Or.inl ⟨by rfl, ?_⟩) hH2 ?_
      · intro wv hSw
        simp [execOp, go_sem, pv, pcs, Esca.escV, ov, gv, gcs]
      change wpAnyH _ _ _ _ _ _ _ (Act.put _ (some 9) (pv e (.slice F2 e.par.length q2) p (.slice (some ⟨g2, 0, none⟩) L.length L.length) (.slice (some ⟨h2, 0, none⟩) Bk.length Bk.length))) _
      simp only [Act.put, List.setIfInBounds_toArray, List.set_cons_zero, List.set_cons_succ]
      refine wpAnyH_ready (rs := [7]) (by kernel_rfl) (by simp) ?_
      refine AllReadyH.cons (o := _) rfl (fun K hK => ?_) AllReadyH.nil
      rw [if_pos (by rfl)]
      refine wp_storeP r4.ans (x := .tmp 2) (y := .tmp 9) (e' := e) (p' := p) (F := F2) (f := e.par.length) (q := q2) (D := some ⟨g2, 0, none⟩) (E := some ⟨h2, 0, none⟩) (n := L.length) (c := L.length) (m := Bk.length) (d := Bk.length) rfl rfl rfl ?_
      refine hK.out _ _ (by exact r4.box.other (by omega) _) (fun hH3 => ?_)
      clear hK K
      dsimp only [Act.put]
      refine wpAnyH_done (by kernel_rfl) ?_ _
      clear hH0 hH1 hH2 hH3
      go_wp2_with fail
      go_meet
      have h3z := bw3.size
      have rz := HR.out.ans.lt
      have rz2 : w2.heap.size ≤ w2.drew.heap.size := Nat.le_refl _
      exact ⟨F2, q2, g2, h2, r4.ans.setRow _ _ _ _ _, ints_put (Esca.Ints.base (iw3.below bw4 (Nat.le_refl _)) (C := w.heap.size + 2) (by omega)) (by omega) _, (OScr.weak (sw4) (A := w.heap.size + 2) (by omega)).eq (by simp) (fun b hb _ => setRow_other _ _ _ _ (by omega)), below_setRow r4.below (Nat.le_succ _) _⟩
  case rest =>
    obtain ⟨F2, q2, g2, h2, xa, xi, xs, xb⟩ := hcut
    clear HR HE HG
    go_wp2_with fail
    refine bodyPost_ret (v := pv e (.slice F2 e.par.length q2) p (.slice (some ⟨g2, 0, none⟩) L.length L.length) (.slice (some ⟨h2, 0, none⟩) Bk.length Bk.length)) (results_cell_row (P := Try.prog) Try.results40 _ _ (w.heap.size + 1) 37 _ (0, 0) _ rfl xa Try.underlying37 rfl pbox_size) rfl ?_
    exact ⟨_, _, _, _, _, _, _, _, _, rfl, xi.base (by omega), xs.scr.weak (by omega), xb⟩

set_option maxHeartbeats 4000000 in
theorem pnew_any (x0 y0 : Int) (w : World) : Calls Try.prog 21 #[.int .i64 x0, .int .i64 y0] w (PanePost w Esca.E.zero (newNm (sideF x0) (sideF y0)) (blankL (sideF x0) (sideF y0).toNat) []) := by
  have HG : Hid (∀ wx, Calls Try.prog 42 #[.int .i64 x0, .int .i64 y0] wx (GNewPost wx (newNm (sideF x0) (sideF y0)) (blankL (sideF x0) (sideF y0).toNat))) := fun wx => gnewO_any x0 y0 wx
  generalize newNm (sideF x0) (sideF y0) = p at *
  generalize blankL (sideF x0) (sideF y0).toNat = L at *
  go_enter Try.func21, Try.ntmps21
  go_upto_region 1 with fail
  have HA := Lib.hid (PBox.new w Esca.E.zero nilV zeroNm nilV nilV)
  have HB : Hid (Below w.heap.size w (w.alloc (.cells (pcs Esca.E.zero nilV zeroNm nilV nilV) 37))) := (Below.refl _ _).alloc (Nat.le_refl _) _
  refine wp_world (fun wq => PBox wq w.heap.size Esca.E.zero nilV zeroNm nilV nilV ∧ Below w.heap.size w wq) ⟨HA.out, HB.out⟩ ?_
  clear HA HB
  rintro w2 ⟨xa, b2⟩
  go_wp2_with (first
    | (go_at_call 42
       refine (HG.out _).mono ?_
       rintro e w3 ⟨g, rfl, t3, b3⟩
       unfold gv gcs
       have x3 := xa.below b3 xa.lt)
    | (with_reducible refine wpList_storeP x3 (x := .tmp 4) (y := .tmp 8) (e' := Esca.E.zero) (p' := p) (F := none) (f := 0) (q := 0) (D := some ⟨g, 0, none⟩) (E := none) (n := L.length) (c := L.length) (m := 0) (d := 0) ?_ ?_ ?_ ?_ ?_
       · with_reducible rfl
       · rfl
       · rfl
       · rfl))
  have hz := xa.lt
  refine bodyPost_ret (v := pv Esca.E.zero (.slice none 0 0) p (.slice (some ⟨g, 0, none⟩) L.length L.length) (.slice none 0 0)) (results_cell_row (P := Try.prog) Try.results21 _ _ w.heap.size 37 _ (0, 0) _ rfl (x3.setRow _ _ _ _ _) Try.underlying37 rfl pbox_size) rfl ?_
  refine ⟨_, _, _, _, _, _, _, _, _, rfl, Esca.ints_nil _ _, ?_, below_setRow (b2.trans (b3.mono b2.size)) (Nat.le_refl _) _⟩
  exact ((⟨t3.lines, Lines.nil _ _ _, rfl, rfl, Nat.le_refl _, Nat.le_refl _⟩ : Scr w2.heap.size w3 _ _ _ _ _ _ L []).put (by omega) _).weak (by omega)
end Go.Proofs.Ytpcpmeihebgncaa

/-
  What Feed of package pane answers: each byte's actions, one behind the other. Conditions: the screen is whole, the place in an escape is one that steps make, at most three hundred thousand bytes.
-/
namespace Go.Proofs.Ytpcpmeihebgncaa
open Go.RowKit
set_option maxRecDepth 100000

/-- A pane: where it is in an escape, its screen. -/
structure PM where
  e : Esca.E
  s : WS
def actsF (s : WS) (l : List Esca.A) : WS := l.foldl (fun s a => actF s a.k a.r a.par) s
def feed1 (q : PM) (b : Int) : PM := ⟨(Esca.nxE q.e b).1, actsF q.s (Esca.nxE q.e b).2⟩
def feedP (q : PM) (bs : List Int) : PM := bs.foldl feed1 q
theorem feedP_app (q : PM) (a b : List Int) : feedP q (a ++ b) = feedP (feedP q a) b := by simp [feedP]
/-- Whole: its place is one that steps make, its screen is whole. -/
structure PM.Ok (W H : Nat) (q : PM) : Prop where
  e : q.e.Ok
  k : Wk W H q.s
  w : WrOk W q.s
theorem actsF_ok {W H : Nat} : ∀ (l : List Esca.A) (s : WS), Wk W H s → WrOk W s → Wk W H (actsF s l) ∧ WrOk W (actsF s l) ∧ s.B.length ≤ (actsF s l).B.length
  | [], s, h, hw => ⟨h, hw, Nat.le_refl _⟩
  | a :: l, s, h, hw => by
    have g := Goes.act h hw a.k a.r a.par
    have r := actsF_ok l _ g.k g.wr
    exact ⟨r.1, r.2.1, Nat.le_trans g.back r.2.2⟩
theorem PM.Ok.feed1 {W H : Nat} {q : PM} (h : q.Ok W H) (b : Int) : (Ytpcpmeihebgncaa.feed1 q b).Ok W H := by
  have r := actsF_ok (Esca.nxE q.e b).2 q.s h.k h.w
  exact ⟨Esca.nxE_ok q.e b h.e, r.1, r.2.1⟩
theorem PM.Ok.feedP {W H : Nat} : ∀ (bs : List Int) {q : PM}, q.Ok W H → (Ytpcpmeihebgncaa.feedP q bs).Ok W H
  | [], _, h => h
  | b :: bs, _, h => PM.Ok.feedP bs (h.feed1 b)

/-- A pane's place in an escape, as it lies in a variable of its own. -/
def EBox (w : World) (g : Nat) (e : Esca.E) (P : Value) : Prop := Held w g 32 (Esca.escC e P)
section
variable {ops : Array Oper} {rest : List Oper} {o : Oper} {a : Act} {w : World} {Q : Exit → Act → World → Prop} {x y : Operand} {g : Nat} {e : Esca.E} {P : Value}
theorem wpList_loadE' (h : EBox w g e P) (ho : o.op = .load 32 x) (hw : Region.wanted o (yielded ops a.tmps) = true) (hx : a.eval x = .pointer (some ⟨g, 0, none⟩))
    (k : wpList Try.prog ops Q rest (a.put o.dst (Esca.escV e P)) w) : wpList Try.prog ops Q (o :: rest) a w :=
  wpList_step fun _ hK => by
    rw [if_pos hw]
    exact wp_load_row 32 x ho g hx 32 (Esca.escC e P) (0, 0) _ h Try.underlying32 rfl ebox_size (hK _ _ k)
theorem wpList_storeE' {z : Array Value} {F : Option Addr} {f q : Nat}
    (ho : o.op = .store 32 x y) (hw : Region.wanted o (yielded ops a.tmps) = true) (hz : z.size = 8) (hx : a.eval x = .pointer (some ⟨w.heap.size, 0, none⟩)) (hy : a.eval y = Esca.escV e (.slice F f q))
    (k : wpList Try.prog ops Q rest (a.put o.dst undef) (w.alloc (.cells (Esca.escC e (.slice F f q)) 32))) : wpList Try.prog ops Q (o :: rest) a (w.alloc (.cells z 32)) :=
  wpList_step fun _ hK => by
    rw [if_pos hw]
    refine wp_store_row 32 x y ho w.heap.size _ hx hy 32 z (heap_alloc_last w _) ebox_size hz (escC_one _ _ _ _) ?_
    rw [World.setRow_alloc_new]
    exact hK _ _ k
end

/-- Behind some bytes: the pane so far in the first block, the answer in the second. -/
structure FS (w : World) (q : PM) (F D E : Option Addr) (f qq n c m d : Nat) (wr : World) : Prop where
  box : PBox wr w.heap.size q.e (.slice F f qq) q.s.p (.slice D n c) (.slice E m d)
  ans : PBox wr (w.heap.size + 1) Esca.E.zero nilV zeroNm nilV nilV
  par : Esca.Ints wr (w.heap.size + 2) (.slice F f qq) q.e.par
  scr : Scr (w.heap.size + 2) wr D E n c m d q.s.L q.s.B
  below : Below w.heap.size w wr
def FRel (w : World) (q0 : PM) (bs : List Int) (i : Value) (wr : World) : Prop := ∃ (k : Nat) (F D E : Option Addr) (f qq n c m d : Nat), i = .int .i64 (k : Int) ∧ k ≤ bs.length ∧ FS w (feedP q0 (bs.take k)) F D E f qq n c m d wr
theorem FS.next {w : World} {q : PM} {F D E : Option Addr} {f qq n c m d : Nat} {wr wy : World} (h : FS w q F D E f qq n c m d wr) (hb : Below wr.heap.size wr wy) : FS w q F D E f qq n c m d wy :=
  ⟨h.box.below hb h.box.lt, h.ans.below hb h.ans.lt, h.par.below hb (Nat.le_refl _), h.scr.below hb (Nat.le_refl _), h.below.trans (hb.mono h.below.size)⟩
/-- Ahead of the actions: what they are, and where. -/
def ARel (w : World) (e : Esca.E) (s0 : WS) (l : List Esca.A) (v : Value) (i : Value) (wr : World) : Prop := ∃ (j : Nat) (F D E : Option Addr) (f qq n c m d : Nat), i = .int .i64 (j : Int) ∧ j ≤ l.length ∧ FS w ⟨e, actsF s0 (l.take j)⟩ F D E f qq n c m d wr ∧ Esca.Acts wr (w.heap.size + 2) v l
theorem actsF_take (s : WS) (l : List Esca.A) (j : Nat) (a : Esca.A) (h : l[j]? = some a) : actsF s (l.take (j + 1)) = actF (actsF s (l.take j)) a.k a.r a.par := by
  rw [List.take_add_one, h]
  simp [actsF]
theorem feedP_take (q : PM) (bs : List Int) (k : Nat) (z : Int) (h : bs[k]? = some z) : feedP q (bs.take (k + 1)) = feed1 (feedP q (bs.take k)) z := by
  rw [List.take_add_one, h]
  simp [feedP]
theorem acts_put {B : Nat} {w : World} {k : Nat} {v : Value} {l : List Esca.A} (h : Esca.Acts w B v l) (hk : k < B) (cs : Array Value) : Esca.Acts (w.setRow k cs) B v l := by
  obtain ⟨ps, e, ho⟩ := h
  have f : ∀ j, j < w.heap.size → some j ≠ some k → (w.setRow k cs).heap[j]? = w.heap[j]? := fun j _ hj => setRow_other _ _ _ _ (fun e => hj (by rw [e]))
  refine ⟨ps, e, ?_, fun x hx => ⟨ints_put (ho.pars x hx).1 hk cs, (ho.pars x hx).2⟩⟩
  refine ⟨ho.row.1, ?_⟩
  rcases ho.row.2 with hn | ⟨g, cap, cur, hv, hb, hgg, rest⟩
  · exact .inl hn
  · refine .inr ⟨g, cap, cur, hv, hb, ?_, rest⟩
    rw [f g (Array.getElem?_eq_some_iff.1 hgg).1 (by intro e; cases e; omega)]
    exact hgg
theorem readI_ints {w : World} {B : Nat} {v : Value} {l : List Int} (h : Esca.Ints w B v l) : ReadI w v l := by
  obtain ⟨D, c, rfl, hk⟩ := h.read
  refine ⟨D, c, rfl, fun k hkl => ?_⟩
  obtain ⟨b, z, rfl, hz, hc⟩ := hk k hkl
  exact ⟨b, 0, z, rfl, block_lt_of_cell hc, hz, by simpa using hc⟩
end Go.Proofs.Ytpcpmeihebgncaa

/-
  The walk of Feed of package pane. Conditions: as in PFeed.
-/
namespace Go.Proofs.Ytpcpmeihebgncaa
open Go.RowKit
set_option maxRecDepth 100000
set_option linter.unusedSimpArgs false

namespace Esca
theorem ctl_par (b : Int) : ∀ a ∈ ctl b, a.par = [] := by
  intro a h
  unfold ctl at h
  split at h
  · cases h
  · simp only [List.mem_singleton] at h
    rw [h]
theorem finPar_len (e : E) (h : e.Ok) : (finPar e).length ≤ 16 := by
  unfold finPar
  split
  · exact wPar_len _ _ h.par
  · exact h.par
theorem nxE_par (e : E) (b : Int) (h : e.Ok) : ∀ a ∈ (nxE e b).2, a.par.length ≤ 16 := by
  intro a ha
  have hc : ∀ a ∈ ctl b, a.par.length ≤ 16 := fun a h => by rw [ctl_par b a h]; simp
  unfold nxE at ha
  split at ha
  · rcases List.mem_append.1 ha with h1 | h1
    · unfold prints at h1
      obtain ⟨r, _, rfl⟩ := List.mem_map.1 h1
      simp
    · exact hc a h1
  split at ha
  · unfold escE at ha
    repeat' split at ha
    all_goals first
      | exact hc a ha
      | (simp only [List.mem_singleton] at ha; rw [ha]; simp)
      | cases ha
  split at ha
  · unfold csiE at ha
    repeat' split at ha
    all_goals first
      | exact hc a ha
      | (unfold fin at ha
         split at ha
         · cases ha
         · simp only [List.mem_singleton] at ha
           rw [ha]
           exact finPar_len e h)
      | cases ha
  repeat' split at ha
  all_goals cases ha
end Esca

set_option maxHeartbeats 8000000 in
theorem pfeed_any {W H : Nat} (q0 : PM) (bs : List Int) (F D E V : Option Addr) (f qq n c m d cv B : Nat) (w : World) (ok : q0.Ok W H) (hp : Esca.Ints w B (.slice F f qq) q0.e.par) (hs : Scr 0 w D E n c m d q0.s.L q0.s.B) (hv : Esca.ReadB w (.slice V bs.length cv) bs) (hn : bs.length ≤ 300000) :
    Calls Try.prog 20 #[pv q0.e (.slice F f qq) q0.s.p (.slice D n c) (.slice E m d), .slice V bs.length cv] w (PanePost w (feedP q0 bs).e (feedP q0 bs).s.p (feedP q0 bs).s.L (feedP q0 bs).s.B) := by
  have HS := Lib.hid (QS.start w q0.e (.slice F f qq) q0.s.p (.slice D n c) (.slice E m d))
  have HV : Hid (∀ k : Nat, k < bs.length → ∃ (b off : Nat) (z : Int), V = some ⟨b, off, none⟩ ∧ b < w.heap.size ∧ bs[k]? = some z ∧ w.cell? ⟨b, off + k, none⟩ = some (.int .u8 z) ∧ 0 ≤ z ∧ z ≤ 255) := by
    obtain ⟨V', c', e, h⟩ := hv
    cases e
    exact h
  have HO : Hid (∀ wx, Below w.heap.size w wx → Calls Try.prog 40 #[pv q0.e (.slice F f qq) q0.s.p (.slice D n c) (.slice E m d)] wx (PanePost wx q0.e q0.s.p q0.s.L q0.s.B)) := fun wx hb =>
    pown_any q0.e F f qq B q0.s.p D E n c m d q0.s.L q0.s.B wx (hp.below hb (Nat.le_refl _)) (by have := ok.e.par; omega) (hs.below hb (Nat.le_refl _)) (by rw [← hs.nr, ok.k.ok.ln]; have := ok.k.H2; omega) (by rw [← hs.nb]; exact ok.k.ok.bn) ok.k.rows ok.k.ok.back
  have HK := Lib.hid ok
  clear ok hp hs hv
  unfold pv pcs
  go_enter Try.func20, Try.ntmps20
  go_upto_region 1 with fail
  refine wp_world (fun wq => QS w q0.e (.slice F f qq) q0.s.p (.slice D n c) (.slice E m d) wq) HS.out ?_
  clear HS
  intro w2 rs
  have x2 := rs.box
  go_upto_region 2 with (first
    | (with_reducible refine wpList_loadP x2 (x := .tmp 2) ?_ ?_ ?_ ?_
       · with_reducible rfl
       · rfl
       · rfl)
    | (go_at_call 40
       refine (HO.out _ rs.below).mono ?_
       rintro e w3 ⟨F3, f3, q3, D3, n3, c3, E3, m3, d3, rfl, i3, s3, b3⟩
       have r3 := rs.next b3
       have x3 := r3.box)
    | (with_reducible refine wpList_storeP x3 (x := .tmp 2) (y := .tmp 12) (e' := q0.e) (p' := q0.s.p) (F := F3) (f := f3) (q := q3) (D := D3) (E := E3) (n := n3) (c := c3) (m := m3) (d := d3) ?_ ?_ ?_ ?_ ?_
       · with_reducible rfl
       · rfl
       · rfl
       · rfl))
  have hz2 := rs.ans.lt
  refine wp_world (fun wq => FS w q0 F3 D3 E3 f3 q3 n3 c3 m3 d3 wq) ⟨x3.setRow _ _ _ _ _, r3.ans.other (by omega) _, ints_put (i3.base (by omega)) (by omega) _, (s3.weak (by omega)).put (by omega) _, below_setRow r3.below (Nat.le_refl _) _⟩ ?_
  clear rs x2 r3 x3 i3 s3 b3 hz2 HO
  intro w4 st0
  go_wp2_with fail
  go_loopw [15] (FRel w q0 bs) (fun i _ => bs.length - (intOf i).toNat)
  case atStart => exact ⟨0, _, _, _, _, _, _, _, _, _, rfl, Nat.zero_le _, st0⟩
  case round =>
    clear st0
    obtain ⟨k, F, D, E, f, qq, n, c, m, d, rfl, hkl, st⟩ := hrel
    by_cases hlt : k < bs.length
    · have hki : (k : Int) < (bs.length : Int) := by omega
      obtain ⟨vb, vo, z, rfl, hvb, hzk, hcell, hz0, hz255⟩ := HV.out k hlt
      have hcell' : wr.cell? ⟨vb, vo + k, none⟩ = some (.int .u8 z) := (st.below.cell (p := ⟨vb, vo + k, none⟩) hvb).trans hcell
      clear hcell
      have HN := Lib.hid (feedP_take q0 bs k z hzk)
      have HQ := Lib.hid (HK.out.feedP (bs.take k))
      generalize feedP q0 (bs.take k) = q at *
      have HT : Hid (∀ wx, Below wr.heap.size wr wx → Calls Try.prog 41 #[Esca.escV q.e (.slice F f qq), .int .u8 z] wx (Esca.StepP wx.heap.size wx (Esca.nxE q.e z).1 (Esca.nxE q.e z).2)) := fun wx hb => Esca.stepE_any q.e z _ _ wx (st.par.below hb (Nat.le_refl _)) HQ.out.e hz0 hz255
      have HL := Lib.hid (Esca.nxE_len q.e z)
      have HE : Hid (feed1 q z = ⟨(Esca.nxE q.e z).1, actsF q.s (Esca.nxE q.e z).2⟩) := Lib.hid rfl
      have HOK : Hid (∀ j, Wk W H (actsF q.s ((Esca.nxE q.e z).2.take j))) := fun j => (actsF_ok ((Esca.nxE q.e z).2.take j) q.s HQ.out.k HQ.out.w).1
      have HPL : Hid (∀ a ∈ (Esca.nxE q.e z).2, a.par.length ≤ 1000000) := fun a ha => by have := Esca.nxE_par q.e z HQ.out.e a ha; omega
      generalize (Esca.nxE q.e z).1 = e1 at *
      generalize (Esca.nxE q.e z).2 = l1 at *
      clear hzk
      have x0 := st.box
      go_upto_region 5 with fail
      go_upto_region 6 with (first
        | (with_reducible refine wpList_loadPE x0 (x := .tmp 20) ?_ ?_ ?_ ?_
           · with_reducible rfl
           · rfl
           · rfl)
        | (go_at_call 41
           refine (HT.out _ (Below.refl _ _)).mono ?_
           rintro x w3 ⟨P3, v3, rfl, i3, a3, b3⟩
           obtain ⟨F3, q3, rfl⟩ := Esca.ints_form i3
           obtain ⟨AD, ac, rfl⟩ := Esca.acts_form a3
           have st3 := st.next b3)
        | (with_reducible refine wpList_storeE' (x := .tmp 7) (y := .tmp 24) (e := e1) (F := F3) (f := e1.par.length) (q := q3) ?_ ?_ ?_ ?_ ?_ ?_
           · with_reducible rfl
           · rfl
           · rfl
           · rfl
           · rfl))
      have hz3 := b3.size
      have hzr := st.ans.lt
      have hzl : l1.length ≤ 3 := HL.out
      have E0 : Hid (EBox (w3.alloc (.cells (Esca.escC e1 (.slice F3 e1.par.length q3)) 32)) w3.heap.size e1 (.slice F3 e1.par.length q3)) := Held.new _ _ _
      refine wp_world (fun wq => FS w q F D E f qq n c m d wq ∧ EBox wq w3.heap.size e1 (.slice F3 e1.par.length q3) ∧ Esca.Ints wq (w.heap.size + 2) (.slice F3 e1.par.length q3) e1.par ∧ Esca.Acts wq (w.heap.size + 2) (.slice AD l1.length ac) l1) ⟨st3.next ((Below.refl _ _).alloc (Nat.le_refl _) _), E0.out, (i3.base (by omega)).alloc _, (a3.base (by omega)).alloc _⟩ ?_
      clear st3 E0 i3 a3 HT x0 hcell'
      rintro w4 ⟨st4, xe, i4, a4⟩
      have x4 := st4.box
      have hz4 := xe.lt
      go_upto_region 7 with (first
        | (with_reducible refine wpList_loadE' xe (x := .tmp 7) ?_ ?_ ?_ ?_
           · with_reducible rfl
           · rfl
           · rfl)
        | (with_reducible refine wpList_storePE x4 (x := .tmp 27) (y := .tmp 26) (e' := e1) (F' := F3) (f' := e1.par.length) (q' := q3) ?_ ?_ ?_ ?_ ?_
           · with_reducible rfl
           · rfl
           · rfl
           · rfl))
      refine wp_world (fun wq => FS w ⟨e1, q.s⟩ F3 D E e1.par.length q3 n c m d wq ∧ Esca.Acts wq (w.heap.size + 2) (.slice AD l1.length ac) l1) ⟨⟨x4.setRow _ _ _ _ _, st4.ans.other (by omega) _, ints_put i4 (by omega) _, st4.scr.put (by omega) _, below_setRow st4.below (Nat.le_refl _) _⟩, acts_put a4 (by omega) _⟩ ?_
      clear st4 x4 xe i4 a4 b3 st hz3 hzr hz4
      rintro w5 ⟨st5, a5⟩
      go_wp2_with fail
      go_loopw [30] (ARel w e1 q.s l1 (.slice AD l1.length ac)) (fun i _ => l1.length - (intOf i).toNat)
      case atStart => exact ⟨0, _, _, _, _, _, _, _, _, _, rfl, Nat.zero_le _, st5, a5⟩
      case round =>
        clear st5 a5
        obtain ⟨j, F, D, E, f, qq, n, c, m, d, rfl, hjl, st, a6⟩ := hrel
        by_cases hlt : j < l1.length
        · have hji : (j : Int) < (l1.length : Int) := by omega
          obtain ⟨AD', ac', eA, hA⟩ := a6.read
          cases eA
          obtain ⟨ab, ⟨ak, ar, ap⟩, P, rfl, hzj, y0, y1, y2, iP⟩ := hA j hlt
          clear hA
          dsimp only at y0 y1 y2 iP
          have HN2 := Lib.hid (actsF_take q.s l1 j _ hzj)
          have hap : ap.length ≤ 1000000 := HPL.out _ (List.mem_of_getElem? hzj)
          have hk := HOK.out j
          generalize actsF q.s (l1.take j) = s at *
          have hR := readI_ints iP
          obtain ⟨PD, pc, rfl⟩ := Esca.ints_form iP
          have HA := fun wx (hb : Below wr.heap.size wr wx) => act_all ak ar PD D E pc n c m d ap wx ((st.scr.weak (Nat.zero_le _)).below hb (Nat.le_refl _)) hk (hR.below hb (Nat.le_refl _)) hap
          dsimp only at HA
          have HAH := Lib.hid HA
          clear HA hzj hR iP hk
          have x6 := st.box
          go_upto_region 10 with fail
          have hzr := st.ans.lt
          refine wp_world (fun wq => FS w ⟨e1, s⟩ F D E f qq n c m d wq ∧ Held wq wr.heap.size 44 #[.int .i64 ak, .int .i32 ar, .slice PD ap.length pc] ∧ Below wr.heap.size wr wq) ⟨st.next (by repeat (first | exact (Below.refl _ _).alloc (Nat.le_refl _) _ | refine Below.setCell ?_ (by exact Nat.le_refl _) _)), by first | exact Held.new _ _ _ | exact (((Held.new wr 44 _).set1 0 _).set1 1 _).set1 2 _, by repeat (first | exact (Below.refl _ _).alloc (Nat.le_refl _) _ | refine Below.setCell ?_ (by exact Nat.le_refl _) _)⟩ ?_
          clear y0 y1 y2 x6
          rintro w6 ⟨st6, ha, b6⟩
          have x6 := st6.box
          have y0 := ha.cell 0
          have y1 := ha.cell 1
          have y2 := ha.cell 2
          simp only [List.getElem?_toArray, List.getElem?_cons_zero, List.getElem?_cons_succ] at y0 y1 y2
          go_upto_region 11 with (first
            | (with_reducible refine wpList_loadPG x6 (x := .tmp 34) ?_ ?_ ?_ ?_
               · with_reducible rfl
               · rfl
               · rfl)
            | (go_at_call 14
               refine (HAH.out _ b6).mono ?_
               rintro x w7 ⟨D7, E7, n7, c7, m7, d7, rfl, s7, b7⟩
               have st7 := st6.next b7
               have x7 := st7.box)
            | (with_reducible refine wpList_storePG x7 (x := .tmp 38) (y := .tmp 37) (p' := (actF s ak ar ap).p) (D' := D7) (n' := n7) (c' := c7) (E' := E7) (m' := m7) (d' := d7) ?_ ?_ ?_ ?_ ?_
               · with_reducible rfl
               · rfl
               · rfl
               · rfl))
          go_wp2_with fail
          go_roundw
          case rel =>
            refine ⟨j + 1, F, D7, E7, f, qq, n7, c7, m7, d7, by go_num, by omega, ?_, acts_put ((a6.below (Below.refl _ _) (Nat.le_refl _)).below (b6.trans (b7.mono b6.size)) (Nat.le_refl _)) (by omega) _⟩
            rw [HN2.out]
            have hz7 := b6.size
            exact ⟨x7.setRow _ _ _ _ _, st7.ans.other (by omega) _, ints_put st7.par (by omega) _, (s7.weak (by omega)).put (by omega) _, below_setRow st7.below (Nat.le_refl _) _⟩
          case measure => simp [intOf]; omega
        · have hji : ¬ (j : Int) < (l1.length : Int) := by omega
          have hj : j = l1.length := by omega
          subst hj
          rw [List.take_length] at st
          clear a6
          go_wp2_with fail
          go_roundw
          case rel =>
            refine ⟨k + 1, F, D, E, f, qq, n, c, m, d, by go_num, by omega, ?_⟩
            rw [HN.out, HE.out]
            exact st
          case measure => simp [intOf]; omega
    · have hki : ¬ (k : Int) < (bs.length : Int) := by omega
      have hk : k = bs.length := by omega
      subst hk
      rw [List.take_length] at st
      have x2 := st.box
      have xa := st.ans
      clear HV HK
      obtain ⟨q, hq⟩ : ∃ q, q = feedP q0 bs := ⟨_, rfl⟩
      rw [← hq] at st x2
      have HQ := Lib.hid hq
      clear hq
      go_wp2_with (first
        | (with_reducible refine wpList_loadP x2 (x := .tmp 2) ?_ ?_ ?_ ?_
           · with_reducible rfl
           · rfl
           · rfl)
        | (with_reducible refine wpList_storeP xa (x := .tmp 4) (y := .tmp 41) (e' := q.e) (p' := q.s.p) (F := F) (f := f) (q := qq) (D := D) (E := E) (n := n) (c := c) (m := m) (d := d) ?_ ?_ ?_ ?_ ?_
           · with_reducible rfl
           · rfl
           · rfl
           · rfl))
      refine bodyPost_ret (v := pv q.e (.slice F f qq) q.s.p (.slice D n c) (.slice E m d)) (results_cell_row (P := Try.prog) Try.results20 _ _ (w.heap.size + 1) 37 _ (0, 0) _ rfl (xa.setRow _ _ _ _ _) Try.underlying37 rfl pbox_size) rfl ?_
      rw [← HQ.out]
      exact ⟨_, _, _, _, _, _, _, _, _, rfl, (ints_put (k := w.heap.size + 1) st.par (by omega) _).base (show w.heap.size ≤ w.heap.size + 2 by omega), (st.scr.put (k := w.heap.size + 1) (by omega) _).weak (show w.heap.size ≤ w.heap.size + 2 by omega), below_setRow st.below (Nat.le_succ _) _⟩
end Go.Proofs.Ytpcpmeihebgncaa

/-
  What Resize of package pane answers. Conditions: at most fifty lines that went, of at most a thousand cells, at most a thousand parameters.
-/
namespace Go.Proofs.Ytpcpmeihebgncaa
open Go.RowKit
set_option maxRecDepth 100000

def QRes2 (w : World) (e : Esca.E) (p : Nm) (L Bk : List (List C)) (wx : World) : Prop := ∃ F2 q2 D4 E4 n4 c4 m4 d4, PBox wx (w.heap.size + 1) e (.slice F2 e.par.length q2) p (.slice D4 n4 c4) (.slice E4 m4 d4) ∧ Esca.Ints wx (w.heap.size + 2) (.slice F2 e.par.length q2) e.par ∧ Scr (w.heap.size + 2) wx D4 E4 n4 c4 m4 d4 L Bk ∧ Below w.heap.size w wx
set_option maxHeartbeats 4000000 in
theorem presize_any (e : Esca.E) (F : Option Addr) (f q B : Nat) (p : Nm) (D E : Option Addr) (n c m d : Nat) (L Bk : List (List C)) (x0 y0 : Int) (w : World) (hp : Esca.Ints w B (.slice F f q) e.par) (he : e.par.length ≤ 1000) (hs : Scr 0 w D E n c m d L Bk) (hm : m ≤ 50) (hlb : ∀ r ∈ Bk, r.length ≤ 1000) :
    Calls Try.prog 22 #[pv e (.slice F f q) p (.slice D n c) (.slice E m d), .int .i64 x0, .int .i64 y0] w (PanePost w e (sizedNm p (sideF x0) (sideF y0)) (fittedF L (sideF x0) (sideF y0).toNat) Bk) := by
  have HS := Lib.hid (QS.start w e (.slice F f q) p (.slice D n c) (.slice E m d))
  have HE : Hid (∀ wx, Below w.heap.size w wx → Calls Try.prog 43 #[Esca.escV e (.slice F f q)] wx (Esca.EscPost wx.heap.size wx e)) := fun wx hb => Esca.pownE_any e _ B wx (hp.below hb (Nat.le_refl _)) he
  have HG : Hid (∀ wx, Below w.heap.size w wx → Calls Try.prog 44 #[gv p (.slice D n c) (.slice E m d), .int .i64 x0, .int .i64 y0] wx (GridPost wx (sizedNm p (sideF x0) (sideF y0)) (fittedF L (sideF x0) (sideF y0).toNat) Bk)) := fun wx hb => gresize_any p D E n c m d L Bk x0 y0 wx (hs.below hb (Nat.le_refl _)) hm hlb
  generalize sizedNm p (sideF x0) (sideF y0) = p2 at *
  generalize fittedF L (sideF x0) (sideF y0).toNat = L2 at *
  clear hp he hs hm hlb
  unfold pv pcs
  go_enter Try.func22, Try.ntmps22
  go_upto_region 1 with fail
  refine wp_world (fun wq => QS w e (.slice F f q) p (.slice D n c) (.slice E m d) wq) HS.out ?_
  clear HS
  intro w2 rs
  have HR := Lib.hid rs.drew
  clear rs
  go_cut [] (QRes2 w e p2 L2 Bk)
  case first =>
    refine wp_region_held_drew (S := fun w' => PBox w' w.heap.size e (.slice F f q) p (.slice D n c) (.slice E m d)) (by kernel_rfl) (by exact HR.out.box) (fun hH0 => ?_)
    refine wpAnyH_take (i := 0) (oi := _) (v := .pointer (some ⟨w.heap.size, 0, none⟩)) rfl (by kernel_rfl) (by kernel_rfl) (by kernel_rfl) (fun _ _ _ h => h) (Or.inl ⟨by rfl, ?_⟩) hH0 ?_
    · intro wv hSw
      try dsimp only at hSw
      go_simp
    change wpAnyH _ _ _ _ _ _ _ (Act.put _ (some 7) (.pointer (some ⟨w.heap.size, 0, none⟩))) _
    simp only [Act.put, List.setIfInBounds_toArray, List.set_cons_zero, List.set_cons_succ]
    refine wpAnyH_take (i := 1) (oi := _) (v := Esca.escV e (.slice F f q)) rfl (by kernel_rfl) (by kernel_rfl) (by kernel_rfl) (fun _ _ _ h => h) (yields_loadPE (by rfl) rfl (by rfl) (fun _ h => h)) hH0 ?_
    change wpAnyH _ _ _ _ _ _ _ (Act.put _ (some 8) (Esca.escV e (.slice F f q))) _
    simp only [Act.put, List.setIfInBounds_toArray, List.set_cons_zero, List.set_cons_succ]
    refine wpAnyH_take (i := 3) (oi := _) (v := .pointer (some ⟨w.heap.size, 8, none⟩)) rfl (by kernel_rfl) (by kernel_rfl) (by kernel_rfl) (fun _ _ _ h => h) (Or.inl ⟨by rfl, ?_⟩) hH0 ?_
    · intro wv hSw
      try dsimp only at hSw
      go_simp
    change wpAnyH _ _ _ _ _ _ _ (Act.put _ (some 10) (.pointer (some ⟨w.heap.size, 8, none⟩))) _
    simp only [Act.put, List.setIfInBounds_toArray, List.set_cons_zero, List.set_cons_succ]
    refine wpAnyH_take (i := 4) (oi := _) (v := gv p (.slice D n c) (.slice E m d)) rfl (by kernel_rfl) (by kernel_rfl) (by kernel_rfl) (fun _ _ _ h => h) (yields_loadPG (by rfl) rfl (by rfl) (fun _ h => h)) hH0 ?_
    change wpAnyH _ _ _ _ _ _ _ (Act.put _ (some 11) (gv p (.slice D n c) (.slice E m d))) _
    simp only [Act.put, List.setIfInBounds_toArray, List.set_cons_zero, List.set_cons_succ]
    refine wpAnyH_take (i := 5) (oi := _) (v := .int .i64 x0) rfl (by kernel_rfl) (by kernel_rfl) (by kernel_rfl) (fun _ _ _ h => h) (Or.inl ⟨by rfl, ?_⟩) hH0 ?_
    · intro wv hSw
      try dsimp only at hSw
      go_simp
    change wpAnyH _ _ _ _ _ _ _ (Act.put _ (some 12) (.int .i64 x0)) _
    simp only [Act.put, List.setIfInBounds_toArray, List.set_cons_zero, List.set_cons_succ]
    refine wpAnyH_take (i := 6) (oi := _) (v := .int .i64 y0) rfl (by kernel_rfl) (by kernel_rfl) (by kernel_rfl) (fun _ _ _ h => h) (Or.inl ⟨by rfl, ?_⟩) hH0 ?_
    · intro wv hSw
      try dsimp only at hSw
      go_simp
    change wpAnyH _ _ _ _ _ _ _ (Act.put _ (some 13) (.int .i64 y0)) _
    simp only [Act.put, List.setIfInBounds_toArray, List.set_cons_zero, List.set_cons_succ]
    refine wpAnyH_ready (rs := [2]) (by kernel_rfl) (by simp) ?_
    refine AllReadyH.cons (o := _) rfl (fun K hK => ?_) AllReadyH.nil
    go_simp
    refine (HE.out _ (by exact HR.out.below)).mono ?_
    rintro x w3 ⟨P2, rfl, i3, b3⟩
    obtain ⟨F2, q2, rfl⟩ := Esca.ints_form i3
    have r3 := HR.out.next b3
    refine hK.out _ _ (by exact r3.box) (fun hH1 => ?_)
    clear hK K
    try simp only [Act.put, List.setIfInBounds_toArray, List.set_cons_zero, List.set_cons_succ]
    refine wpAnyH_ready (rs := [7]) (by kernel_rfl) (by simp) ?_
    refine AllReadyH.cons (o := _) rfl (fun K hK => ?_) AllReadyH.nil
    go_simp
    refine (HG.out w3 (by exact r3.below)).mono ?_
    rintro x w4 ⟨D4, E4, n4, c4, m4, d4, rfl, s4, b4⟩
    have r4 := r3.next b4
    refine hK.out _ _ (by exact r4.box) (fun hH2 => ?_)
    clear hK K
    try simp only [Act.put, List.setIfInBounds_toArray, List.set_cons_zero, List.set_cons_succ]
    refine wpAnyH_take (i := 8) (oi := _) (v := pv e (.slice F2 e.par.length q2) p2 (.slice D4 n4 c4) (.slice E4 m4 d4)) rfl (by kernel_rfl) (by kernel_rfl) (by kernel_rfl) (fun _ _ _ h => h) (Or.inl ⟨by rfl, ?_⟩) hH2 ?_
    · intro wv hSw
      simp [execOp, go_sem, pv, pcs, Esca.escV, gv, gcs]
    change wpAnyH _ _ _ _ _ _ _ (Act.put _ (some 15) (pv e (.slice F2 e.par.length q2) p2 (.slice D4 n4 c4) (.slice E4 m4 d4))) _
    simp only [Act.put, List.setIfInBounds_toArray, List.set_cons_zero, List.set_cons_succ]
    refine wpAnyH_ready (rs := [9]) (by kernel_rfl) (by simp) ?_
    refine AllReadyH.cons (o := _) rfl (fun K hK => ?_) AllReadyH.nil
    rw [if_pos (by rfl)]
    refine wp_storeP r4.ans (x := .tmp 6) (y := .tmp 15) (e' := e) (p' := p2) (F := F2) (f := e.par.length) (q := q2) (D := D4) (E := E4) (n := n4) (c := c4) (m := m4) (d := d4) rfl rfl rfl ?_
    refine hK.out _ _ (by exact r4.box.other (by omega) _) (fun hH3 => ?_)
    clear hK K
    dsimp only [Act.put]
    refine wpAnyH_done (by kernel_rfl) ?_ _
    clear hH0 hH1 hH2 hH3
    go_wp2_with fail
    go_meet
    have h3z := b3.size
    have rz := HR.out.ans.lt
    have rz2 : w2.heap.size ≤ w2.drew.heap.size := Nat.le_refl _
    exact ⟨F2, q2, D4, E4, n4, c4, m4, d4, r4.ans.setRow _ _ _ _ _, ints_put (Esca.Ints.base (i3.below b4 (Nat.le_refl _)) (C := w.heap.size + 2) (by omega)) (by omega) _, (s4.weak (A := w.heap.size + 2) (by omega)).put (by omega) _, below_setRow r4.below (Nat.le_succ _) _⟩
  case rest =>
    obtain ⟨F2, q2, D4, E4, n4, c4, m4, d4, xa, xi, xs, xb⟩ := hcut
    clear HR HE HG
    go_wp2_with fail
    refine bodyPost_ret (v := pv e (.slice F2 e.par.length q2) p2 (.slice D4 n4 c4) (.slice E4 m4 d4)) (results_cell_row (P := Try.prog) Try.results22 _ _ (w.heap.size + 1) 37 _ (0, 0) _ rfl xa Try.underlying37 rfl pbox_size) rfl ?_
    exact ⟨_, _, _, _, _, _, _, _, _, rfl, xi.base (by omega), xs.weak (by omega), xb⟩
end Go.Proofs.Ytpcpmeihebgncaa

/-
  What Same of package pane answers, of equal panes and of panes whose modes differ. Conditions: at most a thousand rows and lines of at most a thousand cells, at most a thousand parameters.
-/
namespace Go.Proofs.Ytpcpmeihebgncaa
open Go.RowKit
set_option maxRecDepth 100000

set_option maxHeartbeats 1000000 in
theorem equalInts_any (va vb : Value) (l : List Int) (B B' : Nat) (w : World) (ha : Esca.Ints w B va l) (hb : Esca.Ints w B' vb l) (hn : l.length ≤ 1000) :
    Calls Try.prog 129 #[va, vb] w (Quiet true w) := by
  obtain ⟨D, c, rfl, hA⟩ := ha.read
  obtain ⟨D', c', rfl, hB⟩ := hb.read
  have HA := Lib.hid hA
  have HB := Lib.hid hB
  clear hA hB ha hb
  go_enter Try.func129, Try.ntmps129
  go_wp2_with fail
  go_loopw [13] (QRel w l.length) (fun i _ => l.length - (intOf i).toNat)
  case atStart => exact ⟨0, rfl, Nat.zero_le _, 0, rfl⟩
  case round =>
    obtain ⟨k, rfl, hk, m, hm⟩ := hrel
    by_cases hlt : k < l.length
    · have hki : (k : Int) < (l.length : Int) := by omega
      obtain ⟨b1, z1, rfl, e1, c1⟩ := HA.out k hlt
      obtain ⟨b2, z2, rfl, e2, c2⟩ := HB.out k hlt
      rw [e1] at e2
      cases e2
      have d1 : wr.cell? ⟨b1, k, none⟩ = some (.int .i64 z1) := by rw [hm]; simpa using c1
      have d2 : wr.cell? ⟨b2, k, none⟩ = some (.int .i64 z1) := by rw [hm]; simpa using c2
      have HM := Lib.hid hm
      clear c1 c2 e1 hm
      go_wp2_with fail
      go_quiet (fail)
      go_wp2_with fail
      go_roundw
      case rel => exact ⟨k + 1, by go_num, by omega, _, by rw [HM.out, World.drewN_drewN]⟩
      case measure => simp [intOf]; omega
    · have hki : ¬ (k : Int) < (l.length : Int) := by omega
      have HM := Lib.hid hm
      clear hm
      go_wp2_with fail
      go_ret
      exact ⟨rfl, m, HM.out⟩

theorem quiet_below {w w' : World} (h : ∃ m, w' = w.drewN m) : Below w.heap.size w w' := by
  obtain ⟨m, rfl⟩ := h
  exact below_drewN (Below.refl _ _) m
set_option maxHeartbeats 1000000 in
theorem sameEscT_any (e : Esca.E) (p q : Value) (B B' : Nat) (w : World) (hp : Esca.Ints w B p e.par) (hq : Esca.Ints w B' q e.par) (hn : e.par.length ≤ 1000) :
    Calls Try.prog 93 #[Esca.escV e p, Esca.escV e q] w (BoolPost true w) := by
  have SI : Hid (∀ w, Esca.Ints w B p e.par → Esca.Ints w B' q e.par → Calls Try.prog 129 #[p, q] w (Quiet true w)) := fun w h1 h2 => equalInts_any p q e.par B B' w h1 h2 hn
  have hp2 : ∀ o o', Esca.Ints ((w.alloc o).alloc o') B p e.par := fun o o' => (hp.alloc o).alloc o'
  have hq2 : ∀ o o', Esca.Ints ((w.alloc o).alloc o') B' q e.par := fun o o' => (hq.alloc o).alloc o'
  obtain ⟨D, c, rfl⟩ := Esca.ints_form hp
  obtain ⟨D', c', rfl⟩ := Esca.ints_form hq
  unfold Esca.escV
  go_enter Try.func93, Try.ntmps93
  go_wp2_with (
    go_at_call 129
    go_loud (
    refine (SI.out _ (by exact hp2 _ _) (by exact hq2 _ _)).mono ?_
    rintro x w3 ⟨rfl, hw3⟩
    have hb3 := quiet_below hw3
    clear hw3))
  go_ret
  exact ⟨rfl, (Esca.below_alloc2 w _ _).trans (hb3.mono (by simp; omega))⟩
set_option maxHeartbeats 1000000 in
theorem sameEscF_any (e e' : Esca.E) (D D' : Option Addr) (n c n' c' : Nat) (w : World) (hne : ¬ e.mode = e'.mode) :
    Calls Try.prog 93 #[Esca.escV e (.slice D n c), Esca.escV e' (.slice D' n' c')] w (BoolPost false w) := by
  have g1 : (e.mode == e'.mode) = false := by simpa using hne
  unfold Esca.escV
  go_enter Try.func93, Try.ntmps93
  go_wp2_with fail
  go_ret
  exact ⟨rfl, Esca.below_alloc2 w _ _⟩

theorem two_panes (w : World) (e e2 : Esca.E) (P P2 : Value) (p p2 : Nm) (r b r2 b2 : Value) : PBox ((w.alloc (.cells (pcs e P p r b) 37)).alloc (.cells (pcs e2 P2 p2 r2 b2) 37)) w.heap.size e P p r b ∧ PBox ((w.alloc (.cells (pcs e P p r b) 37)).alloc (.cells (pcs e2 P2 p2 r2 b2) 37)) (w.heap.size + 1) e2 P2 p2 r2 b2 ∧ Below w.heap.size w ((w.alloc (.cells (pcs e P p r b) 37)).alloc (.cells (pcs e2 P2 p2 r2 b2) 37)) :=
  ⟨(PBox.new w e P p r b).alloc _, by have := PBox.new (w.alloc (.cells (pcs e P p r b) 37)) e2 P2 p2 r2 b2; simpa using this, ((Below.refl _ _).alloc (Nat.le_refl _) _).alloc (by simp) _⟩
set_option maxHeartbeats 4000000 in
theorem psameF_any (e e' : Esca.E) (p p' : Nm) (F D E F' D' E' : Option Addr) (f q n c m d f' q' n' c' m' d' : Nat) (w : World) (hne : ¬ e.mode = e'.mode) :
    Calls Try.prog 46 #[pv e (.slice F f q) p (.slice D n c) (.slice E m d), pv e' (.slice F' f' q') p' (.slice D' n' c') (.slice E' m' d')] w (BoolPost false w) := by
  have HF : Hid (∀ w, Calls Try.prog 93 #[Esca.escV e (.slice F f q), Esca.escV e' (.slice F' f' q')] w (BoolPost false w)) := fun w => sameEscF_any e e' F F' f q f' q' w hne
  have H2 := Lib.hid (two_panes w e e' (.slice F f q) (.slice F' f' q') p p' (.slice D n c) (.slice E m d) (.slice D' n' c') (.slice E' m' d'))
  clear hne
  unfold pv pcs
  go_enter Try.func46, Try.ntmps46
  go_upto_region 1 with fail
  refine wp_world (fun wq => PBox wq w.heap.size e (.slice F f q) p (.slice D n c) (.slice E m d) ∧ PBox wq (w.heap.size + 1) e' (.slice F' f' q') p' (.slice D' n' c') (.slice E' m' d') ∧ Below w.heap.size w wq) H2.out ?_
  clear H2
  rintro w2 ⟨x1, x2, b2⟩
  go_wp2_with (first
    | (with_reducible refine wpList_loadPE x1 (x := .tmp 5) ?_ ?_ ?_ ?_
       · with_reducible rfl
       · rfl
       · rfl)
    | (with_reducible refine wpList_loadPE x2 (x := .tmp 7) ?_ ?_ ?_ ?_
       · with_reducible rfl
       · rfl
       · rfl)
    | (go_at_call 93
       refine (HF.out _).mono ?_
       rintro x w3 ⟨rfl, b3⟩))
  go_ret
  exact ⟨rfl, b2.trans (b3.mono b2.size)⟩
set_option maxHeartbeats 4000000 in
theorem psameT_any (e : Esca.E) (p : Nm) (F D E F' D' E' : Option Addr) (f q n c m d f' q' c' d' B B' : Nat) (L Bk : List (List C)) (w : World) (hp : Esca.Ints w B (.slice F f q) e.par) (hp' : Esca.Ints w B' (.slice F' f' q') e.par) (he : e.par.length ≤ 1000) (h1 : Scr 0 w D E n c m d L Bk) (h2 : Scr 0 w D' E' n c' m d' L Bk) (hn : n ≤ 1000) (hm : m ≤ 1000) (hl : ∀ r ∈ L, r.length ≤ 1000) (hlb : ∀ r ∈ Bk, r.length ≤ 1000) :
    Calls Try.prog 46 #[pv e (.slice F f q) p (.slice D n c) (.slice E m d), pv e (.slice F' f' q') p (.slice D' n c') (.slice E' m d')] w (BoolPost true w) := by
  have HF : Hid (∀ wx, Below w.heap.size w wx → Calls Try.prog 93 #[Esca.escV e (.slice F f q), Esca.escV e (.slice F' f' q')] wx (BoolPost true wx)) := fun wx hb => sameEscT_any e _ _ B B' wx (hp.below hb (Nat.le_refl _)) (hp'.below hb (Nat.le_refl _)) he
  have HG : Hid (∀ wx, Below w.heap.size w wx → Calls Try.prog 94 #[gv p (.slice D n c) (.slice E m d), gv p (.slice D' n c') (.slice E' m d')] wx (BoolPost true wx)) := fun wx hb => same_true p D E D' E' n c m d c' d' L Bk wx (h1.below hb (Nat.le_refl _)) (h2.below hb (Nat.le_refl _)) hn hm hl hlb
  have H2 := Lib.hid (two_panes w e e (.slice F f q) (.slice F' f' q') p p (.slice D n c) (.slice E m d) (.slice D' n c') (.slice E' m d'))
  clear hp hp' he h1 h2 hn hm hl hlb
  unfold pv pcs
  go_enter Try.func46, Try.ntmps46
  go_upto_region 1 with fail
  refine wp_world (fun wq => PBox wq w.heap.size e (.slice F f q) p (.slice D n c) (.slice E m d) ∧ PBox wq (w.heap.size + 1) e (.slice F' f' q') p (.slice D' n c') (.slice E' m d') ∧ Below w.heap.size w wq) H2.out ?_
  clear H2
  rintro w2 ⟨x1, x2, b2⟩
  go_wp2_with (first
    | (with_reducible refine wpList_loadPE x1 (x := .tmp 5) ?_ ?_ ?_ ?_
       · with_reducible rfl
       · rfl
       · rfl)
    | (with_reducible refine wpList_loadPE x2 (x := .tmp 7) ?_ ?_ ?_ ?_
       · with_reducible rfl
       · rfl
       · rfl)
    | (go_at_call 93
       refine (HF.out _ b2).mono ?_
       rintro x w3 ⟨rfl, b3⟩
       have y1 := x1.below b3 x1.lt
       have y2 := x2.below b3 x2.lt
       have b03 := b2.trans (b3.mono b2.size))
    | (with_reducible refine wpList_loadPG y1 (x := .tmp 11) ?_ ?_ ?_ ?_
       · with_reducible rfl
       · rfl
       · rfl)
    | (with_reducible refine wpList_loadPG y2 (x := .tmp 13) ?_ ?_ ?_ ?_
       · with_reducible rfl
       · rfl
       · rfl)
    | (go_at_call 94
       refine (HG.out _ b03).mono ?_
       rintro x w4 ⟨rfl, b4⟩))
  go_ret
  exact ⟨rfl, b03.trans (b4.mono b03.size)⟩
end Go.Proofs.Ytpcpmeihebgncaa

/-
  That the law's awake answers true: a pane of three by two is fed, and made smaller. No condition.
-/
namespace Go.Proofs.Ytpcpmeihebgncaa
open Go.RowKit
set_option maxRecDepth 100000

namespace Esca
def u8s (bs : List Int) : List Value := bs.map (Value.int .u8)
/-- A row of bytes that was just laid, with whatever mark. -/
theorem readB_new (w : World) (bs : List Int) (cs : Array Value) (n c : Nat) (fr : Nat × Nat) (hn : bs.length = n) (hc : ∀ (k : Nat) (z : Int), bs[k]? = some z → cs[k]? = some (Value.int .u8 z) ∧ 0 ≤ z ∧ z ≤ 255) : ReadB (w.alloc (.cells cs 5 fr)) (.slice (some ⟨w.heap.size, 0, none⟩) n c) bs := by
  subst hn
  refine ⟨_, _, rfl, fun k hk => ?_⟩
  obtain ⟨z, hz⟩ : ∃ z, bs[k]? = some z := ⟨bs[k], List.getElem?_eq_getElem hk⟩
  obtain ⟨h1, h2, h3⟩ := hc k z hz
  refine ⟨w.heap.size, 0, z, rfl, by simp, hz, ?_, h2, h3⟩
  rw [Nat.zero_add, cell_of_row (w.alloc (.cells cs 5 fr)) w.heap.size k cs 5 fr (heap_alloc_new w _)]
  exact h1
def okBytes (bs : List Int) : Bool := bs.all fun z => decide (0 ≤ z) && decide (z ≤ 255)
theorem u8s_at {bs : List Int} (h : okBytes bs = true) : ∀ (k : Nat) (z : Int), bs[k]? = some z → (u8s bs).toArray[k]? = some (Value.int .u8 z) ∧ 0 ≤ z ∧ z ≤ 255 := by
  intro k z hz
  have hm := List.mem_of_getElem? hz
  have := List.all_eq_true.1 h z hm
  simp only [Bool.and_eq_true, decide_eq_true_eq] at this
  refine ⟨?_, this.1, this.2⟩
  simp [u8s, hz]
theorem ReadB.below {w w' : World} {B : Nat} {v : Value} {bs : List Int} (h : ReadB w v bs) (hb : Below B w w') (hB : w.heap.size ≤ B) : ReadB w' v bs := by
  obtain ⟨D, c, e, h⟩ := h
  refine ⟨D, c, e, fun k hk => ?_⟩
  obtain ⟨b, off, z, h1, h2, h3, h4, h5⟩ := h k hk
  have hs := hb.size
  exact ⟨b, off, z, h1, by omega, h3, (hb.cell (p := ⟨b, off + k, none⟩) (Nat.lt_of_lt_of_le h2 hB)).trans h4, h5⟩
end Esca
theorem wpList_storePn {ops : Array Oper} {rest : List Oper} {o : Oper} {a : Act} {w : World} {Q : Exit → Act → World → Prop} {x y : Operand} {z : Array Value} {e : Esca.E} {p : Nm} {F D E : Option Addr} {f q n c m d : Nat}
    (ho : o.op = .store 37 x y) (hw : Region.wanted o (yielded ops a.tmps) = true) (hz : z.size = 23) (hx : a.eval x = .pointer (some ⟨w.heap.size, 0, none⟩)) (hy : a.eval y = pv e (.slice F f q) p (.slice D n c) (.slice E m d))
    (k : wpList Try.prog ops Q rest (a.put o.dst undef) (w.alloc (.cells (pcs e (.slice F f q) p (.slice D n c) (.slice E m d)) 37))) : wpList Try.prog ops Q (o :: rest) a (w.alloc (.cells z 37)) :=
  wpList_step fun _ hK => by
    rw [if_pos hw]
    refine wp_store_row 37 x y ho w.heap.size _ hx hy 37 z (heap_alloc_last w _) pbox_size hz (pcs_one _ _ _ _ _ _ _ _ _ _ _) ?_
    rw [World.setRow_alloc_new]
    exact hK _ _ k

/-- A new pane. -/
def newP (W H : Nat) : PM := ⟨Esca.E.zero, ⟨newNm W H, blankL W H, []⟩⟩
theorem newP_ok (W H : Nat) (h0 : 1 ≤ W) (h1 : W ≤ 1000) (h2 : 1 ≤ H) (h3 : H ≤ 1000) : (newP W H).Ok W H := by
  refine ⟨Esca.E.zero_ok, ⟨⟨rfl, rfl, ?_, ?_, ?_, ?_, ?_, ?_, ?_, ?_⟩, h0, h1, h2, h3, ?_, ?_, ?_⟩, ?_⟩
  · exact Int.le_refl _
  · show (0 : Int) < W; omega
  · exact Int.le_refl _
  · show (0 : Int) < H; omega
  · exact blankL_len _ _
  · intro r hr
    have : r = blankF (W : Int) := List.eq_of_mem_replicate hr
    rw [this]
    exact blankF_w W h1
  · show 0 ≤ 50; omega
  · intro r hr; cases hr
  · exact Int.le_refl _
  · show (0 : Int) ≤ (H : Int) - 1; omega
  · show (H : Int) - 1 < (H : Int); omega
  · intro e; cases e
theorem newP_any (W H : Nat) (w : World) (h0 : 1 ≤ W) (h1 : W ≤ 1000) (h2 : 1 ≤ H) (h3 : H ≤ 1000) : Calls Try.prog 21 #[.int .i64 W, .int .i64 H] w (PanePost w (newP W H).e (newP W H).s.p (newP W H).s.L (newP W H).s.B) := by
  have := pnew_any W H w
  rw [show sideF (W : Int) = W by unfold sideF; omega, show sideF (H : Int) = H by unfold sideF; omega, Int.toNat_natCast] at this
  exact this

/-- What is read of a pane's variable. -/
theorem PBox.at {w : World} {g : Nat} {e : Esca.E} {P : Value} {p : Nm} {r b : Value} (h : PBox w g e P p r b) : w.cell? ⟨g, 0, none⟩ = some (.int .i64 e.mode) ∧ w.cell? ⟨g, 8, none⟩ = some (.int .i64 p.w) ∧ w.cell? ⟨g, 10, none⟩ = some (.int .i64 p.x) ∧ w.cell? ⟨g, 11, none⟩ = some (.int .i64 p.y) ∧ w.cell? ⟨g, 13, none⟩ = some (.int .i64 p.a) ∧ w.cell? ⟨g, 21, none⟩ = some r ∧ w.cell? ⟨g, 22, none⟩ = some b :=
  ⟨(Held.cell h 0).trans rfl, (Held.cell h 8).trans rfl, (Held.cell h 10).trans rfl, (Held.cell h 11).trans rfl, (Held.cell h 13).trans rfl, (Held.cell h 21).trans rfl, (Held.cell h 22).trans rfl⟩
def pruneAt (L : List (List C)) (y x : Nat) : Int := runeAt L y x

def aw7 : List Int := [97, 98, 13, 10, 99, 100, 27, 91, 49]
def aw7q : PM := feedP (newP 3 2) aw7
def aw7r : PM := feedP aw7q [71, 88]
theorem aw7_run : (decide (aw7q.s.L.length = 2) && decide ((rowAt aw7q.s.L 1).length = 3) && decide (runeAt aw7q.s.L 1 1 = 100) && decide (aw7q.e.mode = 2) && decide (aw7r.s.L.length = 2) && decide ((rowAt aw7r.s.L 1).length = 3) && decide (runeAt aw7r.s.L 1 0 = 88) && decide (aw7r.e.mode = 0)) = true := by decide +kernel
end Go.Proofs.Ytpcpmeihebgncaa

/-
  The walk of the law's awake. No condition.
-/
namespace Go.Proofs.Ytpcpmeihebgncaa
open Go.RowKit
set_option maxRecDepth 100000
set_option linter.unusedSimpArgs false

theorem getD_at {L : List (List C)} {y : Nat} (h : y < L.length) : rowAt L y = L[y] := by simp [rowAt, List.getD_eq_getElem?_getD, h]
/-- A sign that is shown, in memory. -/
theorem sign_at {B : Nat} {w : World} {D : Option Addr} {L : List (List C)} (h : Lines B w D L) (y x : Nat) (hy : y < L.length) (hx : x < (rowAt L y).length) : ∃ (tb tq rb ro c : Nat), D = some ⟨tb, tq, none⟩ ∧ w.cell? ⟨tb, tq + y, none⟩ = some (.slice (some ⟨rb, ro, none⟩) (rowAt L y).length c) ∧ (rowAt L y).length ≤ c ∧ w.cell? ⟨rb, ro + x * 2, none⟩ = some (.int .i32 (runeAt L y x)) := by
  obtain ⟨tb, tq, R, cr, eD, _, _, _, t0, hcr, hr⟩ := h.at y hy
  rw [← getD_at hy] at t0 hcr hr
  obtain ⟨rb, ro, rfl, _, _, _, y0, _⟩ := hr x hx
  refine ⟨tb, tq, rb, ro, cr, eD, t0, hcr, ?_⟩
  rw [y0]
  simp [runeAt, List.getD_eq_getElem?_getD, hx]

set_option maxHeartbeats 8000000 in
theorem pawake_any (w : World) : Calls Try.prog 24 #[] w (TrueBelow w) := by
  have RUN := aw7_run
  simp only [Bool.and_eq_true, decide_eq_true_eq] at RUN
  obtain ⟨⟨⟨⟨⟨⟨⟨a1, a2⟩, a3⟩, a4⟩, a5⟩, a6⟩, a7⟩, a8⟩ := RUN
  have ok1 : aw7q.Ok 3 2 := (newP_ok 3 2 (by omega) (by omega) (by omega) (by omega)).feedP aw7
  have ok2 : aw7r.Ok 3 2 := ok1.feedP [71, 88]
  have HF1 : Hid (∀ (wx : World) (F D E V : Option Addr) (f qq n c m d cv B : Nat), Esca.Ints wx B (.slice F f qq) (newP 3 2).e.par → Scr 0 wx D E n c m d (newP 3 2).s.L (newP 3 2).s.B → Esca.ReadB wx (.slice V 9 cv) aw7 → Calls Try.prog 20 #[pv (newP 3 2).e (.slice F f qq) (newP 3 2).s.p (.slice D n c) (.slice E m d), .slice V 9 cv] wx (PanePost wx aw7q.e aw7q.s.p aw7q.s.L aw7q.s.B)) := fun wx F D E V f qq n c m d cv B h1 h2 h3 =>
    pfeed_any (newP 3 2) aw7 F D E V f qq n c m d cv B wx (newP_ok 3 2 (by omega) (by omega) (by omega) (by omega)) h1 h2 h3 (by decide)
  have HF2 : Hid (∀ (wx : World) (F D E V : Option Addr) (f qq n c m d cv B : Nat), Esca.Ints wx B (.slice F f qq) aw7q.e.par → Scr 0 wx D E n c m d aw7q.s.L aw7q.s.B → Esca.ReadB wx (.slice V 2 cv) [71, 88] → Calls Try.prog 20 #[pv aw7q.e (.slice F f qq) aw7q.s.p (.slice D n c) (.slice E m d), .slice V 2 cv] wx (PanePost wx aw7r.e aw7r.s.p aw7r.s.L aw7r.s.B)) := fun wx F D E V f qq n c m d cv B h1 h2 h3 =>
    pfeed_any aw7q [71, 88] F D E V f qq n c m d cv B wx ok1 h1 h2 h3 (by decide)
  have HN : Hid (Calls Try.prog 21 #[.int .i64 3, .int .i64 2] w (PanePost w (newP 3 2).e (newP 3 2).s.p (newP 3 2).s.L (newP 3 2).s.B)) := newP_any 3 2 w (by omega) (by omega) (by omega) (by omega)
  have HB1 : Hid (Esca.okBytes aw7 = true) := by exact Lib.hid rfl
  have HB2 : Hid (Esca.okBytes [71, 88] = true) := by exact Lib.hid rfl
  have HK1 := Lib.hid ok1
  have HK2 := Lib.hid ok2
  have par1 : aw7q.e.par.length ≤ 1000 := by have := ok1.e.par; omega
  have HP1 := Lib.hid par1
  generalize aw7r = q2 at *
  generalize aw7q = q1 at *
  generalize newP 3 2 = q0 at *
  clear ok1 ok2 par1
  have HA := Lib.hid (And.intro a1 (And.intro a2 (And.intro a3 (And.intro a4 (And.intro a5 (And.intro a6 (And.intro a7 a8)))))))
  clear a1 a2 a3 a4 a5 a6 a7 a8
  go_enter Try.func24, Try.ntmps24
  have kc := fun (w : World) (C : Array Value) (n c g : Nat) (hg : g = w.heap.size) => Joins.run_convert_bytes_const_at (P := Try.prog) w 40 5 C n c g hg Try.underlying40 Try.underlying5
  go_upto_region 2 with (first
    | (go_at_call 21
       refine HN.out.mono ?_
       rintro e w1 ⟨F, f, q, D, n, c, E, m, d, rfl, i1, s1, b1⟩)
    | (go_at_call 20
       refine (HF1.out _ F D E _ f q n c m d _ w.heap.size (i1.alloc _) ((s1.weak (Nat.zero_le _)).below ((Below.refl _ _).alloc (Nat.le_refl _) _) (Nat.le_refl _)) (Esca.readB_new w1 aw7 _ 9 _ _ rfl (Esca.u8s_at HB1.out))).mono ?_
       rintro e w2 ⟨F2, f2, q2', D2, n2, c2, E2, m2, d2, rfl, i2, s2, b2⟩)
    | (with_reducible refine wpList_storePn (x := .tmp 1) (y := .tmp 7) (e := q1.e) (p := q1.s.p) (F := F2) (f := f2) (q := q2') (D := D2) (E := E2) (n := n2) (c := c2) (m := m2) (d := d2) ?_ ?_ ?_ ?_ ?_ ?_
       · with_reducible rfl
       · rfl
       · rfl
       · rfl
       · rfl))
  have hz1 := b1.size
  have hz2 := b2.size
  obtain ⟨A1, A2, A3, A4, A5, A6, A7, A8⟩ := HA.out
  obtain rfl : 2 = n2 := by rw [← s2.nr, A1]
  refine wp_world (fun wq => PBox wq w2.heap.size q1.e (.slice F2 f2 q2') q1.s.p (.slice D2 2 c2) (.slice E2 m2 d2) ∧ Esca.Ints wq 0 (.slice F2 f2 q2') q1.e.par ∧ Scr 0 wq D2 E2 2 c2 m2 d2 q1.s.L q1.s.B ∧ Below w.heap.size w wq) ⟨PBox.new _ _ _ _ _ _, (i2.base (Nat.zero_le _)).alloc _, (s2.weak (Nat.zero_le _)).below ((Below.refl _ _).alloc (Nat.le_refl _) _) (Nat.le_refl _), ((b1.alloc hz1 _).trans (b2.mono (by simp; omega))).alloc (by simp at hz2; omega) _⟩ ?_
  have hz3 : w.heap.size ≤ w2.heap.size := by simp at hz2; omega
  generalize w2.heap.size = g1 at *
  clear i1 s1 b1 i2 s2 b2 HN HF1 HB1 hz1 hz2
  rintro w3 ⟨x3, i3, s3, b3⟩
  have hg1 := x3.lt
  obtain ⟨tb, tq, rb, ro, cr, rfl, t1, hcr, y1⟩ := sign_at s3.rows 1 1 (by omega) (by omega)
  rw [A2] at t1 hcr
  rw [A3] at y1
  obtain ⟨_, _, _, _, _, u21, u22⟩ := x3.at
  have hc2 := s3.cr
  go_upto_region 4 with fail
  have x3' := x3
  go_upto_region 5 with (first
    | (with_reducible refine wpList_loadP x3 (x := .tmp 1) ?_ ?_ ?_ ?_
       · with_reducible rfl
       · rfl
       · rfl)
    | (go_at_call 20
       refine (HF2.out _ F2 _ E2 _ f2 q2' 2 c2 m2 d2 _ 0 (i3.alloc _) (s3.below ((Below.refl _ _).alloc (Nat.le_refl _) _) (Nat.le_refl _)) (Esca.readB_new w3 [71, 88] _ 2 _ _ rfl (Esca.u8s_at HB2.out))).mono ?_
       rintro e w4 ⟨F4, f4, q4', D4, n4, c4, E4, m4, d4, rfl, i4, s4, b4⟩)
    | (with_reducible refine wpList_storePn (x := .tmp 2) (y := .tmp 25) (e := q2.e) (p := q2.s.p) (F := F4) (f := f4) (q := q4') (D := D4) (E := E4) (n := n4) (c := c4) (m := m4) (d := d4) ?_ ?_ ?_ ?_ ?_ ?_
       · with_reducible rfl
       · rfl
       · rfl
       · rfl
       · rfl))
  have hz4 := b4.size
  have hz34 : w3.heap.size + 1 ≤ w4.heap.size := by simpa using hz4
  obtain rfl : 2 = n4 := by rw [← s4.nr, A5]
  have b34 : Below w3.heap.size w3 w4 := ((Below.refl _ w3).alloc (Nat.le_refl _) _).trans (b4.mono (by simp))
  have b35 : ∀ o, Below w3.heap.size w3 (w4.alloc o) := fun o => b34.alloc (by omega) o
  have hd5 : ∀ o, Below w4.heap.size w4 (w4.alloc o) := fun o => (Below.refl _ _).alloc (Nat.le_refl _) o
  refine wp_world (fun wq => PBox wq g1 q1.e (.slice F2 f2 q2') q1.s.p (.slice (some ⟨tb, tq, none⟩) 2 c2) (.slice E2 m2 d2) ∧ PBox wq w4.heap.size q2.e (.slice F4 f4 q4') q2.s.p (.slice D4 2 c4) (.slice E4 m4 d4) ∧ Below w3.heap.size w3 wq ∧ Scr 0 wq D4 E4 2 c4 m4 d4 q2.s.L q2.s.B) ⟨x3'.below (b35 _) hg1, PBox.new _ _ _ _ _ _, b35 _, (s4.weak (Nat.zero_le _)).below (hd5 _) (Nat.le_refl _)⟩ ?_
  generalize w4.heap.size = g2 at *
  clear i4 s4 b4 b34 b35 hd5 HF2 HB2 hz4 u21 u22 t1 y1
  rintro w5 ⟨x5, x6, b5, s6⟩
  have i5 := i3.below b5 (Nat.le_refl _)
  have s5 := s3.below b5 (Nat.le_refl _)
  have B5 : Below w.heap.size w w5 := b3.trans (b5.mono b3.size)
  clear i3 s3 b3 b5 x3 x3'
  have HR := Lib.hid (presize_any q1.e F2 f2 q2' 0 q1.s.p (some ⟨tb, tq, none⟩) E2 2 c2 m2 d2 q1.s.L q1.s.B 2 1 w5 i5 HP1.out s5 (by rw [← s5.nb]; exact HK1.out.k.ok.bn) HK1.out.k.ok.back)
  rw [show sideF 2 = 2 by unfold sideF; omega, show sideF 1 = 1 by unfold sideF; omega] at HR
  go_upto_region 6 with (first
    | (with_reducible refine wpList_loadP x5 (x := .tmp 1) ?_ ?_ ?_ ?_
       · with_reducible rfl
       · rfl
       · rfl)
    | (go_at_call 22
       refine HR.out.mono ?_
       rintro e w7 ⟨F7, f7, q7', D7, n7, c7, E7, m7, d7, rfl, i7, s7, b7⟩)
    | (with_reducible refine wpList_storePn (x := .tmp 3) (y := .tmp 27) (e := q1.e) (p := sizedNm q1.s.p 2 1) (F := F7) (f := f7) (q := q7') (D := D7) (E := E7) (n := n7) (c := c7) (m := m7) (d := d7) ?_ ?_ ?_ ?_ ?_ ?_
       · with_reducible rfl
       · rfl
       · rfl
       · rfl
       · rfl))
  have b57 : ∀ o, Below w5.heap.size w5 (w7.alloc o) := fun o => b7.alloc b7.size o
  have hg5 := x5.lt
  have hg6 := x6.lt
  refine wp_world (fun wq => PBox wq g1 q1.e (.slice F2 f2 q2') q1.s.p (.slice (some ⟨tb, tq, none⟩) 2 c2) (.slice E2 m2 d2) ∧ PBox wq g2 q2.e (.slice F4 f4 q4') q2.s.p (.slice D4 2 c4) (.slice E4 m4 d4) ∧ PBox wq w7.heap.size q1.e (.slice F7 f7 q7') (sizedNm q1.s.p 2 1) (.slice D7 n7 c7) (.slice E7 m7 d7) ∧ Below w5.heap.size w5 wq) ⟨x5.below (b57 _) hg5, x6.below (b57 _) hg6, PBox.new _ _ _ _ _ _, b57 _⟩ ?_
  generalize w7.heap.size = g3 at *
  clear i7 s7 b7 b57 HR x5 x6
  rintro w8 ⟨x5, x6, x7, b8⟩
  have i8 := i5.below b8 (Nat.le_refl _)
  have s8 := s5.below b8 (Nat.le_refl _)
  have s9 := s6.below b8 (Nat.le_refl _)
  have B8 : Below w.heap.size w w8 := B5.trans (b8.mono B5.size)
  clear i5 s5 s6 b8 B5 hg1 hg5 hg6
  obtain ⟨tb', tq', rb', ro', cr', eT, t1, hcr', y1⟩ := sign_at s8.rows 1 1 (by omega) (by omega)
  cases eT
  obtain ⟨tb2, tq2, rb2, ro2, cr2, rfl, t2, hcr2, y2⟩ := sign_at s9.rows 1 0 (by omega) (by omega)
  rw [A2] at t1 hcr'
  rw [A3] at y1
  rw [A6] at t2 hcr2
  rw [A7, Nat.zero_mul, Nat.add_zero] at y2
  have k1 := x5.at
  have k2 := x6.at
  have k3 := x7.at
  rw [A4] at k1 k3
  rw [A8] at k2
  obtain ⟨u0, _, _, _, _, u21, u22⟩ := k1
  obtain ⟨v0, _, _, _, _, v21, v22⟩ := k2
  obtain ⟨t0, tw, _, _, _, _, _⟩ := k3
  have tw' : w8.cell? ⟨g3, 8, none⟩ = some (.int .i64 2) := tw
  clear tw
  have HT := Lib.hid (fun wx (hb : Below w8.heap.size w8 wx) => psameT_any q1.e q1.s.p F2 (some ⟨tb, tq, none⟩) E2 F2 (some ⟨tb, tq, none⟩) E2 f2 q2' 2 c2 m2 d2 f2 q2' c2 d2 0 0 q1.s.L q1.s.B wx (i8.below hb (Nat.le_refl _)) (i8.below hb (Nat.le_refl _)) HP1.out (s8.below hb (Nat.le_refl _)) (s8.below hb (Nat.le_refl _)) (by omega) (by rw [← s8.nb]; have := HK1.out.k.ok.bn; omega) HK1.out.k.rows HK1.out.k.ok.back)
  have HFa := Lib.hid (fun wx => psameF_any q1.e q2.e q1.s.p q2.s.p F2 (some ⟨tb, tq, none⟩) E2 F4 (some ⟨tb2, tq2, none⟩) E4 f2 q2' 2 c2 m2 d2 f4 q4' 2 c4 m4 d4 wx (by rw [A4, A8]; decide))
  clear i8 s8 s9
  have hg5 := x5.lt
  have hg6 := x6.lt
  go_wp2_with (first
    | (with_reducible refine wpList_loadP z5 (x := .tmp 1) ?_ ?_ ?_ ?_
       · with_reducible rfl
       · rfl
       · rfl)
    | (with_reducible refine wpList_loadP z6 (x := .tmp 2) ?_ ?_ ?_ ?_
       · with_reducible rfl
       · rfl
       · rfl)
    | (go_at_call 46
       refine (HFa.out w9).mono ?_
       rintro e w10 ⟨rfl, b10⟩)
    | (with_reducible refine wpList_loadP x5 (x := .tmp 1) ?_ ?_ ?_ ?_
       · with_reducible rfl
       · rfl
       · rfl)
    | (go_at_call 46
       refine (HT.out _ (Below.refl _ _)).mono ?_
       rintro e w9 ⟨rfl, b9⟩
       have z5 := x5.below b9 hg5
       have z6 := x6.below b9 hg6))
  go_ret
  exact ⟨rfl, (B8.trans (b9.mono B8.size)).trans (b10.mono (B8.trans (b9.mono B8.size)).size)⟩
end Go.Proofs.Ytpcpmeihebgncaa
