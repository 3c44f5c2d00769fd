/-
  A pane in memory: where it is in an escape, and its screen, twenty-three cells in one block; whole, or one of its two parts, out of and into it. No condition.
-/
import Derived.Test.YtpcpmeihebgncaaEFeed
import Derived.Test.YtpcpmeihebgncaaApply
import Derived.Deep.MidRow
namespace Go.Proofs.Ytpcpmeihebgncaa
open Go.RowKit
set_option maxRecDepth 100000

def pcs (e : Esca.E) (P : Value) (p : Nm) (r b : Value) : Array Value := #[.int .i64 e.mode, .int .i64 e.u.n, .int .i64 e.u.m, .int .i64 e.u.g, P, .int .i64 e.num, .bool e.priv, .bool e.skip, .int .i64 p.w, .int .i64 p.h, .int .i64 p.x, .int .i64 p.y, .bool p.wrap, .int .i64 p.a, .int .i64 p.top, .int .i64 p.bottom, .int .i64 p.sx, .int .i64 p.sy, .int .i64 p.sa, .bool p.noWrap, .bool p.hidden, r, b]
def pv (e : Esca.E) (P : Value) (p : Nm) (r b : Value) : Value := .agg (pcs e P p r b)
def PBox (w : World) (g : Nat) (e : Esca.E) (P : Value) (p : Nm) (r b : Value) : Prop := Held w g 37 (pcs e P p r b)
theorem pcs_size (e : Esca.E) (P : Value) (p : Nm) (r b : Value) : (pcs e P p r b).size = 23 := rfl
theorem pcs_one (e : Esca.E) (p : Nm) (F D E : Option Addr) (f q n c m d : Nat) : (pcs e (.slice F f q) p (.slice D n c) (.slice E m d)).all (·.oneCell') = true := by simp [pcs, Value.oneCell']
theorem escC_one (e : Esca.E) (F : Option Addr) (f q : Nat) : (Esca.escC e (.slice F f q)).all (·.oneCell') = true := by simp [Esca.escC, Value.oneCell']
theorem pbox_size : (Try.prog.info? 37).map (·.size) = some 23 := by kernel_rfl
theorem ebox_size : (Try.prog.info? 32).map (·.size) = some 8 := by kernel_rfl
theorem PBox.lt {w : World} {g : Nat} {e : Esca.E} {P : Value} {p : Nm} {r b : Value} (h : PBox w g e P p r b) : g < w.heap.size := Held.lt h
theorem PBox.below {w w' : World} {g C : Nat} {e : Esca.E} {P : Value} {p : Nm} {r b : Value} (h : PBox w g e P p r b) (hb : Below C w w') (hC : g < C) : PBox w' g e P p r b := Held.below h hb hC
theorem PBox.alloc {w : World} {g : Nat} {e : Esca.E} {P : Value} {p : Nm} {r b : Value} (h : PBox w g e P p r b) (o : Obj) : PBox (w.alloc o) g e P p r b := Held.alloc h o
theorem PBox.new (w : World) (e : Esca.E) (P : Value) (p : Nm) (r b : Value) : PBox (w.alloc (.cells (pcs e P p r b) 37)) w.heap.size e P p r b := Held.new _ _ _
theorem PBox.drew {w : World} {g : Nat} {e : Esca.E} {P : Value} {p : Nm} {r b : Value} (h : PBox w g e P p r b) : PBox w.drew g e P p r b := h
theorem PBox.other {w : World} {g k : Nat} {e : Esca.E} {P : Value} {p : Nm} {r b : Value} (h : PBox w g e P p r b) (hk : g ≠ k) (cs : Array Value) : PBox (w.setRow k cs) g e P p r b := (setRow_other _ _ _ _ hk).trans h
theorem PBox.setRow {w : World} {g : Nat} {e : Esca.E} {P : Value} {p : Nm} {r b : Value} (h : PBox w g e P p r b) (e' : Esca.E) (P' : Value) (p' : Nm) (r' b' : Value) : PBox (w.setRow g (pcs e' P' p' r' b')) g e' P' p' r' b' := setRow_heap w g _ _ 37 (0, 0) h
/-- Cells, from a place on, are others. -/
def setMany (cs : Array Value) : Nat → List Value → Array Value
  | _, [] => cs
  | o, v :: r => setMany (cs.setIfInBounds o v) (o + 1) r
theorem setCells_row (g : Nat) (t : TypeId) : ∀ (vs : List Value) (o : Nat) (w : World) (cs : Array Value), w.heap[g]? = some (.cells cs t (0, 0)) → w.setCells g o vs = w.setRow g (setMany cs o vs)
  | [], o, w, cs, h => (setRow_self w g cs t (0, 0) h).symm
  | v :: r, o, w, cs, h => by
    show (w.setCell ⟨g, o, none⟩ v).setCells g (o + 1) r = _
    rw [setCells_row g t r (o + 1) _ (cs.setIfInBounds o v) (heap_setCell_same w g o cs t v h), setCell_eq_setRow w g o cs t (0, 0) v h, setRow_setRow]
    rfl
theorem pbox_range {w : World} {g : Nat} {cs : Array Value} {t : TypeId} (h : Held w g t cs) (o : Nat) (vs : List Value) (hv : ∀ j, j < vs.length → cs[o + j]? = vs[j]?) : w.rangeAt g o vs := fun j v hj => by
  rw [Held.cell h, hv j ((List.getElem?_eq_some_iff.1 hj).1), hj]
theorem pbox_there {w : World} {g : Nat} {cs : Array Value} {t : TypeId} (h : Held w g t cs) (o n : Nat) (hn : o + n ≤ cs.size) : w.there g o n := fun j hj => by
  refine ⟨?_, h.frozen _⟩
  rw [Held.cell h]
  simp; omega
theorem pe_at (e : Esca.E) (P : Value) (p : Nm) (r b : Value) : ∀ j, j < (Esca.escC e P).toList.length → (pcs e P p r b)[0 + j]? = (Esca.escC e P).toList[j]? := by
  intro j hj
  simp only [Esca.escC, List.length_cons, List.length_nil] at hj
  match j, hj with
  | 0, _ => rfl
  | 1, _ => rfl
  | 2, _ => rfl
  | 3, _ => rfl
  | 4, _ => rfl
  | 5, _ => rfl
  | 6, _ => rfl
  | 7, _ => rfl
theorem pg_at (e : Esca.E) (P : Value) (p : Nm) (r b : Value) : ∀ j, j < (gcs p r b).toList.length → (pcs e P p r b)[8 + j]? = (gcs p r b).toList[j]? := by
  intro j hj
  simp only [gcs, List.length_cons, List.length_nil] at hj
  match j, hj with
  | 0, _ => rfl
  | 1, _ => rfl
  | 2, _ => rfl
  | 3, _ => rfl
  | 4, _ => rfl
  | 5, _ => rfl
  | 6, _ => rfl
  | 7, _ => rfl
  | 8, _ => rfl
  | 9, _ => rfl
  | 10, _ => rfl
  | 11, _ => rfl
  | 12, _ => rfl
  | 13, _ => rfl
  | 14, _ => rfl
theorem put_e (e e' : Esca.E) (P P' : Value) (p : Nm) (r b : Value) : setMany (pcs e P p r b) 0 (Esca.escC e' P').toList = pcs e' P' p r b := by
  simp only [setMany, pcs, Esca.escC, List.setIfInBounds_toArray, List.set_cons_zero, List.set_cons_succ, Nat.reduceAdd]
theorem put_g (e : Esca.E) (P : Value) (p p' : Nm) (r b r' b' : Value) : setMany (pcs e P p r b) 8 (gcs p' r' b').toList = pcs e P p' r' b' := by
  simp only [setMany, pcs, gcs, List.setIfInBounds_toArray, List.set_cons_zero, List.set_cons_succ, Nat.reduceAdd]

section
variable {ops : Array Oper} {rest : List Oper} {o : Oper} {a : Act} {w : World} {Q : Exit → Act → World → Prop} {K : Act → World → Prop} {x y : Operand} {g : Nat} {e e' : Esca.E} {P : Value} {p p' : Nm} {r b : Value}
/-- A whole pane is read. -/
theorem wpList_loadP (h : PBox w g e P p r b) (ho : o.op = .load 37 x) (hw : Region.wanted o (yielded ops a.tmps) = true) (hx : a.eval x = .pointer (some ⟨g, 0, none⟩))
    (k : wpList Try.prog ops Q rest (a.put o.dst (pv e P p r b)) w) : wpList Try.prog ops Q (o :: rest) a w :=
  wpList_step fun _ hK => by
    rw [if_pos hw]
    exact wp_load_row 37 x ho g hx 37 (pcs e P p r b) (0, 0) _ h Try.underlying37 rfl pbox_size (hK _ _ k)
/-- Its place in an escape is read. -/
theorem wpList_loadPE (h : PBox w g e P p r b) (ho : o.op = .load 32 x) (hw : Region.wanted o (yielded ops a.tmps) = true) (hx : a.eval x = .pointer (some ⟨g, 0, none⟩))
    (k : wpList Try.prog ops Q rest (a.put o.dst (Esca.escV e P)) w) : wpList Try.prog ops Q (o :: rest) a w :=
  wpList_step fun _ hK => by
    rw [if_pos hw]
    exact wp_load_mid 32 x ho g 0 hx (Esca.escC e P).toList _ (pbox_range h 0 _ (pe_at e P p r b)) Try.underlying32 rfl ebox_size (hK _ _ k)
/-- Its screen is read. -/
theorem wpList_loadPG (h : PBox w g e P p r b) (ho : o.op = .load 35 x) (hw : Region.wanted o (yielded ops a.tmps) = true) (hx : a.eval x = .pointer (some ⟨g, 8, none⟩))
    (k : wpList Try.prog ops Q rest (a.put o.dst (gv p r b)) w) : wpList Try.prog ops Q (o :: rest) a w :=
  wpList_step fun _ hK => by
    rw [if_pos hw]
    exact wp_load_mid 35 x ho g 8 hx (gcs p r b).toList _ (pbox_range h 8 _ (pg_at e P p r b)) Try.underlying35 rfl box_size (hK _ _ k)
/-- The same two in a region that draws its order. -/
theorem yields_loadPE {S : World → Prop} (hw : Region.wanted o (yielded ops a.tmps) = true) (ho : o.op = .load 32 x) (hx : a.eval x = .pointer (some ⟨g, 0, none⟩)) (hS : ∀ w, S w → PBox w g e P p r b) : YieldsIf Try.prog ops S o (Esca.escV e P) a :=
  yieldsIf_load_mid hw 32 x ho g 0 hx (Esca.escC e P).toList _ (fun w h => pbox_range (hS w h) 0 _ (pe_at e P p r b)) Try.underlying32 rfl ebox_size
theorem yields_loadPG {S : World → Prop} (hw : Region.wanted o (yielded ops a.tmps) = true) (ho : o.op = .load 35 x) (hx : a.eval x = .pointer (some ⟨g, 8, none⟩)) (hS : ∀ w, S w → PBox w g e P p r b) : YieldsIf Try.prog ops S o (gv p r b) a :=
  yieldsIf_load_mid hw 35 x ho g 8 hx (gcs p r b).toList _ (fun w h => pbox_range (hS w h) 8 _ (pg_at e P p r b)) Try.underlying35 rfl box_size
/-- A whole pane is stored where one lies. -/
theorem wp_storeP {F D E : Option Addr} {f q n c m d : Nat} {P0 r0 b0 : Value} (h : PBox w g e P0 p r0 b0) (ho : o.op = .store 37 x y) (hx : a.eval x = .pointer (some ⟨g, 0, none⟩)) (hy : a.eval y = pv e' (.slice F f q) p' (.slice D n c) (.slice E m d))
    (k : K (a.put o.dst undef) (w.setRow g (pcs e' (.slice F f q) p' (.slice D n c) (.slice E m d)))) : Oper.wp Try.prog o a w K Q :=
  wp_store_row 37 x y ho g _ hx hy 37 _ h pbox_size (pcs_size _ _ _ _ _) (pcs_one _ _ _ _ _ _ _ _ _ _ _) k
theorem wpList_storeP {F D E : Option Addr} {f q n c m d : Nat} {P0 r0 b0 : Value} (h : PBox w g e P0 p r0 b0) (ho : o.op = .store 37 x y) (hw : Region.wanted o (yielded ops a.tmps) = true) (hx : a.eval x = .pointer (some ⟨g, 0, none⟩)) (hy : a.eval y = pv e' (.slice F f q) p' (.slice D n c) (.slice E m d))
    (k : wpList Try.prog ops Q rest (a.put o.dst undef) (w.setRow g (pcs e' (.slice F f q) p' (.slice D n c) (.slice E m d)))) : wpList Try.prog ops Q (o :: rest) a w :=
  wpList_step fun _ hK => by
    rw [if_pos hw]
    exact wp_storeP h ho hx hy (hK _ _ k)
/-- Its place in an escape is stored. -/
theorem wpList_storePE {F D E : Option Addr} {f q n c m d : Nat} (h : PBox w g e (.slice F f q) p (.slice D n c) (.slice E m d)) {F' : Option Addr} {f' q' : Nat} (ho : o.op = .store 32 x y) (hw : Region.wanted o (yielded ops a.tmps) = true) (hx : a.eval x = .pointer (some ⟨g, 0, none⟩)) (hy : a.eval y = Esca.escV e' (.slice F' f' q'))
    (k : wpList Try.prog ops Q rest (a.put o.dst undef) (w.setRow g (pcs e' (.slice F' f' q') p (.slice D n c) (.slice E m d)))) : wpList Try.prog ops Q (o :: rest) a w :=
  wpList_step fun _ hK => by
    rw [if_pos hw]
    refine wp_store_mid 32 x y ho g 0 (Esca.escC e' (.slice F' f' q')) hx hy (pbox_there h 0 _ (by show 0 + 8 ≤ 23; omega)) ebox_size (escC_one _ _ _ _) ?_
    rw [setCells_row g 37 _ 0 w _ h, put_e]
    exact hK _ _ k
/-- Its screen is stored. -/
theorem wpList_storePG {F D E : Option Addr} {f q n c m d : Nat} (h : PBox w g e (.slice F f q) p (.slice D n c) (.slice E m d)) {D' E' : Option Addr} {n' c' m' d' : Nat} (ho : o.op = .store 35 x y) (hw : Region.wanted o (yielded ops a.tmps) = true) (hx : a.eval x = .pointer (some ⟨g, 8, none⟩)) (hy : a.eval y = gv p' (.slice D' n' c') (.slice E' m' d'))
    (k : wpList Try.prog ops Q rest (a.put o.dst undef) (w.setRow g (pcs e (.slice F f q) p' (.slice D' n' c') (.slice E' m' d')))) : wpList Try.prog ops Q (o :: rest) a w :=
  wpList_step fun _ hK => by
    rw [if_pos hw]
    refine wp_store_mid 35 x y ho g 8 (gcs p' (.slice D' n' c') (.slice E' m' d')) hx hy (pbox_there h 8 _ (by show 8 + 15 ≤ 23; omega)) box_size (gcs_one _ _ _ _ _ _ _) ?_
    rw [setCells_row g 37 _ 8 w _ h, put_g]
    exact hK _ _ k
end
/-- What a call that answers a pane leaves. -/
def PanePost (w : World) (e : Esca.E) (p : Nm) (L Bk : List (List C)) (x : Ending) (w' : World) : Prop :=
  ∃ F f q D n c E m d, x = .returned (pv e (.slice F f q) p (.slice D n c) (.slice E m d)) ∧ Esca.Ints w' w.heap.size (.slice F f q) e.par ∧ Scr w.heap.size w' D E n c m d L Bk ∧ Below w.heap.size w w'
/-- A part of memory that stays: blocks at or above B. -/
theorem Scr.eq {B : Nat} {w w' : World} {D E : Option Addr} {n c m d : Nat} {L Bk : List (List C)} (hs : Scr B w D E n c m d L Bk) (hz : w.heap.size ≤ w'.heap.size) (hf : ∀ b, B ≤ b → w'.heap[b]? = w.heap[b]?) : Scr B w' D E n c m d L Bk := ⟨hs.rows.eq hz hf, hs.back.eq hz hf, hs.nr, hs.nb, hs.cr, hs.cb⟩
theorem Scr.put {B : Nat} {w : World} {k : Nat} {D E : Option Addr} {n c m d : Nat} {L Bk : List (List C)} (hs : Scr B w D E n c m d L Bk) (hk : k < B) (cs : Array Value) : Scr B (w.setRow k cs) D E n c m d L Bk := hs.eq (by simp) fun b hb => setRow_other _ _ _ _ (by omega)
theorem ints_put {B : Nat} {w : World} {k : Nat} {v : Value} {l : List Int} (h : Esca.Ints w B v l) (hk : k < B) (cs : Array Value) : Esca.Ints (w.setRow k cs) B v l := by
  exact Esca.Ints.moved (row := some k) h (fun j _ hj => setRow_other _ _ _ _ (fun e => hj (by rw [e]))) fun j hj => fun e => by
    have := (World.ownsRow.lt h j hj).1
    cases e
    omega
end Go.Proofs.Ytpcpmeihebgncaa
