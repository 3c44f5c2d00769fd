/-
  What Feed of package pane answers: each byte's actions, one behind the other. Conditions: the screen is whole, the place in an escape is one that steps make, at most three hundred thousand bytes.
-/
import Derived.Test.YtpcpmeihebgncaaPFun
import Derived.Test.YtpcpmeihebgncaaAct2
import Derived.Test.YtpcpmeihebgncaaAct3
namespace Go.Proofs.Ytpcpmeihebgncaa
open Go.RowKit
set_option maxRecDepth 100000

/-- A pane: where it is in an escape, its screen. -/
structure PM where
  e : Esca.E
  s : WS
def actsF (s : WS) (l : List Esca.A) : WS := l.foldl (fun s a => actF s a.k a.r a.par) s
def feed1 (q : PM) (b : Int) : PM := ⟨(Esca.nxE q.e b).1, actsF q.s (Esca.nxE q.e b).2⟩
def feedP (q : PM) (bs : List Int) : PM := bs.foldl feed1 q
theorem feedP_app (q : PM) (a b : List Int) : feedP q (a ++ b) = feedP (feedP q a) b := by simp [feedP]
/-- Whole: its place is one that steps make, its screen is whole. -/
structure PM.Ok (W H : Nat) (q : PM) : Prop where
  e : q.e.Ok
  k : Wk W H q.s
  w : WrOk W q.s
theorem actsF_ok {W H : Nat} : ∀ (l : List Esca.A) (s : WS), Wk W H s → WrOk W s → Wk W H (actsF s l) ∧ WrOk W (actsF s l) ∧ s.B.length ≤ (actsF s l).B.length
  | [], s, h, hw => ⟨h, hw, Nat.le_refl _⟩
  | a :: l, s, h, hw => by
    have g := Goes.act h hw a.k a.r a.par
    have r := actsF_ok l _ g.k g.wr
    exact ⟨r.1, r.2.1, Nat.le_trans g.back r.2.2⟩
theorem PM.Ok.feed1 {W H : Nat} {q : PM} (h : q.Ok W H) (b : Int) : (Ytpcpmeihebgncaa.feed1 q b).Ok W H := by
  have r := actsF_ok (Esca.nxE q.e b).2 q.s h.k h.w
  exact ⟨Esca.nxE_ok q.e b h.e, r.1, r.2.1⟩
theorem PM.Ok.feedP {W H : Nat} : ∀ (bs : List Int) {q : PM}, q.Ok W H → (Ytpcpmeihebgncaa.feedP q bs).Ok W H
  | [], _, h => h
  | b :: bs, _, h => PM.Ok.feedP bs (h.feed1 b)

/-- A pane's place in an escape, as it lies in a variable of its own. -/
def EBox (w : World) (g : Nat) (e : Esca.E) (P : Value) : Prop := Held w g 32 (Esca.escC e P)
section
variable {ops : Array Oper} {rest : List Oper} {o : Oper} {a : Act} {w : World} {Q : Exit → Act → World → Prop} {x y : Operand} {g : Nat} {e : Esca.E} {P : Value}
theorem wpList_loadE' (h : EBox w g e P) (ho : o.op = .load 32 x) (hw : Region.wanted o (yielded ops a.tmps) = true) (hx : a.eval x = .pointer (some ⟨g, 0, none⟩))
    (k : wpList Try.prog ops Q rest (a.put o.dst (Esca.escV e P)) w) : wpList Try.prog ops Q (o :: rest) a w :=
  wpList_step fun _ hK => by
    rw [if_pos hw]
    exact wp_load_row 32 x ho g hx 32 (Esca.escC e P) (0, 0) _ h Try.underlying32 rfl ebox_size (hK _ _ k)
theorem wpList_storeE' {z : Array Value} {F : Option Addr} {f q : Nat}
    (ho : o.op = .store 32 x y) (hw : Region.wanted o (yielded ops a.tmps) = true) (hz : z.size = 8) (hx : a.eval x = .pointer (some ⟨w.heap.size, 0, none⟩)) (hy : a.eval y = Esca.escV e (.slice F f q))
    (k : wpList Try.prog ops Q rest (a.put o.dst undef) (w.alloc (.cells (Esca.escC e (.slice F f q)) 32))) : wpList Try.prog ops Q (o :: rest) a (w.alloc (.cells z 32)) :=
  wpList_step fun _ hK => by
    rw [if_pos hw]
    refine wp_store_row 32 x y ho w.heap.size _ hx hy 32 z (heap_alloc_last w _) ebox_size hz (escC_one _ _ _ _) ?_
    rw [World.setRow_alloc_new]
    exact hK _ _ k
end

/-- Behind some bytes: the pane so far in the first block, the answer in the second. -/
structure FS (w : World) (q : PM) (F D E : Option Addr) (f qq n c m d : Nat) (wr : World) : Prop where
  box : PBox wr w.heap.size q.e (.slice F f qq) q.s.p (.slice D n c) (.slice E m d)
  ans : PBox wr (w.heap.size + 1) Esca.E.zero nilV zeroNm nilV nilV
  par : Esca.Ints wr (w.heap.size + 2) (.slice F f qq) q.e.par
  scr : Scr (w.heap.size + 2) wr D E n c m d q.s.L q.s.B
  below : Below w.heap.size w wr
def FRel (w : World) (q0 : PM) (bs : List Int) (i : Value) (wr : World) : Prop := ∃ (k : Nat) (F D E : Option Addr) (f qq n c m d : Nat), i = .int .i64 (k : Int) ∧ k ≤ bs.length ∧ FS w (feedP q0 (bs.take k)) F D E f qq n c m d wr
theorem FS.next {w : World} {q : PM} {F D E : Option Addr} {f qq n c m d : Nat} {wr wy : World} (h : FS w q F D E f qq n c m d wr) (hb : Below wr.heap.size wr wy) : FS w q F D E f qq n c m d wy :=
  ⟨h.box.below hb h.box.lt, h.ans.below hb h.ans.lt, h.par.below hb (Nat.le_refl _), h.scr.below hb (Nat.le_refl _), h.below.trans (hb.mono h.below.size)⟩
/-- Ahead of the actions: what they are, and where. -/
def ARel (w : World) (e : Esca.E) (s0 : WS) (l : List Esca.A) (v : Value) (i : Value) (wr : World) : Prop := ∃ (j : Nat) (F D E : Option Addr) (f qq n c m d : Nat), i = .int .i64 (j : Int) ∧ j ≤ l.length ∧ FS w ⟨e, actsF s0 (l.take j)⟩ F D E f qq n c m d wr ∧ Esca.Acts wr (w.heap.size + 2) v l
theorem actsF_take (s : WS) (l : List Esca.A) (j : Nat) (a : Esca.A) (h : l[j]? = some a) : actsF s (l.take (j + 1)) = actF (actsF s (l.take j)) a.k a.r a.par := by
  rw [List.take_add_one, h]
  simp [actsF]
theorem feedP_take (q : PM) (bs : List Int) (k : Nat) (z : Int) (h : bs[k]? = some z) : feedP q (bs.take (k + 1)) = feed1 (feedP q (bs.take k)) z := by
  rw [List.take_add_one, h]
  simp [feedP]
theorem acts_put {B : Nat} {w : World} {k : Nat} {v : Value} {l : List Esca.A} (h : Esca.Acts w B v l) (hk : k < B) (cs : Array Value) : Esca.Acts (w.setRow k cs) B v l := by
  obtain ⟨ps, e, ho⟩ := h
  have f : ∀ j, j < w.heap.size → some j ≠ some k → (w.setRow k cs).heap[j]? = w.heap[j]? := fun j _ hj => setRow_other _ _ _ _ (fun e => hj (by rw [e]))
  refine ⟨ps, e, ?_, fun x hx => ⟨ints_put (ho.pars x hx).1 hk cs, (ho.pars x hx).2⟩⟩
  refine ⟨ho.row.1, ?_⟩
  rcases ho.row.2 with hn | ⟨g, cap, cur, hv, hb, hgg, rest⟩
  · exact .inl hn
  · refine .inr ⟨g, cap, cur, hv, hb, ?_, rest⟩
    rw [f g (Array.getElem?_eq_some_iff.1 hgg).1 (by intro e; cases e; omega)]
    exact hgg
theorem readI_ints {w : World} {B : Nat} {v : Value} {l : List Int} (h : Esca.Ints w B v l) : ReadI w v l := by
  obtain ⟨D, c, rfl, hk⟩ := h.read
  refine ⟨D, c, rfl, fun k hkl => ?_⟩
  obtain ⟨b, z, rfl, hz, hc⟩ := hk k hkl
  exact ⟨b, 0, z, rfl, block_lt_of_cell hc, hz, by simpa using hc⟩
end Go.Proofs.Ytpcpmeihebgncaa
