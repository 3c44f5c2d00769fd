/-
  That the law's awake answers true: a pane of three by two is fed, and made smaller. No condition.
-/
import Derived.Test.YtpcpmeihebgncaaPFeedW
import Derived.Test.YtpcpmeihebgncaaPRes
import Derived.Test.YtpcpmeihebgncaaPSame
import Derived.Test.YtpcpmeihebgncaaSameG
namespace Go.Proofs.Ytpcpmeihebgncaa
open Go.RowKit
set_option maxRecDepth 100000

namespace Esca
def u8s (bs : List Int) : List Value := bs.map (Value.int .u8)
/-- A row of bytes that was just laid, with whatever mark. -/
theorem readB_new (w : World) (bs : List Int) (cs : Array Value) (n c : Nat) (fr : Nat × Nat) (hn : bs.length = n) (hc : ∀ (k : Nat) (z : Int), bs[k]? = some z → cs[k]? = some (Value.int .u8 z) ∧ 0 ≤ z ∧ z ≤ 255) : ReadB (w.alloc (.cells cs 5 fr)) (.slice (some ⟨w.heap.size, 0, none⟩) n c) bs := by
  subst hn
  refine ⟨_, _, rfl, fun k hk => ?_⟩
  obtain ⟨z, hz⟩ : ∃ z, bs[k]? = some z := ⟨bs[k], List.getElem?_eq_getElem hk⟩
  obtain ⟨h1, h2, h3⟩ := hc k z hz
  refine ⟨w.heap.size, 0, z, rfl, by simp, hz, ?_, h2, h3⟩
  rw [Nat.zero_add, cell_of_row (w.alloc (.cells cs 5 fr)) w.heap.size k cs 5 fr (heap_alloc_new w _)]
  exact h1
def okBytes (bs : List Int) : Bool := bs.all fun z => decide (0 ≤ z) && decide (z ≤ 255)
theorem u8s_at {bs : List Int} (h : okBytes bs = true) : ∀ (k : Nat) (z : Int), bs[k]? = some z → (u8s bs).toArray[k]? = some (Value.int .u8 z) ∧ 0 ≤ z ∧ z ≤ 255 := by
  intro k z hz
  have hm := List.mem_of_getElem? hz
  have := List.all_eq_true.1 h z hm
  simp only [Bool.and_eq_true, decide_eq_true_eq] at this
  refine ⟨?_, this.1, this.2⟩
  simp [u8s, hz]
theorem ReadB.below {w w' : World} {B : Nat} {v : Value} {bs : List Int} (h : ReadB w v bs) (hb : Below B w w') (hB : w.heap.size ≤ B) : ReadB w' v bs := by
  obtain ⟨D, c, e, h⟩ := h
  refine ⟨D, c, e, fun k hk => ?_⟩
  obtain ⟨b, off, z, h1, h2, h3, h4, h5⟩ := h k hk
  have hs := hb.size
  exact ⟨b, off, z, h1, by omega, h3, (hb.cell (p := ⟨b, off + k, none⟩) (Nat.lt_of_lt_of_le h2 hB)).trans h4, h5⟩
end Esca
theorem wpList_storePn {ops : Array Oper} {rest : List Oper} {o : Oper} {a : Act} {w : World} {Q : Exit → Act → World → Prop} {x y : Operand} {z : Array Value} {e : Esca.E} {p : Nm} {F D E : Option Addr} {f q n c m d : Nat}
    (ho : o.op = .store 37 x y) (hw : Region.wanted o (yielded ops a.tmps) = true) (hz : z.size = 23) (hx : a.eval x = .pointer (some ⟨w.heap.size, 0, none⟩)) (hy : a.eval y = pv e (.slice F f q) p (.slice D n c) (.slice E m d))
    (k : wpList Try.prog ops Q rest (a.put o.dst undef) (w.alloc (.cells (pcs e (.slice F f q) p (.slice D n c) (.slice E m d)) 37))) : wpList Try.prog ops Q (o :: rest) a (w.alloc (.cells z 37)) :=
  wpList_step fun _ hK => by
    rw [if_pos hw]
    refine wp_store_row 37 x y ho w.heap.size _ hx hy 37 z (heap_alloc_last w _) pbox_size hz (pcs_one _ _ _ _ _ _ _ _ _ _ _) ?_
    rw [World.setRow_alloc_new]
    exact hK _ _ k

/-- A new pane. -/
def newP (W H : Nat) : PM := ⟨Esca.E.zero, ⟨newNm W H, blankL W H, []⟩⟩
theorem newP_ok (W H : Nat) (h0 : 1 ≤ W) (h1 : W ≤ 1000) (h2 : 1 ≤ H) (h3 : H ≤ 1000) : (newP W H).Ok W H := by
  refine ⟨Esca.E.zero_ok, ⟨⟨rfl, rfl, ?_, ?_, ?_, ?_, ?_, ?_, ?_, ?_⟩, h0, h1, h2, h3, ?_, ?_, ?_⟩, ?_⟩
  · exact Int.le_refl _
  · show (0 : Int) < W; omega
  · exact Int.le_refl _
  · show (0 : Int) < H; omega
  · exact blankL_len _ _
  · intro r hr
    have : r = blankF (W : Int) := List.eq_of_mem_replicate hr
    rw [this]
    exact blankF_w W h1
  · show 0 ≤ 50; omega
  · intro r hr; cases hr
  · exact Int.le_refl _
  · show (0 : Int) ≤ (H : Int) - 1; omega
  · show (H : Int) - 1 < (H : Int); omega
  · intro e; cases e
theorem newP_any (W H : Nat) (w : World) (h0 : 1 ≤ W) (h1 : W ≤ 1000) (h2 : 1 ≤ H) (h3 : H ≤ 1000) : Calls Try.prog 21 #[.int .i64 W, .int .i64 H] w (PanePost w (newP W H).e (newP W H).s.p (newP W H).s.L (newP W H).s.B) := by
  have := pnew_any W H w
  rw [show sideF (W : Int) = W by unfold sideF; omega, show sideF (H : Int) = H by unfold sideF; omega, Int.toNat_natCast] at this
  exact this

/-- What is read of a pane's variable. -/
theorem PBox.at {w : World} {g : Nat} {e : Esca.E} {P : Value} {p : Nm} {r b : Value} (h : PBox w g e P p r b) : w.cell? ⟨g, 0, none⟩ = some (.int .i64 e.mode) ∧ w.cell? ⟨g, 8, none⟩ = some (.int .i64 p.w) ∧ w.cell? ⟨g, 10, none⟩ = some (.int .i64 p.x) ∧ w.cell? ⟨g, 11, none⟩ = some (.int .i64 p.y) ∧ w.cell? ⟨g, 13, none⟩ = some (.int .i64 p.a) ∧ w.cell? ⟨g, 21, none⟩ = some r ∧ w.cell? ⟨g, 22, none⟩ = some b :=
  ⟨(Held.cell h 0).trans rfl, (Held.cell h 8).trans rfl, (Held.cell h 10).trans rfl, (Held.cell h 11).trans rfl, (Held.cell h 13).trans rfl, (Held.cell h 21).trans rfl, (Held.cell h 22).trans rfl⟩
def pruneAt (L : List (List C)) (y x : Nat) : Int := runeAt L y x

def aw7 : List Int := [97, 98, 13, 10, 99, 100, 27, 91, 49]
def aw7q : PM := feedP (newP 3 2) aw7
def aw7r : PM := feedP aw7q [71, 88]
theorem aw7_run : (decide (aw7q.s.L.length = 2) && decide ((rowAt aw7q.s.L 1).length = 3) && decide (runeAt aw7q.s.L 1 1 = 100) && decide (aw7q.e.mode = 2) && decide (aw7r.s.L.length = 2) && decide ((rowAt aw7r.s.L 1).length = 3) && decide (runeAt aw7r.s.L 1 0 = 88) && decide (aw7r.e.mode = 0)) = true := by decide +kernel
end Go.Proofs.Ytpcpmeihebgncaa
