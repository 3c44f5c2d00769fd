/-
  A whole screen laid into a variable that there was, in one step of a walk. No condition.
-/
import Derived.Test.YtpcpmeihebgncaaWhole
namespace Go.Proofs.Ytpcpmeihebgncaa
open Go.RowKit

theorem cell_eq {w w' : World} {b o : Nat} (h : w'.heap[b]? = w.heap[b]?) : w'.cell? ⟨b, o, none⟩ = w.cell? ⟨b, o, none⟩ := by simp [World.cell?, h]
theorem Free.eq {w w' : World} {b : Nat} (hf : Free w b) (h : w'.heap[b]? = w.heap[b]?) : Free w' b := fun o => by
  have := hf o
  simpa [World.frozen?, h] using this
theorem RowAt.eq {B : Nat} {w w' : World} {D : Option Addr} {l : List C} (h : RowAt B w D l) (hs : w.heap.size ≤ w'.heap.size) (hf : ∀ b o x, B ≤ b → b < w.heap.size → w.cell? ⟨b, o, none⟩ = some (.int .i32 x) → w'.heap[b]? = w.heap[b]?) : RowAt B w' D l := fun k hk => by
  obtain ⟨b, off, e, h0, h1, hr, h2, h3⟩ := h k hk
  have he := hf _ _ _ h0 h1 h2
  exact ⟨b, off, e, h0, by omega, hr.eq he, (cell_eq he).trans h2, (cell_eq he).trans h3⟩
theorem TabAt.eq {B : Nat} {w w' : World} {D : Option Addr} {vs : List Value} (h : TabAt B w D vs) (hs : w.heap.size ≤ w'.heap.size) (hf : ∀ b o, D = some ⟨b, o, none⟩ → B ≤ b → w'.heap[b]? = w.heap[b]?) : TabAt B w' D vs := fun k hk => by
  obtain ⟨b, off, e, h0, h1, hr, h2⟩ := h k hk
  have he := hf _ _ e h0
  exact ⟨b, off, e, h0, by omega, hr.eq he, (cell_eq he).trans h2⟩
theorem Lines.eq {B : Nat} {w w' : World} {D : Option Addr} {L : List (List C)} (h : Lines B w D L) (hs : w.heap.size ≤ w'.heap.size) (hf : ∀ b, B ≤ b → w'.heap[b]? = w.heap[b]?) : Lines B w' D L := by
  obtain ⟨vs, h1, h2⟩ := h
  refine ⟨vs, h1.eq hs fun b _ _ hb => hf b hb, h2.1, fun k a b => ?_⟩
  obtain ⟨D', c, e, hc, hr⟩ := h2.2 k a b
  exact ⟨D', c, e, hc, hr.eq hs fun b _ _ hb _ _ => hf b hb⟩
theorem below_setRow {B : Nat} {w w' : World} (h : Below B w w') {g : Nat} (hg : B ≤ g) (cs : Array Value) : Below B w (w'.setRow g cs) :=
  ⟨h.os, h.tape, h.output, by simpa using h.size, fun k hk => (setRow_other w' g k cs (by omega)).trans (h.block k hk)⟩
theorem Box.setRow {w : World} {g : Nat} {q : Nm} {r0 b0 : Value} (h : Box w g q r0 b0) (p : Nm) (r b : Value) : Box (w.setRow g (gcs p r b)) g p r b := setRow_heap w g _ _ 35 (0, 0) h
/-- A whole screen is laid into a variable that there was. -/
theorem wpList_storeA {ops : Array Oper} {rest : List Oper} {o : Oper} {a : Act} {w : World} {Q : Exit → Act → World → Prop} {x y : Operand} {g : Nat} {q : Nm} {r0 b0 : Value} (h : Box w g q r0 b0) {p : Nm} {D E : Option Addr} {n c m d : Nat}
    (ho : o.op = .store 35 x y) (hw : Region.wanted o (yielded ops a.tmps) = true) (hx : a.eval x = .pointer (some ⟨g, 0, none⟩)) (hy : a.eval y = gv p (.slice D n c) (.slice E m d))
    (k : wpList Try.prog ops Q rest (a.put o.dst undef) (w.setRow g (gcs p (.slice D n c) (.slice E m d)))) : wpList Try.prog ops Q (o :: rest) a w :=
  wpList_step fun _ hK => by
    rw [if_pos hw]
    exact wp_store_row 35 x y ho g _ hx hy 35 _ h box_size (gcs_size _ _ _) (gcs_one _ _ _ _ _ _ _) (hK _ _ k)

end Go.Proofs.Ytpcpmeihebgncaa
