/-
  What leaf and leastOf of tree answer. Conditions: rows of at most a thousand nodes.
-/
import Derived.Test.YtojgmofpgefonaaPlain
import Derived.Deep.RegionHeld3
import Derived.Deep.Cut
import Derived.BigRegion
import Derived.BigQuiet
namespace Go.Proofs.Ytojgmofpgefonaa
open Go.RowKit
set_option linter.unusedSimpArgs false

set_option maxHeartbeats 400000 in
theorem leaf_any (p : Int) (w : World) : Calls Try.prog 41 #[.int .i64 p] w (New (nv (leafN p)) w) := by
  go_enter Try.func41, Try.ntmps41
  go_wp2_with fail
  refine bodyPost_ret (v := nv (leafN p)) (by simp [results, Try.results41, go_sem, nv, leafN]) rfl ⟨rfl, ?_⟩
  exact (Below.refl _ _).alloc (Nat.le_refl _) _

/-- A node in a variable. -/
def NB (w : World) (g : Nat) (n : N) : Prop := Held w g 23 #[.int .i64 n.p, .int .i64 n.d, .int .i64 n.f, .int .i64 n.a, .int .i64 n.b]
theorem NB.cells {w : World} {g : Nat} {n : N} (h : NB w g n) : w.cell? ⟨g, 0, none⟩ = some (.int .i64 n.p) ∧ w.cell? ⟨g, 1, none⟩ = some (.int .i64 n.d) ∧ w.cell? ⟨g, 2, none⟩ = some (.int .i64 n.f) ∧ w.cell? ⟨g, 3, none⟩ = some (.int .i64 n.a) ∧ w.cell? ⟨g, 4, none⟩ = some (.int .i64 n.b) :=
  ⟨Held.cell h 0, Held.cell h 1, Held.cell h 2, Held.cell h 3, Held.cell h 4⟩
theorem NB.below {w w' : World} {g B : Nat} {n : N} (h : NB w g n) (hb : Below B w w') (hg : g < B) : NB w' g n := Held.below h hb hg
/-- Behind a call: the node's variable, and what there was. -/
theorem NB.behind {w w2 : World} {p d f a b : Int} (hb : Below (w.alloc (.cells #[.int .i64 p, .int .i64 d, .int .i64 f, .int .i64 a, .int .i64 b] 23)).heap.size (w.alloc (.cells #[.int .i64 p, .int .i64 d, .int .i64 f, .int .i64 a, .int .i64 b] 23)) w2) :
    NB w2 w.heap.size ⟨p, d, f, a, b⟩ ∧ Below w.heap.size w w2 ∧ w.heap.size < w2.heap.size := by
  have h := hb.size
  simp only [World.size_alloc] at h
  refine ⟨Held.below (Held.new _ _ _) hb (by simp), ((Below.refl _ _).alloc (Nat.le_refl _) _).trans (hb.mono (by simp)), by omega⟩
theorem ret_t {a b c d : Int} (h1 : a = c) (h2 : b = d) : Ending.returned (.tuple #[.int .i64 a, .int .i64 b]) = .returned (.tuple #[.int .i64 c, .int .i64 d]) := by rw [h1, h2]

set_option maxHeartbeats 1000000 in
theorem leastOf_any (t : T) : ∀ (l : List N) (D : Option Addr) (c i B : Nat) (w : World), TabAt B w D (EN.flat l) → t.At l i → t.ok → l.length ≤ 1000 →
    Calls Try.prog 27 #[.slice D l.length c, .int .i64 i] w (New (.tuple #[.int .i64 t.lw, .int .i64 t.lh]) w) := by
  induction t with
  | leaf p =>
    intro l D c i B w h hi ho hl
    obtain ⟨b, off, rfl, h1, h2, h3, c0, c1, c2, c3, c4⟩ := node_at h i _ hi
    have hi' : (i : Int) < (l.length : Int) := by have := T.at_lt hi; simp [T.size] at this; omega
    have ho' : 0 < p := ho
    dsimp only [leafN] at c0 c1 c2 c3 c4
    go_enter Try.func27, Try.ntmps27
    go_wp2_with fail
    exact bodyPost_ret (v := .tuple #[.int .i64 1, .int .i64 1]) (by simp [results, Try.results27, go_sem]) rfl ⟨rfl, (Below.refl _ _).alloc (Nat.le_refl _) _⟩
  | fork d f x y hx hy =>
    intro l D c i B w h hi ho hl
    obtain ⟨b, off, rfl, h1, h2, h3, c0, c1, c2, c3, c4⟩ := node_at h i _ hi.1
    have hi' : (i : Int) < (l.length : Int) := by have := T.at_lt hi; simp [T.size] at this; omega
    have HX := Lib.hid (fun w' c hb => hx l _ c (i + 1) B w' (h.below (C := w.heap.size) hb (Nat.le_refl _)) hi.2.1 ho.2.2.2.1 hl)
    have HY := Lib.hid (fun w' c hb => hy l _ c (i + 1 + x.size) B w' (h.below (C := w.heap.size) hb (Nat.le_refl _)) hi.2.2 ho.2.2.2.2 hl)
    have b1 := x.lw_ok
    have b2 := y.lw_ok
    have b3 := x.lh_ok
    have b4 := y.lh_ok
    have bs := T.at_lt hi
    simp only [T.size] at bs
    have hd := ho.1
    clear hx hy ho h
    generalize hxw : x.lw = xw at *
    generalize hxh : x.lh = xh at *
    generalize hyw : y.lw = yw at *
    generalize hyh : y.lh = yh at *
    rcases hd with rfl | rfl
    · have ew : (T.fork 1 f x y).lw = xw + 1 + yw := by simp [T.lw, hxw, hyw]
      have eh : (T.fork 1 f x y).lh = max xh yh := by simp [T.lh, hxh, hyh]
      have EW := Lib.hid ew
      have EH := Lib.hid eh
      clear ew eh hi hxw hxh hyw hyh
      dsimp only [T.forkN] at c0 c1 c2 c3 c4
      generalize (T.fork 1 f x y).lw = W at *
      generalize (T.fork 1 f x y).lh = H at *
      go_enter Try.func27, Try.ntmps27
      go_wp2_with fail
      refine (HX.out _ c ((Below.refl _ _).alloc (Nat.le_refl _) _)).mono ?_
      rintro e w2 ⟨rfl, hb⟩
      obtain ⟨hN, hb2, hs⟩ := NB.behind hb
      obtain ⟨n0, n1, n2, n3, n4⟩ := hN.cells
      dsimp only at n0 n1 n2 n3 n4
      go_wp2_with fail
      refine (HY.out _ c hb2).mono ?_
      rintro e w3 ⟨rfl, hb3⟩
      have hN3 := hN.below hb3 hs
      have hb4 := hb2.trans (hb3.mono hb2.size)
      clear n0 n1 n2 n3 n4
      obtain ⟨n0, n1, n2, n3, n4⟩ := hN3.cells
      dsimp only at n0 n1 n2 n3 n4
      go_wp2_with fail
      all_goals
        refine bodyPost_ret (v := .tuple #[.int .i64 W, .int .i64 H]) ?_ rfl ⟨rfl, hb4⟩
        rw [EW.out, EH.out]
        simp [results, Try.results27, go_sem]
        omega
    · have ew : (T.fork 2 f x y).lw = max xw yw := by simp [T.lw, hxw, hyw]
      have eh : (T.fork 2 f x y).lh = xh + 1 + yh := by simp [T.lh, hxh, hyh]
      have EW := Lib.hid ew
      have EH := Lib.hid eh
      clear ew eh hi hxw hxh hyw hyh
      dsimp only [T.forkN] at c0 c1 c2 c3 c4
      generalize (T.fork 2 f x y).lw = W at *
      generalize (T.fork 2 f x y).lh = H at *
      go_enter Try.func27, Try.ntmps27
      go_wp2_with fail
      refine (HX.out _ c ((Below.refl _ _).alloc (Nat.le_refl _) _)).mono ?_
      rintro e w2 ⟨rfl, hb⟩
      obtain ⟨hN, hb2, hs⟩ := NB.behind hb
      obtain ⟨n0, n1, n2, n3, n4⟩ := hN.cells
      dsimp only at n0 n1 n2 n3 n4
      go_wp2_with fail
      refine (HY.out _ c hb2).mono ?_
      rintro e w3 ⟨rfl, hb3⟩
      have hN3 := hN.below hb3 hs
      have hb4 := hb2.trans (hb3.mono hb2.size)
      clear n0 n1 n2 n3 n4
      obtain ⟨n0, n1, n2, n3, n4⟩ := hN3.cells
      dsimp only at n0 n1 n2 n3 n4
      go_wp2_with fail
      all_goals
        refine bodyPost_ret (v := .tuple #[.int .i64 W, .int .i64 H]) ?_ rfl ⟨rfl, hb4⟩
        rw [EW.out, EH.out]
        simp [results, Try.results27, go_sem]
        omega
end Go.Proofs.Ytojgmofpgefonaa
