/-
  What moved of package acts answers: the cursor held to the screen, no wrap waiting, all else as it was. Condition: the screen's sides lie between 1 and 1,000.
-/
import Derived.Test.YtpcpmeihebgncaaActs
import Derived.Test.YtpcpmeihebgncaaStore
import Derived.Deep.RegionHeld3
import Derived.Deep.Cut
import Derived.Deep.DeepCutAuto
namespace Go.Proofs.Ytpcpmeihebgncaa
open Go.RowKit
set_option maxRecDepth 100000

def ValPost (v : Value) (w : World) (e : Ending) (w' : World) : Prop := e = .returned v ∧ Below w.heap.size w w'
/-- The cursor goes to x, y, as far as the screen goes. -/
def movedNm (p : Nm) (x y : Int) : Nm := { p with x := withinF x (p.w - 1), y := withinF y (p.h - 1), wrap := false }
/-- The box that is turned, the answer's box. -/
structure MS (w : World) (p : Nm) (r b : Value) (wx : World) : Prop where
  box : Box wx w.heap.size p r b
  ans : Box wx (w.heap.size + 1) zeroNm nilV nilV
  below : Below w.heap.size w wx
theorem MS.drew {w : World} {p : Nm} {r b : Value} {wx : World} (h : MS w p r b wx) : MS w p r b wx.drew := ⟨h.box, h.ans, below_drewN h.below 1⟩
theorem MS.far {w : World} {p p' : Nm} {r b r' b' : Value} {wx : World} (h : MS w p r b wx) {o : Nat} {v : Value} (hb : Box (wx.setCell ⟨w.heap.size, o, none⟩ v) w.heap.size p' r' b') : MS w p' r' b' (wx.setCell ⟨w.heap.size, o, none⟩ v) :=
  ⟨hb, h.ans.far (q := ⟨w.heap.size, o, none⟩) (by exact (by omega : w.heap.size + 1 ≠ w.heap.size)) _, h.below.setCell (p := ⟨w.heap.size, o, none⟩) (Nat.le_refl _) _⟩
theorem MS.start (w : World) (p : Nm) (r b : Value) : MS w p r b ((w.alloc (.cells (gcs p r b) 35)).alloc (.cells (gcs zeroNm nilV nilV) 35)) :=
  ⟨(Box.new w p r b).alloc _, by have := Box.new (w.alloc (.cells (gcs p r b) 35)) zeroNm nilV nilV; simpa using this, ((Below.refl _ _).alloc (Nat.le_refl _) _).alloc (by simp) _⟩

set_option maxHeartbeats 4000000 in
theorem moved_any (p : Nm) (D E : Option Addr) (n c m d : Nat) (x y : Int) (w : World) (h0 : 1 ≤ p.w) (h1 : p.w ≤ 1000) (h2 : 1 ≤ p.h) (h3 : p.h ≤ 1000) :
    Calls Try.prog 54 #[gv p (.slice D n c) (.slice E m d), .int .i64 x, .int .i64 y] w (ValPost (gv (movedNm p x y) (.slice D n c) (.slice E m d)) w) := by
  have rs := MS.start w p (.slice D n c) (.slice E m d)
  have HS := Lib.hid rs
  clear rs
  unfold gv gcs
  go_enter Try.func54, Try.ntmps54
  go_upto_region 1 with fail
  refine wp_world (fun wq => MS w p (.slice D n c) (.slice E m d) wq) HS.out ?_
  clear HS
  intro w2 rs
  have rsd := rs.drew
  have rs1q := rs.far (rs.box.set_x (withinF x (p.w - 1)))
  have rs1 := rs1q.drew
  have rs2 := (rs1q.far (rs1q.box.set_y (withinF y (p.h - 1)))).drew
  have u0 := rsd.box.cells.c0
  have u1 := rsd.box.cells.c1
  have u2 := rsd.box.cells.c2
  have uf := rsd.box.cells.free
  have v0 := rs1.box.cells.c0
  have v1 := rs1.box.cells.c1
  have v3 := rs1.box.cells.c3
  have vf := rs1.box.cells.free
  have t0 := rs2.box.cells.c0
  have t1 := rs2.box.cells.c1
  dsimp only at u0 u1 u2 v0 v1 v3 t0 t1
  have s1 : IntKind.i64.wrap (p.w - 1) = p.w - 1 := IntWalk.i64_in _ (by omega)
  have s2 : IntKind.i64.wrap (p.h - 1) = p.h - 1 := IntWalk.i64_in _ (by omega)
  go_region_held3 (fun w' => w'.cell? ⟨w.heap.size, 0, none⟩ = some (.int .i64 p.w) ∧ w'.cell? ⟨w.heap.size, 1, none⟩ = some (.int .i64 p.h))
    (first
      | with_reducible exact ⟨u0, u1⟩
      | with_reducible exact ⟨v0, v1⟩
      | with_reducible exact ⟨t0, t1⟩
      | fail)
    ((go_at_call 99
      (with_reducible refine (awithin_any _ _ _).mono ?_)
      rintro e w' ⟨rfl, rfl⟩))
  clear u0 u1 u2 uf v0 v1 v3 vf t0 t1 s1 s2 rs1 rs1q rsd
  generalize (((w2.setCell ⟨w.heap.size, 2, none⟩ (.int .i64 (withinF x (p.w - 1)))).setCell ⟨w.heap.size, 3, none⟩ (.int .i64 (withinF y (p.h - 1)))).drew) = w3 at *
  clear rs
  have x4 := rs2.box.cells.c4
  have xf := rs2.box.cells.free
  have hz1 := rs2.box.lt
  have hz2 := rs2.ans.lt
  go_upto_region 3 with fail
  have rs3 := rs2.far (rs2.box.set_wrap false)
  clear x4 xf rs2
  dsimp only at rs3
  change MS w (movedNm p x y) _ _ _ at rs3
  generalize (w3.setCell ⟨w.heap.size, 4, none⟩ (.bool false)) = w4 at *
  have xg := rs3.box
  have xa := rs3.ans
  generalize movedNm p x y = q at *
  go_wp2_with (first
    | (with_reducible refine wpList_loadB xg (x := .tmp 3) ?_ ?_ ?_ ?_
       · with_reducible rfl
       · rfl
       · rfl)
    | (with_reducible refine wpList_storeA xa (x := .tmp 6) (y := .tmp 20) (p := q) (D := D) (E := E) (n := n) (c := c) (m := m) (d := d) ?_ ?_ ?_ ?_ ?_
       · with_reducible rfl
       · rfl
       · rfl
       · rfl))
  refine bodyPost_ret (v := gv q (.slice D n c) (.slice E m d)) (results_cell_row (P := Try.prog) Try.results54 _ _ (w.heap.size + 1) 35 _ (0, 0) _ rfl (xa.setRow q _ _) Try.underlying35 rfl box_size) rfl ?_
  exact ⟨rfl, below_setRow rs3.below (Nat.le_succ _) _⟩
end Go.Proofs.Ytpcpmeihebgncaa
