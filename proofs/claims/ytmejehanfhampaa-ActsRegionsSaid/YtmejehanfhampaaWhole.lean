/-
  A whole screen out of and into memory in one step of a walk. No condition.
-/
import Derived.Test.YtmejehanfhampaaBox
import Derived.Deep.WholeRow
namespace Go.Proofs.Ytmejehanfhampaa
open Go.RowKit
set_option maxRecDepth 100000

theorem gcs_size (p : Nm) (r b : Value) : (gcs p r b).size = 15 := rfl
theorem gcs_one (p : Nm) (D E : Option Addr) (n c m d : Nat) : (gcs p (.slice D n c) (.slice E m d)).all (·.oneCell') = true := by simp [gcs, Value.oneCell']
theorem box_size : (Try.prog.info? 31).map (·.size) = some 15 := by kernel_rfl
/-- A whole screen is read. -/
theorem wpList_loadB {ops : Array Oper} {rest : List Oper} {o : Oper} {a : Act} {w : World} {Q : Exit → Act → World → Prop} {x : Operand} {g : Nat} {p : Nm} {r b : Value} (h : Box w g p r b)
    (ho : o.op = .load 31 x) (hw : Region.wanted o (yielded ops a.tmps) = true) (hx : a.eval x = .pointer (some ⟨g, 0, none⟩))
    (k : wpList Try.prog ops Q rest (a.put o.dst (gv p r b)) w) : wpList Try.prog ops Q (o :: rest) a w :=
  wpList_step fun _ hK => by
    rw [if_pos hw]
    exact wp_load_row 31 x ho g hx 31 (gcs p r b) (0, 0) _ h Try.underlying31 rfl box_size (hK _ _ k)
/-- A whole screen is laid into a variable. -/
theorem wpList_storeB {ops : Array Oper} {rest : List Oper} {o : Oper} {a : Act} {w : World} {Q : Exit → Act → World → Prop} {x y : Operand} {z : Array Value} {p : Nm} {D E : Option Addr} {n c m d : Nat}
    (ho : o.op = .store 31 x y) (hw : Region.wanted o (yielded ops a.tmps) = true) (hz : z.size = 15) (hx : a.eval x = .pointer (some ⟨w.heap.size, 0, none⟩)) (hy : a.eval y = gv p (.slice D n c) (.slice E m d))
    (k : wpList Try.prog ops Q rest (a.put o.dst undef) (w.alloc (.cells (gcs p (.slice D n c) (.slice E m d)) 31))) : wpList Try.prog ops Q (o :: rest) a (w.alloc (.cells z 31)) :=
  wpList_step fun _ hK => by
    rw [if_pos hw]
    refine wp_store_row 31 x y ho w.heap.size _ hx hy 31 z (heap_alloc_last w _) box_size hz (gcs_one _ _ _ _ _ _ _) ?_
    rw [World.setRow_alloc_new]
    exact hK _ _ k
end Go.Proofs.Ytmejehanfhampaa
