/-
  A whole screen out of and into memory in one step of a walk. No condition.
-/
import Derived.Test.YtpcpmeihebgncaaBox
import Derived.Deep.WholeRow
namespace Go.Proofs.Ytpcpmeihebgncaa
open Go.RowKit
set_option maxRecDepth 100000

theorem gcs_size (p : Nm) (r b : Value) : (gcs p r b).size = 15 := rfl
theorem gcs_one (p : Nm) (D E : Option Addr) (n c m d : Nat) : (gcs p (.slice D n c) (.slice E m d)).all (·.oneCell') = true := by simp [gcs, Value.oneCell']
theorem box_size : (Try.prog.info? 35).map (·.size) = some 15 := by kernel_rfl
/-- A whole screen is read. -/
theorem wpList_loadB {ops : Array Oper} {rest : List Oper} {o : Oper} {a : Act} {w : World} {Q : Exit → Act → World → Prop} {x : Operand} {g : Nat} {p : Nm} {r b : Value} (h : Box w g p r b)
    (ho : o.op = .load 35 x) (hw : Region.wanted o (yielded ops a.tmps) = true) (hx : a.eval x = .pointer (some ⟨g, 0, none⟩))
    (k : wpList Try.prog ops Q rest (a.put o.dst (gv p r b)) w) : wpList Try.prog ops Q (o :: rest) a w :=
  wpList_step fun _ hK => by
    rw [if_pos hw]
    exact wp_load_row 35 x ho g hx 35 (gcs p r b) (0, 0) _ h Try.underlying35 rfl box_size (hK _ _ k)
/-- A whole screen is laid into a variable. -/
theorem wpList_storeB {ops : Array Oper} {rest : List Oper} {o : Oper} {a : Act} {w : World} {Q : Exit → Act → World → Prop} {x y : Operand} {z : Array Value} {p : Nm} {D E : Option Addr} {n c m d : Nat}
    (ho : o.op = .store 35 x y) (hw : Region.wanted o (yielded ops a.tmps) = true) (hz : z.size = 15) (hx : a.eval x = .pointer (some ⟨w.heap.size, 0, none⟩)) (hy : a.eval y = gv p (.slice D n c) (.slice E m d))
    (k : wpList Try.prog ops Q rest (a.put o.dst undef) (w.alloc (.cells (gcs p (.slice D n c) (.slice E m d)) 35))) : wpList Try.prog ops Q (o :: rest) a (w.alloc (.cells z 35)) :=
  wpList_step fun _ hK => by
    rw [if_pos hw]
    refine wp_store_row 35 x y ho w.heap.size _ hx hy 35 z (heap_alloc_last w _) box_size hz (gcs_one _ _ _ _ _ _ _) ?_
    rw [World.setRow_alloc_new]
    exact hK _ _ k
end Go.Proofs.Ytpcpmeihebgncaa
