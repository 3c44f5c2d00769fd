/-
  The walk of NamesNumbers: the call answers true and writes nothing that was there. It reads no package-level variable.
-/
import Derived.Test.YtijjkpaagkfiiaaDoorRows
import Derived.WalkKit
import Derived.WalkSpells
import Derived.WalkLawsBesides
import Derived.Lib.Hide
import Derived.Deep.QuietTactic
import Derived.BigQuiet
import Derived.Laws.Rows
namespace Go.Proofs.YtijjkpaagkfiiaaDoor
open Go.RowKit

/-- Block g of world w is the cells cs. -/
def Held (w : World) (g : Nat) (t : TypeId) (cs : Array Value) : Prop := w.heap[g]? = some (.cells cs t (0, 0))
theorem Held.new (w : World) (t : TypeId) (cs : Array Value) : Held (w.alloc (.cells cs t)) w.heap.size t cs := heap_alloc_new w _
theorem Held.cell {w : World} {g : Nat} {t : TypeId} {cs : Array Value} (h : Held w g t cs) (o : Nat) : w.cell? ⟨g, o, none⟩ = cs[o]? := cell_of_row w g o cs t (0, 0) h

def pairs : Array Value := #[.int .i64 0, .int .i64 0, .int .i64 1, .int .i64 1, .int .i64 2, .int .i64 2, .int .i64 3, .int .i64 3, .int .i64 4, .int .i64 4, .int .i64 5, .int .i64 5, .int .i64 6, .int .i64 6, .int .i64 7, .int .i64 7, .int .i64 8, .int .i64 8, .int .i64 9, .int .i64 9, .int .i64 10, .int .i64 10, .int .i64 11, .int .i64 11, .int .i64 12, .int .i64 12, .int .i64 4, .int .i64 4, .int .i64 8, .int .i64 8, .int .i64 6, .int .i64 6, .int .i64 50, .int .i64 50, .int .i64 16, .int .i64 16, .int .i64 1000, .int .i64 1000, .int .i64 8, .int .i64 8, .int .i64 0, .int .i64 0, .int .i64 1, .int .i64 1, .int .i64 2, .int .i64 2, .int .i64 3, .int .i64 3, .int .i64 4, .int .i64 4, .int .i64 5, .int .i64 5, .int .i64 1, .int .i64 1, .int .i64 2, .int .i64 2, .int .i64 3, .int .i64 3, .int .i64 4, .int .i64 4, .int .i64 5, .int .i64 5, .int .i64 1, .int .i64 1, .int .i64 2, .int .i64 2, .int .i64 1, .int .i64 1, .int .i64 2, .int .i64 2, .int .i64 3, .int .i64 3, .int .i64 4, .int .i64 4, .int .i64 5, .int .i64 5, .int .i64 6, .int .i64 6, .int .i64 7, .int .i64 7, .int .i64 8, .int .i64 8, .int .i64 9, .int .i64 9, .int .i64 10, .int .i64 10, .int .i64 11, .int .i64 11, .int .i64 12, .int .i64 12, .int .i64 13, .int .i64 13, .int .i64 14, .int .i64 14, .int .i64 1, .int .i64 1, .int .i64 2, .int .i64 2]
theorem pairs_at : ∀ k : Nat, k < 49 → ∃ x : Int, pairs[k * 2]? = some (.int .i64 x) ∧ pairs[k * 2 + 1]? = some (.int .i64 x)
  | 0, _ => ⟨_, rfl, rfl⟩
  | 1, _ => ⟨_, rfl, rfl⟩
  | 2, _ => ⟨_, rfl, rfl⟩
  | 3, _ => ⟨_, rfl, rfl⟩
  | 4, _ => ⟨_, rfl, rfl⟩
  | 5, _ => ⟨_, rfl, rfl⟩
  | 6, _ => ⟨_, rfl, rfl⟩
  | 7, _ => ⟨_, rfl, rfl⟩
  | 8, _ => ⟨_, rfl, rfl⟩
  | 9, _ => ⟨_, rfl, rfl⟩
  | 10, _ => ⟨_, rfl, rfl⟩
  | 11, _ => ⟨_, rfl, rfl⟩
  | 12, _ => ⟨_, rfl, rfl⟩
  | 13, _ => ⟨_, rfl, rfl⟩
  | 14, _ => ⟨_, rfl, rfl⟩
  | 15, _ => ⟨_, rfl, rfl⟩
  | 16, _ => ⟨_, rfl, rfl⟩
  | 17, _ => ⟨_, rfl, rfl⟩
  | 18, _ => ⟨_, rfl, rfl⟩
  | 19, _ => ⟨_, rfl, rfl⟩
  | 20, _ => ⟨_, rfl, rfl⟩
  | 21, _ => ⟨_, rfl, rfl⟩
  | 22, _ => ⟨_, rfl, rfl⟩
  | 23, _ => ⟨_, rfl, rfl⟩
  | 24, _ => ⟨_, rfl, rfl⟩
  | 25, _ => ⟨_, rfl, rfl⟩
  | 26, _ => ⟨_, rfl, rfl⟩
  | 27, _ => ⟨_, rfl, rfl⟩
  | 28, _ => ⟨_, rfl, rfl⟩
  | 29, _ => ⟨_, rfl, rfl⟩
  | 30, _ => ⟨_, rfl, rfl⟩
  | 31, _ => ⟨_, rfl, rfl⟩
  | 32, _ => ⟨_, rfl, rfl⟩
  | 33, _ => ⟨_, rfl, rfl⟩
  | 34, _ => ⟨_, rfl, rfl⟩
  | 35, _ => ⟨_, rfl, rfl⟩
  | 36, _ => ⟨_, rfl, rfl⟩
  | 37, _ => ⟨_, rfl, rfl⟩
  | 38, _ => ⟨_, rfl, rfl⟩
  | 39, _ => ⟨_, rfl, rfl⟩
  | 40, _ => ⟨_, rfl, rfl⟩
  | 41, _ => ⟨_, rfl, rfl⟩
  | 42, _ => ⟨_, rfl, rfl⟩
  | 43, _ => ⟨_, rfl, rfl⟩
  | 44, _ => ⟨_, rfl, rfl⟩
  | 45, _ => ⟨_, rfl, rfl⟩
  | 46, _ => ⟨_, rfl, rfl⟩
  | 47, _ => ⟨_, rfl, rfl⟩
  | 48, _ => ⟨_, rfl, rfl⟩
  | k + 49, h => absurd h (by omega)

set_option maxRecDepth 100000 in
set_option maxHeartbeats 1000000 in
theorem all_any (w : World) : Calls Tryd.prog 4 #[] w fun e w' => e = .returned (.slice (some ⟨w.heap.size, 0, none⟩) 49 49) ∧ Held w' w.heap.size 25 pairs ∧ Below w.heap.size w w' := by
  go_enter Tryd.func4, Tryd.ntmps4
  go_wp2
  go_ret
  exact ⟨rfl, Held.new _ _ _, (Below.refl _ _).alloc (Nat.le_refl _) _⟩

set_option maxRecDepth 100000 in
set_option maxHeartbeats 1000000 in
theorem small_any (w : World) : Calls Tryd.prog 12 #[.int .i64 12] w fun e w' => e = .returned (.string ⟨#[49, 50]⟩) ∧ w = w' := by
  go_enter Tryd.func12, Tryd.ntmps12
  go_wp2
  go_ret
  exact ⟨rfl, rfl⟩
set_option maxRecDepth 100000 in
set_option maxHeartbeats 1000000 in
theorem format_any (w : World) : Calls Tryd.prog 11 #[.int .i64 12, .int .i64 10] w fun e w' => e = .returned (.string ⟨#[49, 50]⟩) ∧ w = w' := by
  go_enter Tryd.func11, Tryd.ntmps11
  go_wp2_with (go_at_call 12; refine (small_any _).mono ?_; rintro e w' ⟨rfl, rfl⟩)
  go_ret
  exact ⟨rfl, rfl⟩
set_option maxHeartbeats 1000000 in
theorem err_any (w : World) : Calls Tryd.prog 5 #[.int .i64 12] w fun e w' => e = .returned (.string ⟨#[101, 114, 114, 111, 114, 32, 49, 50]⟩) ∧ w = w' := by
  go_enter Tryd.func5, Tryd.ntmps5
  go_wp2_with (first
    | (go_at_call 11; refine (format_any _).mono ?_; rintro e w' ⟨rfl, rfl⟩)
    | (go_at_call 7; go_in)
    | (go_at_call 9; go_in))
  go_ret
  exact ⟨rfl, rfl⟩

set_option maxHeartbeats 1000000 in
theorem put_any (w : World) : Calls Tryd.prog 6 #[.int .i32 97] w fun e w' => ∃ A c, e = .returned (.slice A 1 c) ∧ Below w.heap.size w w' := by
  go_enter Tryd.func6, Tryd.ntmps6
  go_wp2
  go_ret
  exact ⟨_, _, rfl, (((Below.refl _ _).alloc (Nat.le_refl _) _).alloc (by simp) _).drew⟩

def NamesRel (w : World) (i : Value) (w' : World) : Prop := ∃ k : Nat, i = .int .i64 k ∧ k ≤ 49 ∧ Held w' w.heap.size 25 pairs ∧ Below w.heap.size w w'

set_option maxRecDepth 100000 in
set_option maxHeartbeats 1000000 in
theorem names_walk (w : World) : Calls Tryd.prog 3 #[] w fun e w' => e = .returned (.bool true) ∧ Below w.heap.size w w' := by
  go_enter Tryd.func3, Tryd.ntmps3
  go_wp2_with fail
  refine (all_any _).mono ?_
  rintro e w1 ⟨rfl, h1, hb1⟩
  go_wp2_with fail
  go_loopw [2] (NamesRel w) (fun i _ => 49 - (intOf i).toNat)
  case atStart => exact ⟨0, rfl, by omega, h1, hb1⟩
  case round =>
    obtain ⟨k, rfl, hk, hr, hb⟩ := hrel
    by_cases hlt : k < 49
    · obtain ⟨x, hx0, hx1⟩ := pairs_at k hlt
      have c0 : wr.cell? ⟨w.heap.size, k * 2, none⟩ = some (.int .i64 x) := (hr.cell (k * 2)).trans hx0
      have c1 : wr.cell? ⟨w.heap.size, k * 2 + 1, none⟩ = some (.int .i64 x) := (hr.cell (k * 2 + 1)).trans hx1
      have hki : (k : Int) < 49 := by omega
      clear hx0 hx1
      go_wp2_with fail
      go_quiet (fail)
      go_wp2_with fail
      go_roundw
      case rel => exact ⟨k + 1, by go_num, hlt, hr, ⟨hb.os, hb.tape, hb.output, hb.size, hb.block⟩⟩
      case measure => simp [intOf]; omega
    · go_wp2_with fail
      refine (err_any _).mono ?_
      rintro e w2 ⟨rfl, rfl⟩
      go_wp2_with fail
      refine (put_any _).mono ?_
      rintro e w3 ⟨A, c, rfl, hb3⟩
      go_wp2_with fail
      go_ret
      exact ⟨rfl, hb.trans (hb3.mono hb.size)⟩
end Go.Proofs.YtijjkpaagkfiiaaDoor
