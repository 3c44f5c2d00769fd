/-
  What the small functions answer: within of rows and of grid, blank, held, side; what make of a row of cells leaves. Conditions: at most a million cells.
-/
import Derived.Test.YtpcpmeihebgncaaRows
import Derived.Test.YtpcpmeihebgncaaCopy
import Derived.WalkKit
import Derived.WalkSpells
import Derived.WalkLawsBesides
import Derived.Lib.Hide
namespace Go.Proofs.Ytpcpmeihebgncaa
open Go.RowKit
set_option maxRecDepth 100000

theorem cellT : CellT Try.prog := ⟨Try.underlying46, by kernel_rfl⟩
theorem cell_info : (Try.prog.info? 48).map (fun i => (i.zero, i.size, i.bytes)) = some (some (.agg #[.int .i32 0, .int .i64 0]), 2, 16) := by kernel_rfl
theorem ret_i {a b : Int} (h : a = b) : Ending.returned (.int .i64 a) = .returned (.int .i64 b) := by rw [h]

set_option maxHeartbeats 400000 in
theorem within_any (n m : Int) (w : World) : Calls Try.prog 140 #[.int .i64 n, .int .i64 m] w fun e w' => e = .returned (.int .i64 (withinF n m)) ∧ w = w' := by
  go_enter Try.func140, Try.ntmps140
  go_wp2
  all_goals
    go_ret
    refine ⟨ret_i ?_, rfl⟩
    unfold withinF
    rename_i h1
    split at h1 <;> omega

def blankV : Value := .agg #[.int .i32 32, .int .i64 0]
def BlankPost (w : World) (e : Ending) (w' : World) : Prop := e = .returned blankV ∧ Below w.heap.size w w'
set_option maxHeartbeats 400000 in
theorem blank_any (w : World) : Calls Try.prog 141 #[] w (BlankPost w) := by
  go_enter Try.func141, Try.ntmps141
  go_wp2
  refine bodyPost_ret (v := blankV) (by simp [results, Try.results141, go_sem, blankV]) rfl ⟨rfl, ?_⟩
  exact (Below.refl _ _).alloc (Nat.le_refl _) _

/-- A row of the call's own comes back. -/
def RowPost (w : World) (l : List C) (e : Ending) (w' : World) : Prop := ∃ g, e = .returned (.slice (some ⟨g, 0, none⟩) l.length l.length) ∧ w.heap.size ≤ g ∧ Row w' g l ∧ Below w.heap.size w w'

/-- What make leaves, of n cells. -/
def zeros (n : Nat) : List C := List.replicate n ⟨0, 0⟩
theorem made_eq (n : Nat) : madeCells #[.int .i32 0, .int .i64 0] (n * 2) = (cvs (zeros n)).toArray := by
  apply Array.ext_getElem?
  intro i
  rcases Nat.lt_or_ge i (n * 2) with h | h
  · obtain ⟨q0, q1⟩ := cvs_at (zeros n) (i / 2) (by simp [zeros]; omega)
    have e : madeCells #[.int .i32 0, .int .i64 0] (n * 2) = (Array.range (n * 2)).map (#[Value.int .i32 0, .int .i64 0][· % 2]!) := rfl
    rw [e]
    rcases Nat.mod_two_eq_zero_or_one i with hm | hm
    · have ej : i / 2 * 2 = i := by omega
      rw [ej] at q0
      simpa [h, hm, zeros] using q0.symm
    · have ej : i / 2 * 2 + 1 = i := by omega
      rw [ej] at q1
      simpa [h, hm, zeros] using q1.symm
  · rw [Array.getElem?_eq_none (by rw [size_madeCells]; exact h), Array.getElem?_eq_none (by simp [cvs_len, zeros]; exact h)]

/-- The operation make, for the walk. -/
theorem run_makeC (w : World) (n : Nat) (hn : n ≤ 1000000) :
    (Instr.makeSlice 46 (.int .i64 n) (.int .i64 n)).run Try.prog w = .ok (.slice (some ⟨w.heap.size, 0, none⟩) n n) (w.alloc (.cells (cvs (zeros n)).toArray 48)) := by
  have hI := cell_info
  cases hi : Try.prog.info? 48 with
  | none => simp [hi] at hI
  | some i =>
    simp only [hi, Option.map_some, Option.some.injEq, Prod.mk.injEq] at hI
    obtain ⟨hz, hs, hb⟩ := hI
    have h := run_make (P := Try.prog) w 46 48 i _ Try.underlying46 hi hz .i64 .i64 n n (by omega) (Int.le_refl _) (by rw [hb]; omega) (by omega)
    rw [h, hs, Int.toNat_natCast]
    congr 3
    exact made_eq n


/-! ### numbers that are held -/
def heldF (n lo hi : Int) : Int := min (max n lo) hi
def sideF (n : Int) : Int := max 1 (min n 1000)
set_option maxHeartbeats 400000 in
theorem gwithin_any (n m : Int) (w : World) : Calls Try.prog 91 #[.int .i64 n, .int .i64 m] w fun e w' => e = .returned (.int .i64 (withinF n m)) ∧ w = w' := by
  go_enter Try.func91, Try.ntmps91
  go_wp2
  all_goals
    go_ret
    refine ⟨ret_i ?_, rfl⟩
    unfold withinF
    rename_i h1
    split at h1 <;> omega
set_option maxHeartbeats 400000 in
theorem held_any (n lo hi : Int) (w : World) : Calls Try.prog 47 #[.int .i64 n, .int .i64 lo, .int .i64 hi] w fun e w' => e = .returned (.int .i64 (heldF n lo hi)) ∧ w = w' := by
  go_enter Try.func47, Try.ntmps47
  go_wp2
  all_goals
    go_ret
    refine ⟨ret_i ?_, rfl⟩
    unfold heldF
    rename_i h1
    split at h1 <;> omega
set_option maxHeartbeats 400000 in
theorem side_any (n : Int) (w : World) : Calls Try.prog 87 #[.int .i64 n] w fun e w' => e = .returned (.int .i64 (sideF n)) ∧ w = w' := by
  go_enter Try.func87, Try.ntmps87
  go_wp2
  all_goals
    go_ret
    refine ⟨ret_i ?_, rfl⟩
    unfold sideF
    rename_i h1
    split at h1 <;> omega
end Go.Proofs.Ytpcpmeihebgncaa
