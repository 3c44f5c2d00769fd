/-
  What the small functions of package rows answer: within, isPlace, blank, own. Conditions: a row that is copied has at most a thousand cells and is no longer than its room.
-/
import Derived.Test.YtpmioibgbknphaaRows
import Derived.Test.YtpmioibgbknphaaCopy
import Derived.WalkKit
import Derived.WalkSpells
import Derived.WalkLawsBesides
import Derived.Lib.Hide
namespace Go.Proofs.Ytpmioibgbknphaa
open Go.RowKit

theorem cellT : CellT Try.prog := ⟨Try.underlying24, by kernel_rfl⟩
theorem cell_info : (Try.prog.info? 23).map (fun i => (i.zero, i.size, i.bytes)) = some (some (.agg #[.int .i32 0, .int .i64 0]), 2, 16) := by kernel_rfl
theorem ret_i {a b : Int} (h : a = b) : Ending.returned (.int .i64 a) = .returned (.int .i64 b) := by rw [h]

set_option maxHeartbeats 400000 in
theorem within_any (n m : Int) (w : World) : Calls Try.prog 16 #[.int .i64 n, .int .i64 m] w fun e w' => e = .returned (.int .i64 (withinF n m)) ∧ w = w' := by
  go_enter Try.func16, Try.ntmps16
  go_wp2
  all_goals
    go_ret
    refine ⟨ret_i ?_, rfl⟩
    unfold withinF
    rename_i h1
    split at h1 <;> omega

set_option maxHeartbeats 400000 in
theorem place_yes (D : Option Addr) (n c : Nat) (x : Int) (w : World) (h0 : 0 ≤ x) (h1 : x < n) : Calls Try.prog 13 #[.slice D n c, .int .i64 x] w fun e w' => e = .returned (.bool true) ∧ w = w' := by
  go_enter Try.func13, Try.ntmps13
  go_wp2
  go_ret
  exact ⟨rfl, rfl⟩
set_option maxHeartbeats 400000 in
theorem place_no (D : Option Addr) (n c : Nat) (x : Int) (w : World) (h0 : ¬ (0 ≤ x ∧ x < n)) : Calls Try.prog 13 #[.slice D n c, .int .i64 x] w fun e w' => e = .returned (.bool false) ∧ w = w' := by
  by_cases h1 : 0 ≤ x
  · have h2 : ¬ x < n := fun h => h0 ⟨h1, h⟩
    clear h0
    go_enter Try.func13, Try.ntmps13
    go_wp2
    go_ret
    exact ⟨rfl, rfl⟩
  · clear h0
    go_enter Try.func13, Try.ntmps13
    go_wp2
    go_ret
    exact ⟨rfl, rfl⟩

def blankV : Value := .agg #[.int .i32 32, .int .i64 0]
def BlankPost (w : World) (e : Ending) (w' : World) : Prop := e = .returned blankV ∧ Below w.heap.size w w'
set_option maxHeartbeats 400000 in
theorem blank_any (w : World) : Calls Try.prog 17 #[] w (BlankPost w) := by
  go_enter Try.func17, Try.ntmps17
  go_wp2
  refine bodyPost_ret (v := blankV) (by simp [results, Try.results17, go_sem, blankV]) rfl ⟨rfl, ?_⟩
  exact (Below.refl _ _).alloc (Nat.le_refl _) _

/-- A row of the call's own comes back. -/
def RowPost (w : World) (l : List C) (e : Ending) (w' : World) : Prop := ∃ g, e = .returned (.slice (some ⟨g, 0, none⟩) l.length l.length) ∧ w.heap.size ≤ g ∧ Row w' g l ∧ Below w.heap.size w w'

/-- What make leaves, of n cells. -/
def zeros (n : Nat) : List C := List.replicate n ⟨0, 0⟩
theorem made_eq (n : Nat) : madeCells #[.int .i32 0, .int .i64 0] (n * 2) = (cvs (zeros n)).toArray := by
  apply Array.ext_getElem?
  intro i
  rcases Nat.lt_or_ge i (n * 2) with h | h
  · obtain ⟨q0, q1⟩ := cvs_at (zeros n) (i / 2) (by simp [zeros]; omega)
    have e : madeCells #[.int .i32 0, .int .i64 0] (n * 2) = (Array.range (n * 2)).map (#[Value.int .i32 0, .int .i64 0][· % 2]!) := rfl
    rw [e]
    rcases Nat.mod_two_eq_zero_or_one i with hm | hm
    · have ej : i / 2 * 2 = i := by omega
      rw [ej] at q0
      simpa [h, hm, zeros] using q0.symm
    · have ej : i / 2 * 2 + 1 = i := by omega
      rw [ej] at q1
      simpa [h, hm, zeros] using q1.symm
  · rw [Array.getElem?_eq_none (by rw [size_madeCells]; exact h), Array.getElem?_eq_none (by simp [cvs_len, zeros]; exact h)]

/-- The operation make, for the walk. -/
theorem run_makeC (w : World) (n : Nat) (hn : n ≤ 1000000) :
    (Instr.makeSlice 24 (.int .i64 n) (.int .i64 n)).run Try.prog w = .ok (.slice (some ⟨w.heap.size, 0, none⟩) n n) (w.alloc (.cells (cvs (zeros n)).toArray 23)) := by
  have hI := cell_info
  cases hi : Try.prog.info? 23 with
  | none => simp [hi] at hI
  | some i =>
    simp only [hi, Option.map_some, Option.some.injEq, Prod.mk.injEq] at hI
    obtain ⟨hz, hs, hb⟩ := hI
    have h := run_make (P := Try.prog) w 24 23 i _ Try.underlying24 hi hz .i64 .i64 n n (by omega) (Int.le_refl _) (by rw [hb]; omega) (by omega)
    rw [h, hs, Int.toNat_natCast]
    congr 3
    exact made_eq n

set_option maxHeartbeats 400000 in
theorem own_any (D : Option Addr) (c : Nat) (l : List C) (w : World) (hr : ReadC w D l) (hn : l.length ≤ 1000) : Calls Try.prog 14 #[.slice D l.length c] w (RowPost w l) := by
  have hm := run_makeC w l.length (by omega)
  have hR : Row (w.alloc (.cells (cvs (zeros l.length)).toArray 23)) w.heap.size (zeros l.length) := Held.new _ _ _
  have hr1 := hr.alloc (.cells (cvs (zeros l.length)).toArray 23)
  have hb1 : Below w.heap.size w (w.alloc (.cells (cvs (zeros l.length)).toArray 23)) := (Below.refl _ _).alloc (Nat.le_refl _) _
  have hz : (zeros l.length).length = l.length := by simp [zeros]
  have HZ := Lib.hid hz
  clear hz
  go_enter Try.func14, Try.ntmps14
  go_wp2_with (
    with_reducible refine wpList_copyC cellT rfl (.tmp 7) (.tmp 8) rfl _ _ _ _ _ _ rfl rfl w.heap.size 0 (zeros l.length) l hR hr1 rfl (fun _ _ => rfl) (by rw [HZ.out]; omega) w.heap.size w hb1 (Nat.le_refl _) ?_
    intro w2 hg2 hb2)
  go_ret
  refine ⟨w.heap.size, rfl, Nat.le_refl _, ?_, hb2⟩
  have e : splice (zeros l.length) 0 (l.take l.length) = l := by simp [splice, zeros]
  rw [← e]
  exact hg2.out
end Go.Proofs.Ytpmioibgbknphaa
