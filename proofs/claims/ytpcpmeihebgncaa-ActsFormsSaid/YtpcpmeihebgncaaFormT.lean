/-
  The table of ActsForms: thirty-four texts, each with what it shows, reckoned. Conditions: none.
-/
import Derived.Test.YtpcpmeihebgncaaShow
namespace Go.Proofs.Ytpcpmeihebgncaa
open Go.RowKit
set_option maxRecDepth 100000

/-- What a text shows on a screen of five by three, and where the cursor is. -/
def Is (s t : ByteArray) (x y : Int) : Prop := ((showL (feedP (newP 5 3) (strB s)).s.L 3).toList == t.toList && decide ((feedP (newP 5 3) (strB s)).s.p.x = x) && decide ((feedP (newP 5 3) (strB s)).s.p.y = y)) = true
instance (s t : ByteArray) (x y : Int) : Decidable (Is s t x y) := inferInstanceAs (Decidable (_ = true))
/-- Row j of a table at block g. -/
def FormAt (W : World) (g j : Nat) : Prop := ∃ (s t : ByteArray) (x y : Int), W.cell? ⟨g, j * 4, none⟩ = some (.string s) ∧ W.cell? ⟨g, j * 4 + 1, none⟩ = some (.string t) ∧ W.cell? ⟨g, j * 4 + 2, none⟩ = some (.int .i64 x) ∧ W.cell? ⟨g, j * 4 + 3, none⟩ = some (.int .i64 y) ∧ s.size ≤ 1000 ∧ Is s t x y
def FormsRel (w : World) (v : Value) (W : World) : Prop := ∃ g, v = .slice (some ⟨g, 0, none⟩) 34 34 ∧ Below w.heap.size w W ∧ (∀ j, j < 34 → FormAt W g j) ∧ g < W.heap.size
def formCells : Array Value := #[.string ⟨#[97, 98]⟩, .string ⟨#[97, 98, 46, 46, 46, 47, 46, 46, 46, 46, 46, 47, 46, 46, 46, 46, 46]⟩, .int .i64 2, .int .i64 0, .string ⟨#[97, 98, 99, 100, 101]⟩, .string ⟨#[97, 98, 99, 100, 101, 47, 46, 46, 46, 46, 46, 47, 46, 46, 46, 46, 46]⟩, .int .i64 4, .int .i64 0, .string ⟨#[97, 98, 99, 100, 101, 102]⟩, .string ⟨#[97, 98, 99, 100, 101, 47, 102, 46, 46, 46, 46, 47, 46, 46, 46, 46, 46]⟩, .int .i64 1, .int .i64 1, .string ⟨#[97, 98, 99, 100, 101, 13, 102]⟩, .string ⟨#[102, 98, 99, 100, 101, 47, 46, 46, 46, 46, 46, 47, 46, 46, 46, 46, 46]⟩, .int .i64 1, .int .i64 0, .string ⟨#[97, 10, 98]⟩, .string ⟨#[97, 46, 46, 46, 46, 47, 46, 98, 46, 46, 46, 47, 46, 46, 46, 46, 46]⟩, .int .i64 2, .int .i64 1, .string ⟨#[97, 13, 10, 98, 13, 10, 99, 13, 10, 100]⟩, .string ⟨#[98, 46, 46, 46, 46, 47, 99, 46, 46, 46, 46, 47, 100, 46, 46, 46, 46]⟩, .int .i64 1, .int .i64 2, .string ⟨#[9, 98]⟩, .string ⟨#[46, 46, 46, 46, 98, 47, 46, 46, 46, 46, 46, 47, 46, 46, 46, 46, 46]⟩, .int .i64 4, .int .i64 0, .string ⟨#[97, 98, 8, 8, 99]⟩, .string ⟨#[99, 98, 46, 46, 46, 47, 46, 46, 46, 46, 46, 47, 46, 46, 46, 46, 46]⟩, .int .i64 1, .int .i64 0, .string ⟨#[27, 91, 50, 59, 51, 72, 120]⟩, .string ⟨#[46, 46, 46, 46, 46, 47, 46, 46, 120, 46, 46, 47, 46, 46, 46, 46, 46]⟩, .int .i64 3, .int .i64 1, .string ⟨#[27, 91, 57, 57, 59, 57, 57, 72, 120]⟩, .string ⟨#[46, 46, 46, 46, 46, 47, 46, 46, 46, 46, 46, 47, 46, 46, 46, 46, 120]⟩, .int .i64 4, .int .i64 2, .string ⟨#[27, 91, 48, 59, 48, 72, 120]⟩, .string ⟨#[120, 46, 46, 46, 46, 47, 46, 46, 46, 46, 46, 47, 46, 46, 46, 46, 46]⟩, .int .i64 1, .int .i64 0, .string ⟨#[97, 98, 99, 27, 91, 50, 68, 120]⟩, .string ⟨#[97, 120, 99, 46, 46, 47, 46, 46, 46, 46, 46, 47, 46, 46, 46, 46, 46]⟩, .int .i64 2, .int .i64 0, .string ⟨#[97, 27, 91, 66, 27, 91, 67, 98]⟩, .string ⟨#[97, 46, 46, 46, 46, 47, 46, 46, 98, 46, 46, 47, 46, 46, 46, 46, 46]⟩, .int .i64 3, .int .i64 1, .string ⟨#[97, 98, 99, 100, 101, 27, 91, 49, 59, 50, 72, 27, 91, 75]⟩, .string ⟨#[97, 46, 46, 46, 46, 47, 46, 46, 46, 46, 46, 47, 46, 46, 46, 46, 46]⟩, .int .i64 1, .int .i64 0, .string ⟨#[97, 98, 99, 100, 101, 27, 91, 49, 59, 50, 72, 27, 91, 49, 75]⟩, .string ⟨#[46, 46, 99, 100, 101, 47, 46, 46, 46, 46, 46, 47, 46, 46, 46, 46, 46]⟩, .int .i64 1, .int .i64 0, .string ⟨#[97, 98, 99, 100, 101, 27, 91, 49, 59, 50, 72, 27, 91, 50, 80]⟩, .string ⟨#[97, 100, 101, 46, 46, 47, 46, 46, 46, 46, 46, 47, 46, 46, 46, 46, 46]⟩, .int .i64 1, .int .i64 0, .string ⟨#[97, 98, 99, 100, 101, 27, 91, 49, 59, 50, 72, 27, 91, 50, 64]⟩, .string ⟨#[97, 46, 46, 98, 99, 47, 46, 46, 46, 46, 46, 47, 46, 46, 46, 46, 46]⟩, .int .i64 1, .int .i64 0, .string ⟨#[97, 98, 99, 100, 101, 27, 91, 49, 59, 50, 72, 27, 91, 50, 88]⟩, .string ⟨#[97, 46, 46, 100, 101, 47, 46, 46, 46, 46, 46, 47, 46, 46, 46, 46, 46]⟩, .int .i64 1, .int .i64 0, .string ⟨#[97, 13, 10, 98, 13, 10, 99, 27, 91, 50, 59, 49, 72, 27, 91, 76]⟩, .string ⟨#[97, 46, 46, 46, 46, 47, 46, 46, 46, 46, 46, 47, 98, 46, 46, 46, 46]⟩, .int .i64 0, .int .i64 1, .string ⟨#[97, 13, 10, 98, 13, 10, 99, 27, 91, 49, 59, 49, 72, 27, 91, 77]⟩, .string ⟨#[98, 46, 46, 46, 46, 47, 99, 46, 46, 46, 46, 47, 46, 46, 46, 46, 46]⟩, .int .i64 0, .int .i64 0, .string ⟨#[97, 13, 10, 98, 13, 10, 99, 27, 91, 50, 74]⟩, .string ⟨#[46, 46, 46, 46, 46, 47, 46, 46, 46, 46, 46, 47, 46, 46, 46, 46, 46]⟩, .int .i64 1, .int .i64 2, .string ⟨#[97, 13, 10, 98, 13, 10, 99, 27, 91, 50, 59, 49, 72, 27, 91, 74]⟩, .string ⟨#[97, 46, 46, 46, 46, 47, 46, 46, 46, 46, 46, 47, 46, 46, 46, 46, 46]⟩, .int .i64 0, .int .i64 1, .string ⟨#[97, 13, 10, 98, 13, 10, 99, 27, 91, 83]⟩, .string ⟨#[98, 46, 46, 46, 46, 47, 99, 46, 46, 46, 46, 47, 46, 46, 46, 46, 46]⟩, .int .i64 1, .int .i64 2, .string ⟨#[97, 13, 10, 98, 13, 10, 99, 27, 91, 84]⟩, .string ⟨#[46, 46, 46, 46, 46, 47, 97, 46, 46, 46, 46, 47, 98, 46, 46, 46, 46]⟩, .int .i64 1, .int .i64 2, .string ⟨#[97, 27, 55, 27, 91, 51, 59, 51, 72, 98, 27, 56, 99]⟩, .string ⟨#[97, 99, 46, 46, 46, 47, 46, 46, 46, 46, 46, 47, 46, 46, 98, 46, 46]⟩, .int .i64 2, .int .i64 0, .string ⟨#[97, 27, 77, 98]⟩, .string ⟨#[46, 98, 46, 46, 46, 47, 97, 46, 46, 46, 46, 47, 46, 46, 46, 46, 46]⟩, .int .i64 2, .int .i64 0, .string ⟨#[97, 27, 69, 98]⟩, .string ⟨#[97, 46, 46, 46, 46, 47, 98, 46, 46, 46, 46, 47, 46, 46, 46, 46, 46]⟩, .int .i64 1, .int .i64 1, .string ⟨#[27, 91, 63, 55, 108, 97, 98, 99, 100, 101, 102, 103]⟩, .string ⟨#[97, 98, 99, 100, 103, 47, 46, 46, 46, 46, 46, 47, 46, 46, 46, 46, 46]⟩, .int .i64 4, .int .i64 0, .string ⟨#[97, 98, 99, 27, 99, 100]⟩, .string ⟨#[100, 46, 46, 46, 46, 47, 46, 46, 46, 46, 46, 47, 46, 46, 46, 46, 46]⟩, .int .i64 1, .int .i64 0, .string ⟨#[97, 13, 10, 98, 13, 10, 99, 27, 91, 50, 59, 51, 114, 27, 91, 51, 59, 49, 72, 100, 10]⟩, .string ⟨#[97, 46, 46, 46, 46, 47, 100, 46, 46, 46, 46, 47, 46, 46, 46, 46, 46]⟩, .int .i64 1, .int .i64 2, .string ⟨#[97, 98, 99, 100, 101, 27, 91, 65, 120]⟩, .string ⟨#[97, 98, 99, 100, 120, 47, 46, 46, 46, 46, 46, 47, 46, 46, 46, 46, 46]⟩, .int .i64 4, .int .i64 0, .string ⟨#[97, 27, 91, 51, 71, 98, 27, 91, 50, 100, 99]⟩, .string ⟨#[97, 46, 98, 46, 46, 47, 46, 46, 46, 99, 46, 47, 46, 46, 46, 46, 46]⟩, .int .i64 4, .int .i64 1, .string ⟨#[195, 169, 226, 130, 172]⟩, .string ⟨#[195, 169, 226, 130, 172, 46, 46, 46, 47, 46, 46, 46, 46, 46, 47, 46, 46, 46, 46, 46]⟩, .int .i64 2, .int .i64 0, .string ⟨#[255, 27, 91, 51, 49, 109, 120]⟩, .string ⟨#[239, 191, 189, 120, 46, 46, 46, 47, 46, 46, 46, 46, 46, 47, 46, 46, 46, 46, 46]⟩, .int .i64 2, .int .i64 0]
theorem form_0 : Is ⟨#[97, 98]⟩ ⟨#[97, 98, 46, 46, 46, 47, 46, 46, 46, 46, 46, 47, 46, 46, 46, 46, 46]⟩ 2 0 := by decide +kernel
theorem form_1 : Is ⟨#[97, 98, 99, 100, 101]⟩ ⟨#[97, 98, 99, 100, 101, 47, 46, 46, 46, 46, 46, 47, 46, 46, 46, 46, 46]⟩ 4 0 := by decide +kernel
theorem form_2 : Is ⟨#[97, 98, 99, 100, 101, 102]⟩ ⟨#[97, 98, 99, 100, 101, 47, 102, 46, 46, 46, 46, 47, 46, 46, 46, 46, 46]⟩ 1 1 := by decide +kernel
theorem form_3 : Is ⟨#[97, 98, 99, 100, 101, 13, 102]⟩ ⟨#[102, 98, 99, 100, 101, 47, 46, 46, 46, 46, 46, 47, 46, 46, 46, 46, 46]⟩ 1 0 := by decide +kernel
theorem form_4 : Is ⟨#[97, 10, 98]⟩ ⟨#[97, 46, 46, 46, 46, 47, 46, 98, 46, 46, 46, 47, 46, 46, 46, 46, 46]⟩ 2 1 := by decide +kernel
theorem form_5 : Is ⟨#[97, 13, 10, 98, 13, 10, 99, 13, 10, 100]⟩ ⟨#[98, 46, 46, 46, 46, 47, 99, 46, 46, 46, 46, 47, 100, 46, 46, 46, 46]⟩ 1 2 := by decide +kernel
theorem form_6 : Is ⟨#[9, 98]⟩ ⟨#[46, 46, 46, 46, 98, 47, 46, 46, 46, 46, 46, 47, 46, 46, 46, 46, 46]⟩ 4 0 := by decide +kernel
theorem form_7 : Is ⟨#[97, 98, 8, 8, 99]⟩ ⟨#[99, 98, 46, 46, 46, 47, 46, 46, 46, 46, 46, 47, 46, 46, 46, 46, 46]⟩ 1 0 := by decide +kernel
theorem form_8 : Is ⟨#[27, 91, 50, 59, 51, 72, 120]⟩ ⟨#[46, 46, 46, 46, 46, 47, 46, 46, 120, 46, 46, 47, 46, 46, 46, 46, 46]⟩ 3 1 := by decide +kernel
theorem form_9 : Is ⟨#[27, 91, 57, 57, 59, 57, 57, 72, 120]⟩ ⟨#[46, 46, 46, 46, 46, 47, 46, 46, 46, 46, 46, 47, 46, 46, 46, 46, 120]⟩ 4 2 := by decide +kernel
theorem form_10 : Is ⟨#[27, 91, 48, 59, 48, 72, 120]⟩ ⟨#[120, 46, 46, 46, 46, 47, 46, 46, 46, 46, 46, 47, 46, 46, 46, 46, 46]⟩ 1 0 := by decide +kernel
theorem form_11 : Is ⟨#[97, 98, 99, 27, 91, 50, 68, 120]⟩ ⟨#[97, 120, 99, 46, 46, 47, 46, 46, 46, 46, 46, 47, 46, 46, 46, 46, 46]⟩ 2 0 := by decide +kernel
theorem form_12 : Is ⟨#[97, 27, 91, 66, 27, 91, 67, 98]⟩ ⟨#[97, 46, 46, 46, 46, 47, 46, 46, 98, 46, 46, 47, 46, 46, 46, 46, 46]⟩ 3 1 := by decide +kernel
theorem form_13 : Is ⟨#[97, 98, 99, 100, 101, 27, 91, 49, 59, 50, 72, 27, 91, 75]⟩ ⟨#[97, 46, 46, 46, 46, 47, 46, 46, 46, 46, 46, 47, 46, 46, 46, 46, 46]⟩ 1 0 := by decide +kernel
theorem form_14 : Is ⟨#[97, 98, 99, 100, 101, 27, 91, 49, 59, 50, 72, 27, 91, 49, 75]⟩ ⟨#[46, 46, 99, 100, 101, 47, 46, 46, 46, 46, 46, 47, 46, 46, 46, 46, 46]⟩ 1 0 := by decide +kernel
theorem form_15 : Is ⟨#[97, 98, 99, 100, 101, 27, 91, 49, 59, 50, 72, 27, 91, 50, 80]⟩ ⟨#[97, 100, 101, 46, 46, 47, 46, 46, 46, 46, 46, 47, 46, 46, 46, 46, 46]⟩ 1 0 := by decide +kernel
theorem form_16 : Is ⟨#[97, 98, 99, 100, 101, 27, 91, 49, 59, 50, 72, 27, 91, 50, 64]⟩ ⟨#[97, 46, 46, 98, 99, 47, 46, 46, 46, 46, 46, 47, 46, 46, 46, 46, 46]⟩ 1 0 := by decide +kernel
theorem form_17 : Is ⟨#[97, 98, 99, 100, 101, 27, 91, 49, 59, 50, 72, 27, 91, 50, 88]⟩ ⟨#[97, 46, 46, 100, 101, 47, 46, 46, 46, 46, 46, 47, 46, 46, 46, 46, 46]⟩ 1 0 := by decide +kernel
theorem form_18 : Is ⟨#[97, 13, 10, 98, 13, 10, 99, 27, 91, 50, 59, 49, 72, 27, 91, 76]⟩ ⟨#[97, 46, 46, 46, 46, 47, 46, 46, 46, 46, 46, 47, 98, 46, 46, 46, 46]⟩ 0 1 := by decide +kernel
theorem form_19 : Is ⟨#[97, 13, 10, 98, 13, 10, 99, 27, 91, 49, 59, 49, 72, 27, 91, 77]⟩ ⟨#[98, 46, 46, 46, 46, 47, 99, 46, 46, 46, 46, 47, 46, 46, 46, 46, 46]⟩ 0 0 := by decide +kernel
theorem form_20 : Is ⟨#[97, 13, 10, 98, 13, 10, 99, 27, 91, 50, 74]⟩ ⟨#[46, 46, 46, 46, 46, 47, 46, 46, 46, 46, 46, 47, 46, 46, 46, 46, 46]⟩ 1 2 := by decide +kernel
theorem form_21 : Is ⟨#[97, 13, 10, 98, 13, 10, 99, 27, 91, 50, 59, 49, 72, 27, 91, 74]⟩ ⟨#[97, 46, 46, 46, 46, 47, 46, 46, 46, 46, 46, 47, 46, 46, 46, 46, 46]⟩ 0 1 := by decide +kernel
theorem form_22 : Is ⟨#[97, 13, 10, 98, 13, 10, 99, 27, 91, 83]⟩ ⟨#[98, 46, 46, 46, 46, 47, 99, 46, 46, 46, 46, 47, 46, 46, 46, 46, 46]⟩ 1 2 := by decide +kernel
theorem form_23 : Is ⟨#[97, 13, 10, 98, 13, 10, 99, 27, 91, 84]⟩ ⟨#[46, 46, 46, 46, 46, 47, 97, 46, 46, 46, 46, 47, 98, 46, 46, 46, 46]⟩ 1 2 := by decide +kernel
theorem form_24 : Is ⟨#[97, 27, 55, 27, 91, 51, 59, 51, 72, 98, 27, 56, 99]⟩ ⟨#[97, 99, 46, 46, 46, 47, 46, 46, 46, 46, 46, 47, 46, 46, 98, 46, 46]⟩ 2 0 := by decide +kernel
theorem form_25 : Is ⟨#[97, 27, 77, 98]⟩ ⟨#[46, 98, 46, 46, 46, 47, 97, 46, 46, 46, 46, 47, 46, 46, 46, 46, 46]⟩ 2 0 := by decide +kernel
theorem form_26 : Is ⟨#[97, 27, 69, 98]⟩ ⟨#[97, 46, 46, 46, 46, 47, 98, 46, 46, 46, 46, 47, 46, 46, 46, 46, 46]⟩ 1 1 := by decide +kernel
theorem form_27 : Is ⟨#[27, 91, 63, 55, 108, 97, 98, 99, 100, 101, 102, 103]⟩ ⟨#[97, 98, 99, 100, 103, 47, 46, 46, 46, 46, 46, 47, 46, 46, 46, 46, 46]⟩ 4 0 := by decide +kernel
theorem form_28 : Is ⟨#[97, 98, 99, 27, 99, 100]⟩ ⟨#[100, 46, 46, 46, 46, 47, 46, 46, 46, 46, 46, 47, 46, 46, 46, 46, 46]⟩ 1 0 := by decide +kernel
theorem form_29 : Is ⟨#[97, 13, 10, 98, 13, 10, 99, 27, 91, 50, 59, 51, 114, 27, 91, 51, 59, 49, 72, 100, 10]⟩ ⟨#[97, 46, 46, 46, 46, 47, 100, 46, 46, 46, 46, 47, 46, 46, 46, 46, 46]⟩ 1 2 := by decide +kernel
theorem form_30 : Is ⟨#[97, 98, 99, 100, 101, 27, 91, 65, 120]⟩ ⟨#[97, 98, 99, 100, 120, 47, 46, 46, 46, 46, 46, 47, 46, 46, 46, 46, 46]⟩ 4 0 := by decide +kernel
theorem form_31 : Is ⟨#[97, 27, 91, 51, 71, 98, 27, 91, 50, 100, 99]⟩ ⟨#[97, 46, 98, 46, 46, 47, 46, 46, 46, 99, 46, 47, 46, 46, 46, 46, 46]⟩ 4 1 := by decide +kernel
theorem form_32 : Is ⟨#[195, 169, 226, 130, 172]⟩ ⟨#[195, 169, 226, 130, 172, 46, 46, 46, 47, 46, 46, 46, 46, 46, 47, 46, 46, 46, 46, 46]⟩ 2 0 := by decide +kernel
theorem form_33 : Is ⟨#[255, 27, 91, 51, 49, 109, 120]⟩ ⟨#[239, 191, 189, 120, 46, 46, 46, 47, 46, 46, 46, 46, 46, 47, 46, 46, 46, 46, 46]⟩ 2 0 := by decide +kernel

theorem forms_mk (w : World) : FormsRel w (.slice (some ⟨w.heap.size, 0, none⟩) 34 34) (w.alloc (.cells formCells 22)) := by
  refine ⟨_, rfl, (Below.refl _ w).alloc (Nat.le_refl _) _, fun j hj => ?_, by simp⟩
  have h := Held.new w 22 formCells
  match j, hj with
  | 0, _ => exact ⟨_, _, _, _, h.cell 0, h.cell 1, h.cell 2, h.cell 3, by decide, form_0⟩
  | 1, _ => exact ⟨_, _, _, _, h.cell 4, h.cell 5, h.cell 6, h.cell 7, by decide, form_1⟩
  | 2, _ => exact ⟨_, _, _, _, h.cell 8, h.cell 9, h.cell 10, h.cell 11, by decide, form_2⟩
  | 3, _ => exact ⟨_, _, _, _, h.cell 12, h.cell 13, h.cell 14, h.cell 15, by decide, form_3⟩
  | 4, _ => exact ⟨_, _, _, _, h.cell 16, h.cell 17, h.cell 18, h.cell 19, by decide, form_4⟩
  | 5, _ => exact ⟨_, _, _, _, h.cell 20, h.cell 21, h.cell 22, h.cell 23, by decide, form_5⟩
  | 6, _ => exact ⟨_, _, _, _, h.cell 24, h.cell 25, h.cell 26, h.cell 27, by decide, form_6⟩
  | 7, _ => exact ⟨_, _, _, _, h.cell 28, h.cell 29, h.cell 30, h.cell 31, by decide, form_7⟩
  | 8, _ => exact ⟨_, _, _, _, h.cell 32, h.cell 33, h.cell 34, h.cell 35, by decide, form_8⟩
  | 9, _ => exact ⟨_, _, _, _, h.cell 36, h.cell 37, h.cell 38, h.cell 39, by decide, form_9⟩
  | 10, _ => exact ⟨_, _, _, _, h.cell 40, h.cell 41, h.cell 42, h.cell 43, by decide, form_10⟩
  | 11, _ => exact ⟨_, _, _, _, h.cell 44, h.cell 45, h.cell 46, h.cell 47, by decide, form_11⟩
  | 12, _ => exact ⟨_, _, _, _, h.cell 48, h.cell 49, h.cell 50, h.cell 51, by decide, form_12⟩
  | 13, _ => exact ⟨_, _, _, _, h.cell 52, h.cell 53, h.cell 54, h.cell 55, by decide, form_13⟩
  | 14, _ => exact ⟨_, _, _, _, h.cell 56, h.cell 57, h.cell 58, h.cell 59, by decide, form_14⟩
  | 15, _ => exact ⟨_, _, _, _, h.cell 60, h.cell 61, h.cell 62, h.cell 63, by decide, form_15⟩
  | 16, _ => exact ⟨_, _, _, _, h.cell 64, h.cell 65, h.cell 66, h.cell 67, by decide, form_16⟩
  | 17, _ => exact ⟨_, _, _, _, h.cell 68, h.cell 69, h.cell 70, h.cell 71, by decide, form_17⟩
  | 18, _ => exact ⟨_, _, _, _, h.cell 72, h.cell 73, h.cell 74, h.cell 75, by decide, form_18⟩
  | 19, _ => exact ⟨_, _, _, _, h.cell 76, h.cell 77, h.cell 78, h.cell 79, by decide, form_19⟩
  | 20, _ => exact ⟨_, _, _, _, h.cell 80, h.cell 81, h.cell 82, h.cell 83, by decide, form_20⟩
  | 21, _ => exact ⟨_, _, _, _, h.cell 84, h.cell 85, h.cell 86, h.cell 87, by decide, form_21⟩
  | 22, _ => exact ⟨_, _, _, _, h.cell 88, h.cell 89, h.cell 90, h.cell 91, by decide, form_22⟩
  | 23, _ => exact ⟨_, _, _, _, h.cell 92, h.cell 93, h.cell 94, h.cell 95, by decide, form_23⟩
  | 24, _ => exact ⟨_, _, _, _, h.cell 96, h.cell 97, h.cell 98, h.cell 99, by decide, form_24⟩
  | 25, _ => exact ⟨_, _, _, _, h.cell 100, h.cell 101, h.cell 102, h.cell 103, by decide, form_25⟩
  | 26, _ => exact ⟨_, _, _, _, h.cell 104, h.cell 105, h.cell 106, h.cell 107, by decide, form_26⟩
  | 27, _ => exact ⟨_, _, _, _, h.cell 108, h.cell 109, h.cell 110, h.cell 111, by decide, form_27⟩
  | 28, _ => exact ⟨_, _, _, _, h.cell 112, h.cell 113, h.cell 114, h.cell 115, by decide, form_28⟩
  | 29, _ => exact ⟨_, _, _, _, h.cell 116, h.cell 117, h.cell 118, h.cell 119, by decide, form_29⟩
  | 30, _ => exact ⟨_, _, _, _, h.cell 120, h.cell 121, h.cell 122, h.cell 123, by decide, form_30⟩
  | 31, _ => exact ⟨_, _, _, _, h.cell 124, h.cell 125, h.cell 126, h.cell 127, by decide, form_31⟩
  | 32, _ => exact ⟨_, _, _, _, h.cell 128, h.cell 129, h.cell 130, h.cell 131, by decide, form_32⟩
  | 33, _ => exact ⟨_, _, _, _, h.cell 132, h.cell 133, h.cell 134, h.cell 135, by decide, form_33⟩
  | j + 34, hj => exact absurd hj (by omega)
end Go.Proofs.Ytpcpmeihebgncaa
