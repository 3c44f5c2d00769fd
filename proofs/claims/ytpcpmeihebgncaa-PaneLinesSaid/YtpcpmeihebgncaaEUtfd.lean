/-
  What each function of package utfd does to the world: the state behind a byte, and the runes that end with it, as plain functions of numbers. Conditions: a byte is 0 to 255; what is begun is within what steps from nothing make.
-/
import Derived.Test.YtpcpmeihebgncaaRows
import Derived.Test.YtpcpmeihebgncaaEBase
import Derived.Deep.RegionHeld3
namespace Go.Proofs.Ytpcpmeihebgncaa.Esca
open Go.RowKit
set_option maxRecDepth 100000

theorem rowRune : RowT Try.prog 69 21 1 := rowT_mk (z := .int .i32 0) (b := 4) Try.underlying69 (by kernel_rfl) (by decide) rfl (by decide)
theorem rowByte : RowT Try.prog 40 5 1 := rowT_mk (z := .int .u8 0) (b := 1) Try.underlying40 (by kernel_rfl) (by decide) rfl (by decide)

theorem rowInt : RowT Try.prog 28 3 1 := rowT_mk (z := .int .i64 0) (b := 8) Try.underlying28 (by kernel_rfl) (by decide) rfl (by decide)
theorem rowAct : RowT Try.prog 51 44 3 := rowT_mk (z := .agg #[.int .i64 0, .int .i32 0, .slice none 0 0]) (b := 40) Try.underlying51 (by kernel_rfl) (by decide) rfl (by decide)

/-! ### the plain functions -/
def stN (b : Int) : Int := if b ≤ 191 then 0 else if b ≤ 223 then 1 else if b ≤ 239 then 2 else if b ≤ 247 then 3 else 0
def stM (b : Int) : Int := if b ≤ 191 then 0 else if b ≤ 223 then 128 else if b ≤ 239 then 2048 else if b ≤ 247 then 65536 else 0
def stG (b : Int) : Int := if b ≤ 191 then 0 else if b ≤ 223 then b % 32 else if b ≤ 239 then b % 16 else if b ≤ 247 then b % 8 else 0
def stR (b : Int) : List Int := if b ≤ 127 then [b] else if b ≤ 191 then [65533] else if b ≤ 247 then [] else [65533]
def endR (g m : Int) : Int := if g < m ∨ 1114111 < g ∨ (55296 ≤ g ∧ g ≤ 57343) then 65533 else g

/-- What Step leaves: the state n m g behind the byte, and the runes rs. -/
def StepPost (w : World) (n m g : Int) (rs : List Int) (e : Ending) (w' : World) : Prop :=
  ∃ v, e = .returned (.tuple #[.agg #[.int .i64 n, .int .i64 m, .int .i64 g], v]) ∧ Runes w' w.heap.size v rs ∧ Below w.heap.size w w'

set_option maxHeartbeats 400000 in
theorem begun_any (n m g : Int) (w : World) :
    Calls Try.prog 144 #[.agg #[.int .i64 n, .int .i64 m, .int .i64 g]] w fun e w' => e = .returned (.bool (decide (0 < n))) ∧ Below w.heap.size w w' := by
  go_enter Try.func144, Try.ntmps144
  go_wp2
  go_ret
  exact ⟨rfl, (Below.refl _ _).alloc (Nat.le_refl _) _⟩

set_option maxHeartbeats 400000 in
theorem ended_any (g m : Int) (w : World) (h0 : 0 ≤ g) (h1 : g ≤ 4000000) :
    Calls Try.prog 154 #[.int .i64 g, .int .i64 m] w fun e w' => e = .returned (.int .i32 (endR g m)) ∧ w = w' := by
  by_cases h2 : g < m
  · have e2 : endR g m = 65533 := by simp [endR, h2]
    rw [e2]; clear e2
    by_cases h4 : 55296 ≤ g <;>
    · go_enter Try.func154, Try.ntmps154
      go_wp2
      all_goals (go_ret; exact ⟨rfl, rfl⟩)
  · by_cases h3 : 1114111 < g
    · have e2 : endR g m = 65533 := by simp [endR, h3]
      rw [e2]; clear e2
      go_enter Try.func154, Try.ntmps154
      go_wp2
      all_goals (go_ret; exact ⟨rfl, rfl⟩)
    · by_cases h4 : 55296 ≤ g
      · by_cases h5 : g ≤ 57343
        · have e2 : endR g m = 65533 := by simp [endR, h4, h5]
          rw [e2]; clear e2
          go_enter Try.func154, Try.ntmps154
          go_wp2
          all_goals (go_ret; exact ⟨rfl, rfl⟩)
        · have e2 : endR g m = g := by simp [endR]; omega
          rw [e2]; clear e2
          go_enter Try.func154, Try.ntmps154
          go_wp2
          all_goals (go_ret; exact ⟨rfl, rfl⟩)
      · have e2 : endR g m = g := by simp [endR]; omega
        rw [e2]; clear e2
        go_enter Try.func154, Try.ntmps154
        go_wp2
        all_goals (go_ret; exact ⟨rfl, rfl⟩)

theorem runes_one (w : World) (B : Nat) (r : Int) (hB : B ≤ w.heap.size) : Runes (w.alloc (.cells #[.int .i32 r] 21)) B (.slice (some ⟨w.heap.size, 0, none⟩) 1 1) [r] :=
  World.ownsRow_lit w #[.int .i32 r] 1 hB (by simp [maxLen]) rfl
theorem runes_nil (w : World) (B : Nat) : Runes w B (.slice none 0 0) [] := World.ownsRow_nil w B 21 1

set_option maxHeartbeats 400000 in
theorem start_any (b : Int) (w : World) (h0 : 0 ≤ b) (h1 : b ≤ 255) :
    Calls Try.prog 145 #[.int .u8 b] w (StepPost w (stN b) (stM b) (stG b) (stR b)) := by
  by_cases c1 : b ≤ 127
  · rw [show stN b = 0 by unfold stN; simp only [if_pos (show b ≤ 191 by omega)], show stM b = 0 by unfold stM; simp only [if_pos (show b ≤ 191 by omega)], show stG b = 0 by unfold stG; simp only [if_pos (show b ≤ 191 by omega)], show stR b = [b] by unfold stR; simp only [if_pos c1]]
    go_enter Try.func145, Try.ntmps145
    go_wp2
    refine bodyPost_ret (v := .tuple #[.agg #[.int .i64 0, .int .i64 0, .int .i64 0], .slice (some ⟨w.heap.size + 1, 0, none⟩) 1 1]) (by simp [results, Try.results145, go_sem]) rfl ⟨_, rfl, ?_, ?_⟩
    · have := runes_one (w.alloc (.cells #[.int .i64 0, .int .i64 0, .int .i64 0] 30)) w.heap.size b (by simp)
      simpa using this
    · exact ((Below.refl _ _).alloc (Nat.le_refl _) _).alloc (by simp) _
  · by_cases c2 : b ≤ 191
    · rw [show stN b = 0 by unfold stN; simp only [if_pos c2], show stM b = 0 by unfold stM; simp only [if_pos c2], show stG b = 0 by unfold stG; simp only [if_pos c2], show stR b = [65533] by unfold stR; simp only [if_pos c2, if_neg c1]]
      go_enter Try.func145, Try.ntmps145
      go_wp2
      refine bodyPost_ret (v := .tuple #[.agg #[.int .i64 0, .int .i64 0, .int .i64 0], .slice (some ⟨w.heap.size + 1, 0, none⟩) 1 1]) (by simp [results, Try.results145, go_sem]) rfl ⟨_, rfl, ?_, ?_⟩
      · have := runes_one (w.alloc (.cells #[.int .i64 0, .int .i64 0, .int .i64 0] 30)) w.heap.size 65533 (by simp)
        simpa using this
      · exact ((Below.refl _ _).alloc (Nat.le_refl _) _).alloc (by simp) _
    · by_cases c3 : b ≤ 223
      · rw [show stN b = 1 by unfold stN; simp only [if_neg c2, if_pos c3], show stM b = 128 by unfold stM; simp only [if_neg c2, if_pos c3], show stG b = b % 32 by unfold stG; simp only [if_neg c2, if_pos c3], show stR b = [] by unfold stR; simp only [if_neg c1, if_neg c2, if_pos (show b ≤ 247 by omega)]]
        go_enter Try.func145, Try.ntmps145
        go_wp2
        exact bodyPost_ret (v := .tuple #[.agg #[.int .i64 1, .int .i64 128, .int .i64 (b % 32)], .slice none 0 0]) (by simp [results, Try.results145, go_sem]) rfl ⟨_, rfl, runes_nil _ _, (Below.refl _ _).alloc (Nat.le_refl _) _⟩
      · by_cases c4 : b ≤ 239
        · rw [show stN b = 2 by unfold stN; simp only [if_neg c2, if_neg c3, if_pos c4], show stM b = 2048 by unfold stM; simp only [if_neg c2, if_neg c3, if_pos c4], show stG b = b % 16 by unfold stG; simp only [if_neg c2, if_neg c3, if_pos c4], show stR b = [] by unfold stR; simp only [if_neg c1, if_neg c2, if_pos (show b ≤ 247 by omega)]]
          go_enter Try.func145, Try.ntmps145
          go_wp2
          exact bodyPost_ret (v := .tuple #[.agg #[.int .i64 2, .int .i64 2048, .int .i64 (b % 16)], .slice none 0 0]) (by simp [results, Try.results145, go_sem]) rfl ⟨_, rfl, runes_nil _ _, (Below.refl _ _).alloc (Nat.le_refl _) _⟩
        · by_cases c5 : b ≤ 247
          · rw [show stN b = 3 by unfold stN; simp only [if_neg c2, if_neg c3, if_neg c4, if_pos c5], show stM b = 65536 by unfold stM; simp only [if_neg c2, if_neg c3, if_neg c4, if_pos c5], show stG b = b % 8 by unfold stG; simp only [if_neg c2, if_neg c3, if_neg c4, if_pos c5], show stR b = [] by unfold stR; simp only [if_neg c1, if_neg c2, if_pos c5]]
            go_enter Try.func145, Try.ntmps145
            go_wp2
            exact bodyPost_ret (v := .tuple #[.agg #[.int .i64 3, .int .i64 65536, .int .i64 (b % 8)], .slice none 0 0]) (by simp [results, Try.results145, go_sem]) rfl ⟨_, rfl, runes_nil _ _, (Below.refl _ _).alloc (Nat.le_refl _) _⟩
          · rw [show stN b = 0 by unfold stN; simp only [if_neg c2, if_neg c3, if_neg c4, if_neg c5], show stM b = 0 by unfold stM; simp only [if_neg c2, if_neg c3, if_neg c4, if_neg c5], show stG b = 0 by unfold stG; simp only [if_neg c2, if_neg c3, if_neg c4, if_neg c5], show stR b = [65533] by unfold stR; simp only [if_neg c1, if_neg c2, if_neg c5]]
            go_enter Try.func145, Try.ntmps145
            go_wp2
            refine bodyPost_ret (v := .tuple #[.agg #[.int .i64 0, .int .i64 0, .int .i64 0], .slice (some ⟨w.heap.size + 1, 0, none⟩) 1 1]) (by simp [results, Try.results145, go_sem]) rfl ⟨_, rfl, ?_, ?_⟩
            · have := runes_one (w.alloc (.cells #[.int .i64 0, .int .i64 0, .int .i64 0] 30)) w.heap.size 65533 (by simp)
              simpa using this
            · exact ((Below.refl _ _).alloc (Nat.le_refl _) _).alloc (by simp) _

end Go.Proofs.Ytpcpmeihebgncaa.Esca
