/-
  What the document's own functions for runes do to the world: the same plain functions of numbers.
-/
import Derived.Test.YtijjkpaagkfiiaaRound
namespace Go.Proofs.Ytijjkpaagkfiiaa
open Go.RowKit

set_option maxHeartbeats 400000 in
theorem first_any (b : Int) (w : World) (h0 : 0 ≤ b) (h1 : b ≤ 255) :
    Calls Try.prog 19 #[.int .u8 b] w (StepPost w (stN b) (stM b) (stG b) (stR b)) := by
  by_cases c1 : b ≤ 127
  · rw [show stN b = 0 by unfold stN; simp only [if_pos (show b ≤ 191 by omega)], show stM b = 0 by unfold stM; simp only [if_pos (show b ≤ 191 by omega)], show stG b = 0 by unfold stG; simp only [if_pos (show b ≤ 191 by omega)], show stR b = [b] by unfold stR; simp only [if_pos c1]]
    go_enter Try.func19, Try.ntmps19
    go_wp2
    refine bodyPost_ret (v := .tuple #[.agg #[.int .i64 0, .int .i64 0, .int .i64 0], .slice (some ⟨w.heap.size + 1, 0, none⟩) 1 1]) (by simp [results, Try.results19, go_sem]) rfl ⟨_, rfl, ?_, ?_⟩
    · have := runes_one (w.alloc (.cells #[.int .i64 0, .int .i64 0, .int .i64 0] 25)) w.heap.size b (by simp)
      simpa using this
    · exact ((Below.refl _ _).alloc (Nat.le_refl _) _).alloc (by simp) _
  · by_cases c2 : b ≤ 191
    · rw [show stN b = 0 by unfold stN; simp only [if_pos c2], show stM b = 0 by unfold stM; simp only [if_pos c2], show stG b = 0 by unfold stG; simp only [if_pos c2], show stR b = [65533] by unfold stR; simp only [if_pos c2, if_neg c1]]
      go_enter Try.func19, Try.ntmps19
      go_wp2
      refine bodyPost_ret (v := .tuple #[.agg #[.int .i64 0, .int .i64 0, .int .i64 0], .slice (some ⟨w.heap.size + 1, 0, none⟩) 1 1]) (by simp [results, Try.results19, go_sem]) rfl ⟨_, rfl, ?_, ?_⟩
      · have := runes_one (w.alloc (.cells #[.int .i64 0, .int .i64 0, .int .i64 0] 25)) w.heap.size 65533 (by simp)
        simpa using this
      · exact ((Below.refl _ _).alloc (Nat.le_refl _) _).alloc (by simp) _
    · by_cases c3 : b ≤ 223
      · rw [show stN b = 1 by unfold stN; simp only [if_neg c2, if_pos c3], show stM b = 128 by unfold stM; simp only [if_neg c2, if_pos c3], show stG b = b % 32 by unfold stG; simp only [if_neg c2, if_pos c3], show stR b = [] by unfold stR; simp only [if_neg c1, if_neg c2, if_pos (show b ≤ 247 by omega)]]
        go_enter Try.func19, Try.ntmps19
        go_wp2
        exact bodyPost_ret (v := .tuple #[.agg #[.int .i64 1, .int .i64 128, .int .i64 (b % 32)], .slice none 0 0]) (by simp [results, Try.results19, go_sem]) rfl ⟨_, rfl, runes_nil _ _, (Below.refl _ _).alloc (Nat.le_refl _) _⟩
      · by_cases c4 : b ≤ 239
        · rw [show stN b = 2 by unfold stN; simp only [if_neg c2, if_neg c3, if_pos c4], show stM b = 2048 by unfold stM; simp only [if_neg c2, if_neg c3, if_pos c4], show stG b = b % 16 by unfold stG; simp only [if_neg c2, if_neg c3, if_pos c4], show stR b = [] by unfold stR; simp only [if_neg c1, if_neg c2, if_pos (show b ≤ 247 by omega)]]
          go_enter Try.func19, Try.ntmps19
          go_wp2
          exact bodyPost_ret (v := .tuple #[.agg #[.int .i64 2, .int .i64 2048, .int .i64 (b % 16)], .slice none 0 0]) (by simp [results, Try.results19, go_sem]) rfl ⟨_, rfl, runes_nil _ _, (Below.refl _ _).alloc (Nat.le_refl _) _⟩
        · by_cases c5 : b ≤ 247
          · rw [show stN b = 3 by unfold stN; simp only [if_neg c2, if_neg c3, if_neg c4, if_pos c5], show stM b = 65536 by unfold stM; simp only [if_neg c2, if_neg c3, if_neg c4, if_pos c5], show stG b = b % 8 by unfold stG; simp only [if_neg c2, if_neg c3, if_neg c4, if_pos c5], show stR b = [] by unfold stR; simp only [if_neg c1, if_neg c2, if_pos c5]]
            go_enter Try.func19, Try.ntmps19
            go_wp2
            exact bodyPost_ret (v := .tuple #[.agg #[.int .i64 3, .int .i64 65536, .int .i64 (b % 8)], .slice none 0 0]) (by simp [results, Try.results19, go_sem]) rfl ⟨_, rfl, runes_nil _ _, (Below.refl _ _).alloc (Nat.le_refl _) _⟩
          · rw [show stN b = 0 by unfold stN; simp only [if_neg c2, if_neg c3, if_neg c4, if_neg c5], show stM b = 0 by unfold stM; simp only [if_neg c2, if_neg c3, if_neg c4, if_neg c5], show stG b = 0 by unfold stG; simp only [if_neg c2, if_neg c3, if_neg c4, if_neg c5], show stR b = [65533] by unfold stR; simp only [if_neg c1, if_neg c2, if_neg c5]]
            go_enter Try.func19, Try.ntmps19
            go_wp2
            refine bodyPost_ret (v := .tuple #[.agg #[.int .i64 0, .int .i64 0, .int .i64 0], .slice (some ⟨w.heap.size + 1, 0, none⟩) 1 1]) (by simp [results, Try.results19, go_sem]) rfl ⟨_, rfl, ?_, ?_⟩
            · have := runes_one (w.alloc (.cells #[.int .i64 0, .int .i64 0, .int .i64 0] 25)) w.heap.size 65533 (by simp)
              simpa using this
            · exact ((Below.refl _ _).alloc (Nat.le_refl _) _).alloc (by simp) _

set_option maxHeartbeats 400000 in
theorem rune1_any (g m : Int) (w : World) (h0 : 0 ≤ g ∨ 0 ≤ m) :
    Calls Try.prog 20 #[.int .i64 g, .int .i64 m] w fun e w' => e = .returned (.int .i32 (endR g m)) ∧ w = w' := by
  by_cases h2 : g < m
  · have e2 : endR g m = 65533 := by simp [endR, h2]
    rw [e2]; clear e2
    by_cases h4 : 55296 ≤ g <;>
    · go_enter Try.func20, Try.ntmps20
      go_wp2
      all_goals (go_ret; exact ⟨rfl, rfl⟩)
  · have h0' : 0 ≤ g := by omega
    clear h0
    by_cases h3 : 1114111 < g
    · have e2 : endR g m = 65533 := by simp [endR, h3]
      rw [e2]; clear e2
      go_enter Try.func20, Try.ntmps20
      go_wp2
      all_goals (go_ret; exact ⟨rfl, rfl⟩)
    · by_cases h4 : 55296 ≤ g
      · by_cases h5 : g ≤ 57343
        · have e2 : endR g m = 65533 := by simp [endR, h4, h5]
          rw [e2]; clear e2
          go_enter Try.func20, Try.ntmps20
          go_wp2
          all_goals (go_ret; exact ⟨rfl, rfl⟩)
        · have e2 : endR g m = g := by simp [endR]; omega
          rw [e2]; clear e2
          go_enter Try.func20, Try.ntmps20
          go_wp2
          all_goals (go_ret; exact ⟨rfl, rfl⟩)
      · have e2 : endR g m = g := by simp [endR]; omega
        rw [e2]; clear e2
        go_enter Try.func20, Try.ntmps20
        go_wp2
        all_goals (go_ret; exact ⟨rfl, rfl⟩)

set_option maxHeartbeats 400000 in
theorem refEnd_any (n m g : Int) (w : World) : Calls Try.prog 12 #[.agg #[.int .i64 n, .int .i64 m, .int .i64 g]] w (EndPost w (enR n)) := by
  by_cases hn : 0 < n
  · rw [show enR n = [65533] by unfold enR; simp only [if_pos hn]]
    go_enter Try.func12, Try.ntmps12
    go_wp2
    go_ret
    exact ⟨_, rfl, runes_one' _ _ _ _ (Nat.le_refl _), below_alloc2 _ _ _⟩
  · rw [show enR n = [] by unfold enR; simp only [if_neg hn]]
    go_enter Try.func12, Try.ntmps12
    go_wp2
    go_ret
    exact ⟨_, rfl, runes_nil _ _, (Below.refl _ _).alloc (Nat.le_refl _) _⟩

set_option maxHeartbeats 400000 in
theorem utf_fresh (n m g b : Int) (w : World) (hn : n ≤ 0) (h0 : 0 ≤ b) (h1 : b ≤ 255) :
    Calls Try.prog 11 #[.agg #[.int .i64 n, .int .i64 m, .int .i64 g], .int .u8 b] w (StepPost w (stN b) (stM b) (stG b) (stR b)) := by
  have hd : decide (0 < n) = false := by simp; omega
  go_enter Try.func11, Try.ntmps11
  go_wp2_with (
    (go_at_call 19; refine (first_any b _ h0 h1).mono ?_; rintro e w2 ⟨v, rfl, hr, hb2⟩; obtain ⟨hc2, hf2⟩ := bcell hb2))
  refine bodyPost_ret (v := .tuple #[.agg #[.int .i64 (stN b), .int .i64 (stM b), .int .i64 (stG b)], v]) (by simp [results, Try.results11, go_sem, hc2]) rfl ⟨v, rfl, ?_, ?_⟩
  · exact own_base (runes_set3 hr (by simp) _ _ _) (by simp; omega)
  · exact below_set3 ((below_alloc2 _ _ _).trans (hb2.mono (by simp; omega))) (by omega) _ _ _

set_option maxHeartbeats 800000 in
theorem utf_low (n m g b : Int) (w : World) (hn : 0 < n) (h0 : 0 ≤ b) (h1 : b ≤ 255) (hx : b < 128) (hl : (stR b).length ≤ 1) :
    Calls Try.prog 11 #[.agg #[.int .i64 n, .int .i64 m, .int .i64 g], .int .u8 b] w (StepPost w (stN b) (stM b) (stG b) (65533 :: stR b)) := by
  have hd : decide (0 < n) = true := by simp; omega
  go_enter Try.func11, Try.ntmps11
  go_wp2_with (first
    | (go_at_call 19; refine (first_any b _ h0 h1).mono ?_; rintro e w2 ⟨v, rfl, hr, hb2⟩; obtain ⟨hc2, hf2⟩ := bcell hb2))
  have hz2 : w.heap.size + 2 ≤ w2.heap.size := by have := hb2.size; simp at this; omega
  have k0 : w2.cell? ⟨w.heap.size + 1, 0, none⟩ = some (.int .i64 0) := (hc2 _ _ (by simp)).trans (by simp [go_sem])
  have k1 : w2.cell? ⟨w.heap.size + 1, 1, none⟩ = some (.int .i64 0) := (hc2 _ _ (by simp)).trans (by simp [go_sem])
  have k2 : w2.cell? ⟨w.heap.size + 1, 2, none⟩ = some (.int .i64 0) := (hc2 _ _ (by simp)).trans (by simp [go_sem])
  have f0 : ∀ o, w2.frozen? ⟨w.heap.size + 1, o, none⟩ = false := fun o => (hf2 _ _ (by simp)).trans (by simp [go_sem])
  clear hc2 hf2
  have hbw : Below w.heap.size w w2 := (below_alloc2 _ _ _).trans (hb2.mono (by simp; omega))
  have hr' : Runes w2 (w.heap.size + 2) v (stR b) := own_base hr (by simp)
  clear hb2 hr
  have hlt : w.heap.size + 1 < w2.heap.size := by omega
  have hrow := World.ownsRow_lit (base := w2.heap.size + 1) (e := 21) (size := 1) (w2.alloc (.cells #[.int .i64 (stN b), .int .i64 (stM b), .int .i64 (stG b)] 25)) #[.int .i32 65533] 1 (by simp) (by simp [maxLen]) rfl
  rw [World.size_alloc] at hrow
  go_region_held3 (fun w' => w'.cell? ⟨w2.heap.size, 0, none⟩ = some (.int .i64 (stN b)) ∧ w'.cell? ⟨w2.heap.size, 1, none⟩ = some (.int .i64 (stM b)) ∧ w'.cell? ⟨w2.heap.size, 2, none⟩ = some (.int .i64 (stG b)))
    (first
      | go_keep
      | exact ⟨r0, r1, r2⟩
      | exact ⟨(cell_set3 (by omega)).trans r0, (cell_set3 (by omega)).trans r1, (cell_set3 (by omega)).trans r2⟩)
    ((refine step_append_rows _ (by rfl) _ _ _ (by rfl) rowRune (w2.heap.size + 1) (w.heap.size + 2) 1 (stR b).length (.slice (some ⟨w2.heap.size + 1, 0, none⟩) 1 1) v [.int .i32 65533] (i32s (stR b)) (by rfl) (by rfl)
        (by exact hrow) (by exact (World.ownsRow.alloc (World.ownsRow.alloc hr' _) _)) (i32s_one _) (by omega) (by simp) ?_; intro v3 w3 hap
      obtain ⟨p0, g0⟩ := kept2 hap rfl hlt
      have q0 := (p0 0).trans k0
      have q1 := (p0 1).trans k1
      have q2 := (p0 2).trans k2
      have g0 := fun o => (g0 o).trans (f0 o)
      have r0 : w3.cell? ⟨w2.heap.size, 0, none⟩ = some (.int .i64 (stN b)) := (kept2_new hap rfl 0).trans rfl
      have r1 : w3.cell? ⟨w2.heap.size, 1, none⟩ = some (.int .i64 (stM b)) := (kept2_new hap rfl 1).trans rfl
      have r2 : w3.cell? ⟨w2.heap.size, 2, none⟩ = some (.int .i64 (stG b)) := (kept2_new hap rfl 2).trans rfl
      clear p0))
  go_wp2
  refine bodyPost_ret (v := .tuple #[.agg #[.int .i64 (stN b), .int .i64 (stM b), .int .i64 (stG b)], v3]) (by simp [results, Try.results11, go_sem, q0, q1, q2]) rfl ⟨v3, rfl, ?_, ?_⟩
  · have h3 : Runes w3 (w2.heap.size + 1) v3 (65533 :: stR b) := by
      have := hap.own
      unfold Runes
      rw [show (65533 :: stR b).length = 1 + (stR b).length by simp; omega]
      exact this
    exact own_base (runes_set3 h3 (by omega) _ _ _) (by omega)
  · refine below_set3 (hbw.trans ?_) (by omega) _ _ _
    refine Below.trans ((((Below.refl _ w2).alloc (by omega) _).alloc (by simp; omega) _).drew) ((hap.below hrow (by simp)).mono (by omega))


set_option maxHeartbeats 800000 in
theorem utf_high (n m g b : Int) (w : World) (hn : 0 < n) (h0 : 0 ≤ b) (h1 : b ≤ 255) (hx : 191 < b) (hl : (stR b).length ≤ 1) :
    Calls Try.prog 11 #[.agg #[.int .i64 n, .int .i64 m, .int .i64 g], .int .u8 b] w (StepPost w (stN b) (stM b) (stG b) (65533 :: stR b)) := by
  have hd : decide (0 < n) = true := by simp; omega
  go_enter Try.func11, Try.ntmps11
  go_wp2_with (first
    | (go_at_call 19; refine (first_any b _ h0 h1).mono ?_; rintro e w2 ⟨v, rfl, hr, hb2⟩; obtain ⟨hc2, hf2⟩ := bcell hb2))
  have hz2 : w.heap.size + 2 ≤ w2.heap.size := by have := hb2.size; simp at this; omega
  have k0 : w2.cell? ⟨w.heap.size + 1, 0, none⟩ = some (.int .i64 0) := (hc2 _ _ (by simp)).trans (by simp [go_sem])
  have k1 : w2.cell? ⟨w.heap.size + 1, 1, none⟩ = some (.int .i64 0) := (hc2 _ _ (by simp)).trans (by simp [go_sem])
  have k2 : w2.cell? ⟨w.heap.size + 1, 2, none⟩ = some (.int .i64 0) := (hc2 _ _ (by simp)).trans (by simp [go_sem])
  have f0 : ∀ o, w2.frozen? ⟨w.heap.size + 1, o, none⟩ = false := fun o => (hf2 _ _ (by simp)).trans (by simp [go_sem])
  clear hc2 hf2
  have hbw : Below w.heap.size w w2 := (below_alloc2 _ _ _).trans (hb2.mono (by simp; omega))
  have hr' : Runes w2 (w.heap.size + 2) v (stR b) := own_base hr (by simp)
  clear hb2 hr
  have hlt : w.heap.size + 1 < w2.heap.size := by omega
  have hrow := World.ownsRow_lit (base := w2.heap.size + 1) (e := 21) (size := 1) (w2.alloc (.cells #[.int .i64 (stN b), .int .i64 (stM b), .int .i64 (stG b)] 25)) #[.int .i32 65533] 1 (by simp) (by simp [maxLen]) rfl
  rw [World.size_alloc] at hrow
  go_region_held3 (fun w' => w'.cell? ⟨w2.heap.size, 0, none⟩ = some (.int .i64 (stN b)) ∧ w'.cell? ⟨w2.heap.size, 1, none⟩ = some (.int .i64 (stM b)) ∧ w'.cell? ⟨w2.heap.size, 2, none⟩ = some (.int .i64 (stG b)))
    (first
      | go_keep
      | exact ⟨r0, r1, r2⟩
      | exact ⟨(cell_set3 (by omega)).trans r0, (cell_set3 (by omega)).trans r1, (cell_set3 (by omega)).trans r2⟩)
    ((refine step_append_rows _ (by rfl) _ _ _ (by rfl) rowRune (w2.heap.size + 1) (w.heap.size + 2) 1 (stR b).length (.slice (some ⟨w2.heap.size + 1, 0, none⟩) 1 1) v [.int .i32 65533] (i32s (stR b)) (by rfl) (by rfl)
        (by exact hrow) (by exact (World.ownsRow.alloc (World.ownsRow.alloc hr' _) _)) (i32s_one _) (by omega) (by simp) ?_; intro v3 w3 hap
      obtain ⟨p0, g0⟩ := kept2 hap rfl hlt
      have q0 := (p0 0).trans k0
      have q1 := (p0 1).trans k1
      have q2 := (p0 2).trans k2
      have g0 := fun o => (g0 o).trans (f0 o)
      have r0 : w3.cell? ⟨w2.heap.size, 0, none⟩ = some (.int .i64 (stN b)) := (kept2_new hap rfl 0).trans rfl
      have r1 : w3.cell? ⟨w2.heap.size, 1, none⟩ = some (.int .i64 (stM b)) := (kept2_new hap rfl 1).trans rfl
      have r2 : w3.cell? ⟨w2.heap.size, 2, none⟩ = some (.int .i64 (stG b)) := (kept2_new hap rfl 2).trans rfl
      clear p0))
  go_wp2
  refine bodyPost_ret (v := .tuple #[.agg #[.int .i64 (stN b), .int .i64 (stM b), .int .i64 (stG b)], v3]) (by simp [results, Try.results11, go_sem, q0, q1, q2]) rfl ⟨v3, rfl, ?_, ?_⟩
  · have h3 : Runes w3 (w2.heap.size + 1) v3 (65533 :: stR b) := by
      have := hap.own
      unfold Runes
      rw [show (65533 :: stR b).length = 1 + (stR b).length by simp; omega]
      exact this
    exact own_base (runes_set3 h3 (by omega) _ _ _) (by omega)
  · refine below_set3 (hbw.trans ?_) (by omega) _ _ _
    refine Below.trans ((((Below.refl _ w2).alloc (by omega) _).alloc (by simp; omega) _).drew) ((hap.below hrow (by simp)).mono (by omega))


set_option maxHeartbeats 400000 in
theorem utf_more (n m g b : Int) (w : World) (hn : 1 < n) (hn3 : n ≤ 3) (hg : 0 ≤ g) (hg2 : g ≤ 32767) (h0 : 128 ≤ b) (h1 : b ≤ 191) :
    Calls Try.prog 11 #[.agg #[.int .i64 n, .int .i64 m, .int .i64 g], .int .u8 b] w (StepPost w (n - 1) m (g * 64 + b % 64) []) := by
  rw [show g * 64 + b % 64 = 64 * g + b % 64 by omega]
  go_enter Try.func11, Try.ntmps11
  go_wp2
  exact bodyPost_ret (v := .tuple #[.agg #[.int .i64 (n - 1), .int .i64 m, .int .i64 (64 * g + b % 64)], .slice none 0 0]) (by simp [results, Try.results11, go_sem]) rfl ⟨_, rfl, runes_nil _ _, below_alloc2 _ _ _⟩
set_option maxHeartbeats 400000 in
theorem utf_last (n m g b : Int) (w : World) (hn : n ≤ 1) (hn0 : 0 < n) (hg : 0 ≤ g) (hg2 : g ≤ 32767) (h0 : 128 ≤ b) (h1 : b ≤ 191) :
    Calls Try.prog 11 #[.agg #[.int .i64 n, .int .i64 m, .int .i64 g], .int .u8 b] w (StepPost w 0 0 0 [endR (g * 64 + b % 64) m]) := by
  rw [show g * 64 + b % 64 = 64 * g + b % 64 by omega]
  go_enter Try.func11, Try.ntmps11
  go_wp2_with (go_at_call 20; refine (rune1_any _ _ _ (by omega)).mono ?_; rintro e w' ⟨rfl, rfl⟩)
  refine bodyPost_ret (v := .tuple #[.agg #[.int .i64 0, .int .i64 0, .int .i64 0], .slice (some ⟨w.heap.size + 1 + 1, 0, none⟩) 1 1]) (by simp [results, Try.results11, go_sem]) rfl ⟨_, rfl, ?_, below_alloc3 _ _ _ _⟩
  have := runes_one ((w.alloc (.cells #[.int .i64 (n - 1), .int .i64 m, .int .i64 (64 * g + b % 64)] 25)).alloc (.cells #[.int .i64 0, .int .i64 0, .int .i64 0] 25)) w.heap.size (endR (64 * g + b % 64) m) (by simp; omega)
  simpa using this

theorem utf_any (s : U) (b : Int) (w : World) (hs : s.Ok) (h0 : 0 ≤ b) (h1 : b ≤ 255) :
    Calls Try.prog 11 #[.agg #[.int .i64 s.n, .int .i64 s.m, .int .i64 s.g], .int .u8 b] w (StepPost w (nx s b).n (nx s b).m (nx s b).g (nxR s b)) := by
  obtain ⟨a1, a2, a3, a4, a5, a6⟩ := hs
  by_cases c : 0 < s.n
  · by_cases d : 128 ≤ b ∧ b ≤ 191
    · by_cases f : 1 < s.n
      · have e1 : nx s b = ⟨s.n - 1, s.m, s.g * 64 + b % 64⟩ := by unfold nx; rw [if_pos ⟨c, d⟩, if_pos f]
        have e2 : nxR s b = [] := by unfold nxR; rw [if_pos c, if_pos d, if_pos f]
        rw [e1, e2]
        exact utf_more s.n s.m s.g b w f a2 a3 a4 d.1 d.2
      · have e1 : nx s b = U.zero := by unfold nx; rw [if_pos ⟨c, d⟩, if_neg f]
        have e2 : nxR s b = [endR (s.g * 64 + b % 64) s.m] := by unfold nxR; rw [if_pos c, if_pos d, if_neg f]
        rw [e1, e2]
        exact utf_last s.n s.m s.g b w (by omega) c a3 a4 d.1 d.2
    · have e1 : nx s b = ⟨stN b, stM b, stG b⟩ := by unfold nx; rw [if_neg (fun h => d h.2)]
      have e2 : nxR s b = 65533 :: stR b := by unfold nxR; rw [if_pos c, if_neg d]
      rw [e1, e2]
      by_cases f : b < 128
      · exact utf_low s.n s.m s.g b w c h0 h1 f (stR_len b)
      · exact utf_high s.n s.m s.g b w c h0 h1 (by omega) (stR_len b)
  · have e1 : nx s b = ⟨stN b, stM b, stG b⟩ := by unfold nx; rw [if_neg (fun h => c h.1)]
    have e2 : nxR s b = stR b := by unfold nxR; rw [if_neg c]
    rw [e1, e2]
    exact utf_fresh s.n s.m s.g b w (by omega) h0 h1

end Go.Proofs.Ytijjkpaagkfiiaa
