/-
  What the document's own functions for runes answer: the same plain functions of numbers (taken over from the proofs of layer 1). Conditions: what is begun is what steps make; a byte.
-/
import Derived.Test.YtpcpmeihebgncaaB1
import Derived.Deep.RegionHeld3
import Derived.Test.YtpcpmeihebgncaaB7
import Derived.Deep.Cut
import Derived.Deep.DeepCutAuto
namespace Go.Proofs.Ytpcpmeihebgncaa.Esca
open Go.RowKit
set_option maxRecDepth 100000
set_option linter.unusedSimpArgs false
def EndPost (w : World) (rs : List Int) (e : Ending) (w' : World) : Prop := ∃ v, e = .returned v ∧ Runes w' w.heap.size v rs ∧ Below w.heap.size w w'
def enR (n : Int) : List Int := if 0 < n then [65533] else []

set_option maxHeartbeats 400000 in
theorem first_any (b : Int) (w : World) (h0 : 0 ≤ b) (h1 : b ≤ 255) :
    Calls Try.prog 113 #[.int .u8 b] w (StepPost w (stN b) (stM b) (stG b) (stR b)) := by
  by_cases c1 : b ≤ 127
  · rw [show stN b = 0 by unfold stN; simp only [if_pos (show b ≤ 191 by omega)], show stM b = 0 by unfold stM; simp only [if_pos (show b ≤ 191 by omega)], show stG b = 0 by unfold stG; simp only [if_pos (show b ≤ 191 by omega)], show stR b = [b] by unfold stR; simp only [if_pos c1]]
    go_enter Try.func113, Try.ntmps113
    go_wp2
    refine bodyPost_ret (v := .tuple #[.agg #[.int .i64 0, .int .i64 0, .int .i64 0], .slice (some ⟨w.heap.size + 1, 0, none⟩) 1 1]) (by simp [results, Try.results113, go_sem]) rfl ⟨_, rfl, ?_, ?_⟩
    · have := runes_one (w.alloc (.cells #[.int .i64 0, .int .i64 0, .int .i64 0] 30)) w.heap.size b (by simp)
      simpa using this
    · exact ((Below.refl _ _).alloc (Nat.le_refl _) _).alloc (by simp) _
  · by_cases c2 : b ≤ 191
    · rw [show stN b = 0 by unfold stN; simp only [if_pos c2], show stM b = 0 by unfold stM; simp only [if_pos c2], show stG b = 0 by unfold stG; simp only [if_pos c2], show stR b = [65533] by unfold stR; simp only [if_pos c2, if_neg c1]]
      go_enter Try.func113, Try.ntmps113
      go_wp2
      refine bodyPost_ret (v := .tuple #[.agg #[.int .i64 0, .int .i64 0, .int .i64 0], .slice (some ⟨w.heap.size + 1, 0, none⟩) 1 1]) (by simp [results, Try.results113, go_sem]) rfl ⟨_, rfl, ?_, ?_⟩
      · have := runes_one (w.alloc (.cells #[.int .i64 0, .int .i64 0, .int .i64 0] 30)) w.heap.size 65533 (by simp)
        simpa using this
      · exact ((Below.refl _ _).alloc (Nat.le_refl _) _).alloc (by simp) _
    · by_cases c3 : b ≤ 223
      · rw [show stN b = 1 by unfold stN; simp only [if_neg c2, if_pos c3], show stM b = 128 by unfold stM; simp only [if_neg c2, if_pos c3], show stG b = b % 32 by unfold stG; simp only [if_neg c2, if_pos c3], show stR b = [] by unfold stR; simp only [if_neg c1, if_neg c2, if_pos (show b ≤ 247 by omega)]]
        go_enter Try.func113, Try.ntmps113
        go_wp2
        exact bodyPost_ret (v := .tuple #[.agg #[.int .i64 1, .int .i64 128, .int .i64 (b % 32)], .slice none 0 0]) (by simp [results, Try.results113, go_sem]) rfl ⟨_, rfl, runes_nil _ _, (Below.refl _ _).alloc (Nat.le_refl _) _⟩
      · by_cases c4 : b ≤ 239
        · rw [show stN b = 2 by unfold stN; simp only [if_neg c2, if_neg c3, if_pos c4], show stM b = 2048 by unfold stM; simp only [if_neg c2, if_neg c3, if_pos c4], show stG b = b % 16 by unfold stG; simp only [if_neg c2, if_neg c3, if_pos c4], show stR b = [] by unfold stR; simp only [if_neg c1, if_neg c2, if_pos (show b ≤ 247 by omega)]]
          go_enter Try.func113, Try.ntmps113
          go_wp2
          exact bodyPost_ret (v := .tuple #[.agg #[.int .i64 2, .int .i64 2048, .int .i64 (b % 16)], .slice none 0 0]) (by simp [results, Try.results113, go_sem]) rfl ⟨_, rfl, runes_nil _ _, (Below.refl _ _).alloc (Nat.le_refl _) _⟩
        · by_cases c5 : b ≤ 247
          · rw [show stN b = 3 by unfold stN; simp only [if_neg c2, if_neg c3, if_neg c4, if_pos c5], show stM b = 65536 by unfold stM; simp only [if_neg c2, if_neg c3, if_neg c4, if_pos c5], show stG b = b % 8 by unfold stG; simp only [if_neg c2, if_neg c3, if_neg c4, if_pos c5], show stR b = [] by unfold stR; simp only [if_neg c1, if_neg c2, if_pos c5]]
            go_enter Try.func113, Try.ntmps113
            go_wp2
            exact bodyPost_ret (v := .tuple #[.agg #[.int .i64 3, .int .i64 65536, .int .i64 (b % 8)], .slice none 0 0]) (by simp [results, Try.results113, go_sem]) rfl ⟨_, rfl, runes_nil _ _, (Below.refl _ _).alloc (Nat.le_refl _) _⟩
          · rw [show stN b = 0 by unfold stN; simp only [if_neg c2, if_neg c3, if_neg c4, if_neg c5], show stM b = 0 by unfold stM; simp only [if_neg c2, if_neg c3, if_neg c4, if_neg c5], show stG b = 0 by unfold stG; simp only [if_neg c2, if_neg c3, if_neg c4, if_neg c5], show stR b = [65533] by unfold stR; simp only [if_neg c1, if_neg c2, if_neg c5]]
            go_enter Try.func113, Try.ntmps113
            go_wp2
            refine bodyPost_ret (v := .tuple #[.agg #[.int .i64 0, .int .i64 0, .int .i64 0], .slice (some ⟨w.heap.size + 1, 0, none⟩) 1 1]) (by simp [results, Try.results113, go_sem]) rfl ⟨_, rfl, ?_, ?_⟩
            · have := runes_one (w.alloc (.cells #[.int .i64 0, .int .i64 0, .int .i64 0] 30)) w.heap.size 65533 (by simp)
              simpa using this
            · exact ((Below.refl _ _).alloc (Nat.le_refl _) _).alloc (by simp) _

set_option maxHeartbeats 400000 in
theorem rune1_any (g m : Int) (w : World) (h0 : 0 ≤ g ∨ 0 ≤ m) :
    Calls Try.prog 114 #[.int .i64 g, .int .i64 m] w fun e w' => e = .returned (.int .i32 (endR g m)) ∧ w = w' := by
  by_cases h2 : g < m
  · have e2 : endR g m = 65533 := by simp [endR, h2]
    rw [e2]; clear e2
    by_cases h4 : 55296 ≤ g <;>
    · go_enter Try.func114, Try.ntmps114
      go_wp2
      all_goals (go_ret; exact ⟨rfl, rfl⟩)
  · have h0' : 0 ≤ g := by omega
    clear h0
    by_cases h3 : 1114111 < g
    · have e2 : endR g m = 65533 := by simp [endR, h3]
      rw [e2]; clear e2
      go_enter Try.func114, Try.ntmps114
      go_wp2
      all_goals (go_ret; exact ⟨rfl, rfl⟩)
    · by_cases h4 : 55296 ≤ g
      · by_cases h5 : g ≤ 57343
        · have e2 : endR g m = 65533 := by simp [endR, h4, h5]
          rw [e2]; clear e2
          go_enter Try.func114, Try.ntmps114
          go_wp2
          all_goals (go_ret; exact ⟨rfl, rfl⟩)
        · have e2 : endR g m = g := by simp [endR]; omega
          rw [e2]; clear e2
          go_enter Try.func114, Try.ntmps114
          go_wp2
          all_goals (go_ret; exact ⟨rfl, rfl⟩)
      · have e2 : endR g m = g := by simp [endR]; omega
        rw [e2]; clear e2
        go_enter Try.func114, Try.ntmps114
        go_wp2
        all_goals (go_ret; exact ⟨rfl, rfl⟩)

theorem runes_one' (w : World) (o : Obj) (B : Nat) (r : Int) (hB : B ≤ w.heap.size) : Runes ((w.alloc o).alloc (.cells #[.int .i32 r] 21)) B (.slice (some ⟨w.heap.size + 1, 0, none⟩) 1 1) [r] := by
  have := runes_one (w.alloc o) B r (by simp; omega)
  rwa [World.size_alloc] at this
set_option maxHeartbeats 400000 in
theorem refEnd_any (n m g : Int) (w : World) : Calls Try.prog 62 #[.agg #[.int .i64 n, .int .i64 m, .int .i64 g]] w (EndPost w (enR n)) := by
  by_cases hn : 0 < n
  · rw [show enR n = [65533] by unfold enR; simp only [if_pos hn]]
    go_enter Try.func62, Try.ntmps62
    go_wp2
    go_ret
    exact ⟨_, rfl, runes_one' _ _ _ _ (Nat.le_refl _), below_alloc2 _ _ _⟩
  · rw [show enR n = [] by unfold enR; simp only [if_neg hn]]
    go_enter Try.func62, Try.ntmps62
    go_wp2
    go_ret
    exact ⟨_, rfl, runes_nil _ _, (Below.refl _ _).alloc (Nat.le_refl _) _⟩

set_option maxHeartbeats 400000 in
theorem utf_fresh (n m g b : Int) (w : World) (hn : n ≤ 0) (h0 : 0 ≤ b) (h1 : b ≤ 255) :
    Calls Try.prog 60 #[.agg #[.int .i64 n, .int .i64 m, .int .i64 g], .int .u8 b] w (StepPost w (stN b) (stM b) (stG b) (stR b)) := by
  have hd : decide (0 < n) = false := by simp; omega
  go_enter Try.func60, Try.ntmps60
  go_wp2_with (
    (go_at_call 113; refine (first_any b _ h0 h1).mono ?_; rintro e w2 ⟨v, rfl, hr, hb2⟩; obtain ⟨hc2, hf2⟩ := bcell hb2))
  refine bodyPost_ret (v := .tuple #[.agg #[.int .i64 (stN b), .int .i64 (stM b), .int .i64 (stG b)], v]) (by simp [results, Try.results60, go_sem, hc2]) rfl ⟨v, rfl, ?_, ?_⟩
  · exact own_base (runes_set3 hr (by simp) _ _ _) (by simp; omega)
  · exact below_set3 ((below_alloc2 _ _ _).trans (hb2.mono (by simp; omega))) (by omega) _ _ _

set_option maxHeartbeats 800000 in
theorem utf_low (n m g b : Int) (w : World) (hn : 0 < n) (h0 : 0 ≤ b) (h1 : b ≤ 255) (hx : b < 128) (hl : (stR b).length ≤ 1) :
    Calls Try.prog 60 #[.agg #[.int .i64 n, .int .i64 m, .int .i64 g], .int .u8 b] w (StepPost w (stN b) (stM b) (stG b) (65533 :: stR b)) := by
  have hd : decide (0 < n) = true := by simp; omega
  go_enter Try.func60, Try.ntmps60
  go_wp2_with (first
    | (go_at_call 113; refine (first_any b _ h0 h1).mono ?_; rintro e w2 ⟨v, rfl, hr, hb2⟩; obtain ⟨hc2, hf2⟩ := bcell hb2))
  have hz2 : w.heap.size + 2 ≤ w2.heap.size := by have := hb2.size; simp at this; omega
  have k0 : w2.cell? ⟨w.heap.size + 1, 0, none⟩ = some (.int .i64 0) := (hc2 _ _ (by simp)).trans (by simp [go_sem])
  have k1 : w2.cell? ⟨w.heap.size + 1, 1, none⟩ = some (.int .i64 0) := (hc2 _ _ (by simp)).trans (by simp [go_sem])
  have k2 : w2.cell? ⟨w.heap.size + 1, 2, none⟩ = some (.int .i64 0) := (hc2 _ _ (by simp)).trans (by simp [go_sem])
  have f0 : ∀ o, w2.frozen? ⟨w.heap.size + 1, o, none⟩ = false := fun o => (hf2 _ _ (by simp)).trans (by simp [go_sem])
  clear hc2 hf2
  have hbw : Below w.heap.size w w2 := (below_alloc2 _ _ _).trans (hb2.mono (by simp; omega))
  have hr' : Runes w2 (w.heap.size + 2) v (stR b) := own_base hr (by simp)
  clear hb2 hr
  have hlt : w.heap.size + 1 < w2.heap.size := by omega
  have hrow := World.ownsRow_lit (base := w2.heap.size + 1) (e := 21) (size := 1) (w2.alloc (.cells #[.int .i64 (stN b), .int .i64 (stM b), .int .i64 (stG b)] 30)) #[.int .i32 65533] 1 (by simp) (by simp [maxLen]) rfl
  rw [World.size_alloc] at hrow
  go_region_held3 (fun w' => w'.cell? ⟨w2.heap.size, 0, none⟩ = some (.int .i64 (stN b)) ∧ w'.cell? ⟨w2.heap.size, 1, none⟩ = some (.int .i64 (stM b)) ∧ w'.cell? ⟨w2.heap.size, 2, none⟩ = some (.int .i64 (stG b)))
    (first
      | go_keep
      | exact ⟨r0, r1, r2⟩
      | exact ⟨(cell_set3 (by omega)).trans r0, (cell_set3 (by omega)).trans r1, (cell_set3 (by omega)).trans r2⟩)
    ((refine step_append_rows _ (by rfl) _ _ _ (by rfl) rowRune (w2.heap.size + 1) (w.heap.size + 2) 1 (stR b).length (.slice (some ⟨w2.heap.size + 1, 0, none⟩) 1 1) v [.int .i32 65533] (i32s (stR b)) (by rfl) (by rfl)
        (by exact hrow) (by exact (World.ownsRow.alloc (World.ownsRow.alloc hr' _) _)) (i32s_one _) (by omega) (by simp) ?_; intro v3 w3 hap
      obtain ⟨p0, g0⟩ := kept2 hap rfl hlt
      have q0 := (p0 0).trans k0
      have q1 := (p0 1).trans k1
      have q2 := (p0 2).trans k2
      have g0 := fun o => (g0 o).trans (f0 o)
      have r0 : w3.cell? ⟨w2.heap.size, 0, none⟩ = some (.int .i64 (stN b)) := (kept2_new hap rfl 0).trans rfl
      have r1 : w3.cell? ⟨w2.heap.size, 1, none⟩ = some (.int .i64 (stM b)) := (kept2_new hap rfl 1).trans rfl
      have r2 : w3.cell? ⟨w2.heap.size, 2, none⟩ = some (.int .i64 (stG b)) := (kept2_new hap rfl 2).trans rfl
      clear p0))
  go_wp2
  refine bodyPost_ret (v := .tuple #[.agg #[.int .i64 (stN b), .int .i64 (stM b), .int .i64 (stG b)], v3]) (by simp [results, Try.results60, go_sem, q0, q1, q2]) rfl ⟨v3, rfl, ?_, ?_⟩
  · have h3 : Runes w3 (w2.heap.size + 1) v3 (65533 :: stR b) := by
      have := hap.own
      unfold Runes
      rw [show (65533 :: stR b).length = 1 + (stR b).length by simp; omega]
      exact this
    exact own_base (runes_set3 h3 (by omega) _ _ _) (by omega)
  · refine below_set3 (hbw.trans ?_) (by omega) _ _ _
    refine Below.trans ((((Below.refl _ w2).alloc (by omega) _).alloc (by simp; omega) _).drew) ((hap.below hrow (by simp)).mono (by omega))


set_option maxHeartbeats 800000 in
theorem utf_high (n m g b : Int) (w : World) (hn : 0 < n) (h0 : 0 ≤ b) (h1 : b ≤ 255) (hx : 191 < b) (hl : (stR b).length ≤ 1) :
    Calls Try.prog 60 #[.agg #[.int .i64 n, .int .i64 m, .int .i64 g], .int .u8 b] w (StepPost w (stN b) (stM b) (stG b) (65533 :: stR b)) := by
  have hd : decide (0 < n) = true := by simp; omega
  go_enter Try.func60, Try.ntmps60
  go_wp2_with (first
    | (go_at_call 113; refine (first_any b _ h0 h1).mono ?_; rintro e w2 ⟨v, rfl, hr, hb2⟩; obtain ⟨hc2, hf2⟩ := bcell hb2))
  have hz2 : w.heap.size + 2 ≤ w2.heap.size := by have := hb2.size; simp at this; omega
  have k0 : w2.cell? ⟨w.heap.size + 1, 0, none⟩ = some (.int .i64 0) := (hc2 _ _ (by simp)).trans (by simp [go_sem])
  have k1 : w2.cell? ⟨w.heap.size + 1, 1, none⟩ = some (.int .i64 0) := (hc2 _ _ (by simp)).trans (by simp [go_sem])
  have k2 : w2.cell? ⟨w.heap.size + 1, 2, none⟩ = some (.int .i64 0) := (hc2 _ _ (by simp)).trans (by simp [go_sem])
  have f0 : ∀ o, w2.frozen? ⟨w.heap.size + 1, o, none⟩ = false := fun o => (hf2 _ _ (by simp)).trans (by simp [go_sem])
  clear hc2 hf2
  have hbw : Below w.heap.size w w2 := (below_alloc2 _ _ _).trans (hb2.mono (by simp; omega))
  have hr' : Runes w2 (w.heap.size + 2) v (stR b) := own_base hr (by simp)
  clear hb2 hr
  have hlt : w.heap.size + 1 < w2.heap.size := by omega
  have hrow := World.ownsRow_lit (base := w2.heap.size + 1) (e := 21) (size := 1) (w2.alloc (.cells #[.int .i64 (stN b), .int .i64 (stM b), .int .i64 (stG b)] 30)) #[.int .i32 65533] 1 (by simp) (by simp [maxLen]) rfl
  rw [World.size_alloc] at hrow
  go_region_held3 (fun w' => w'.cell? ⟨w2.heap.size, 0, none⟩ = some (.int .i64 (stN b)) ∧ w'.cell? ⟨w2.heap.size, 1, none⟩ = some (.int .i64 (stM b)) ∧ w'.cell? ⟨w2.heap.size, 2, none⟩ = some (.int .i64 (stG b)))
    (first
      | go_keep
      | exact ⟨r0, r1, r2⟩
      | exact ⟨(cell_set3 (by omega)).trans r0, (cell_set3 (by omega)).trans r1, (cell_set3 (by omega)).trans r2⟩)
    ((refine step_append_rows _ (by rfl) _ _ _ (by rfl) rowRune (w2.heap.size + 1) (w.heap.size + 2) 1 (stR b).length (.slice (some ⟨w2.heap.size + 1, 0, none⟩) 1 1) v [.int .i32 65533] (i32s (stR b)) (by rfl) (by rfl)
        (by exact hrow) (by exact (World.ownsRow.alloc (World.ownsRow.alloc hr' _) _)) (i32s_one _) (by omega) (by simp) ?_; intro v3 w3 hap
      obtain ⟨p0, g0⟩ := kept2 hap rfl hlt
      have q0 := (p0 0).trans k0
      have q1 := (p0 1).trans k1
      have q2 := (p0 2).trans k2
      have g0 := fun o => (g0 o).trans (f0 o)
      have r0 : w3.cell? ⟨w2.heap.size, 0, none⟩ = some (.int .i64 (stN b)) := (kept2_new hap rfl 0).trans rfl
      have r1 : w3.cell? ⟨w2.heap.size, 1, none⟩ = some (.int .i64 (stM b)) := (kept2_new hap rfl 1).trans rfl
      have r2 : w3.cell? ⟨w2.heap.size, 2, none⟩ = some (.int .i64 (stG b)) := (kept2_new hap rfl 2).trans rfl
      clear p0))
  go_wp2
  refine bodyPost_ret (v := .tuple #[.agg #[.int .i64 (stN b), .int .i64 (stM b), .int .i64 (stG b)], v3]) (by simp [results, Try.results60, go_sem, q0, q1, q2]) rfl ⟨v3, rfl, ?_, ?_⟩
  · have h3 : Runes w3 (w2.heap.size + 1) v3 (65533 :: stR b) := by
      have := hap.own
      unfold Runes
      rw [show (65533 :: stR b).length = 1 + (stR b).length by simp; omega]
      exact this
    exact own_base (runes_set3 h3 (by omega) _ _ _) (by omega)
  · refine below_set3 (hbw.trans ?_) (by omega) _ _ _
    refine Below.trans ((((Below.refl _ w2).alloc (by omega) _).alloc (by simp; omega) _).drew) ((hap.below hrow (by simp)).mono (by omega))


set_option maxHeartbeats 400000 in
theorem utf_more (n m g b : Int) (w : World) (hn : 1 < n) (hn3 : n ≤ 3) (hg : 0 ≤ g) (hg2 : g ≤ 32767) (h0 : 128 ≤ b) (h1 : b ≤ 191) :
    Calls Try.prog 60 #[.agg #[.int .i64 n, .int .i64 m, .int .i64 g], .int .u8 b] w (StepPost w (n - 1) m (g * 64 + b % 64) []) := by
  rw [show g * 64 + b % 64 = 64 * g + b % 64 by omega]
  go_enter Try.func60, Try.ntmps60
  go_wp2
  exact bodyPost_ret (v := .tuple #[.agg #[.int .i64 (n - 1), .int .i64 m, .int .i64 (64 * g + b % 64)], .slice none 0 0]) (by simp [results, Try.results60, go_sem]) rfl ⟨_, rfl, runes_nil _ _, below_alloc2 _ _ _⟩
set_option maxHeartbeats 400000 in
theorem utf_last (n m g b : Int) (w : World) (hn : n ≤ 1) (hn0 : 0 < n) (hg : 0 ≤ g) (hg2 : g ≤ 32767) (h0 : 128 ≤ b) (h1 : b ≤ 191) :
    Calls Try.prog 60 #[.agg #[.int .i64 n, .int .i64 m, .int .i64 g], .int .u8 b] w (StepPost w 0 0 0 [endR (g * 64 + b % 64) m]) := by
  rw [show g * 64 + b % 64 = 64 * g + b % 64 by omega]
  go_enter Try.func60, Try.ntmps60
  go_wp2_with (go_at_call 114; refine (rune1_any _ _ _ (by omega)).mono ?_; rintro e w' ⟨rfl, rfl⟩)
  refine bodyPost_ret (v := .tuple #[.agg #[.int .i64 0, .int .i64 0, .int .i64 0], .slice (some ⟨w.heap.size + 1 + 1, 0, none⟩) 1 1]) (by simp [results, Try.results60, go_sem]) rfl ⟨_, rfl, ?_, below_alloc3 _ _ _ _⟩
  have := runes_one ((w.alloc (.cells #[.int .i64 (n - 1), .int .i64 m, .int .i64 (64 * g + b % 64)] 30)).alloc (.cells #[.int .i64 0, .int .i64 0, .int .i64 0] 30)) w.heap.size (endR (64 * g + b % 64) m) (by simp; omega)
  simpa using this

theorem utf_any (s : U) (b : Int) (w : World) (hs : s.Ok) (h0 : 0 ≤ b) (h1 : b ≤ 255) :
    Calls Try.prog 60 #[.agg #[.int .i64 s.n, .int .i64 s.m, .int .i64 s.g], .int .u8 b] w (StepPost w (nx s b).n (nx s b).m (nx s b).g (nxR s b)) := by
  obtain ⟨a1, a2, a3, a4, a5, a6⟩ := hs
  by_cases c : 0 < s.n
  · by_cases d : 128 ≤ b ∧ b ≤ 191
    · by_cases f : 1 < s.n
      · have e1 : nx s b = ⟨s.n - 1, s.m, s.g * 64 + b % 64⟩ := by unfold nx; rw [if_pos ⟨c, d⟩, if_pos f]
        have e2 : nxR s b = [] := by unfold nxR; rw [if_pos c, if_pos d, if_pos f]
        rw [e1, e2]
        exact utf_more s.n s.m s.g b w f a2 a3 a4 d.1 d.2
      · have e1 : nx s b = U.zero := by unfold nx; rw [if_pos ⟨c, d⟩, if_neg f]
        have e2 : nxR s b = [endR (s.g * 64 + b % 64) s.m] := by unfold nxR; rw [if_pos c, if_pos d, if_neg f]
        rw [e1, e2]
        exact utf_last s.n s.m s.g b w (by omega) c a3 a4 d.1 d.2
    · have e1 : nx s b = ⟨stN b, stM b, stG b⟩ := by unfold nx; rw [if_neg (fun h => d h.2)]
      have e2 : nxR s b = 65533 :: stR b := by unfold nxR; rw [if_pos c, if_neg d]
      rw [e1, e2]
      by_cases f : b < 128
      · exact utf_low s.n s.m s.g b w c h0 h1 f (stR_len b)
      · exact utf_high s.n s.m s.g b w c h0 h1 (by omega) (stR_len b)
  · have e1 : nx s b = ⟨stN b, stM b, stG b⟩ := by unfold nx; rw [if_neg (fun h => c h.1)]
    have e2 : nxR s b = stR b := by unfold nxR; rw [if_neg c]
    rw [e1, e2]
    exact utf_fresh s.n s.m s.g b w (by omega) h0 h1

end Go.Proofs.Ytpcpmeihebgncaa.Esca

/-
  What the document's own control, told, prints and escape answer. Conditions: a byte, at most a thousand parameters, at most two runes.
-/
namespace Go.Proofs.Ytpcpmeihebgncaa.Esca
open Go.RowKit
set_option maxRecDepth 100000
set_option linter.unusedSimpArgs false

set_option maxHeartbeats 400000 in
theorem rcontrol_any (b : Int) (w : World) (h0 : 0 ≤ b) (h1 : b ≤ 255) : Calls Try.prog 63 #[.int .u8 b] w (ActPost w.heap.size w (ctl b)) := by
  by_cases c : b < 7 ∨ 13 < b
  · rw [show ctl b = [] by simp [ctl, c]]
    rcases c with c | c
    · have c1 : ¬ 7 ≤ b := by omega
      go_enter Try.func63, Try.ntmps63
      go_wp2
      all_goals (go_ret; exact ⟨_, rfl, acts_nil _ _, Below.refl _ _⟩)
    · have c1 : 7 ≤ b := by omega
      have c2 : ¬ b ≤ 13 := by omega
      go_enter Try.func63, Try.ntmps63
      go_wp2
      all_goals (go_ret; exact ⟨_, rfl, acts_nil _ _, Below.refl _ _⟩)
  · rw [show ctl b = [⟨2, b, []⟩] by simp [ctl, c]]
    have c1 : 7 ≤ b := by omega
    have c2 : b ≤ 13 := by omega
    go_enter Try.func63, Try.ntmps63
    go_wp2
    go_ret
    exact ⟨_, rfl, acts_one _ _ _ _ (Nat.le_refl _), (Below.refl _ _).alloc (Nat.le_refl _) _⟩

/-- Numbers come back, in memory at or above block B; all that there was stays. -/
def RIntPost (B : Nat) (w : World) (l : List Int) (e : Ending) (w' : World) : Prop := ∃ F q, e = .returned (.slice F l.length q) ∧ Ints w' B (.slice F l.length q) l ∧ Below w.heap.size w w'
set_option maxHeartbeats 1000000 in
theorem rtold_any (F : Option Addr) (q : Nat) (l : List Int) (n : Int) (B : Nat) (w : World) (hp : Ints w B (.slice F l.length q) l) (hB : B ≤ w.heap.size) (hl : l.length ≤ 1000) :
    Calls Try.prog 64 #[.slice F l.length q, .int .i64 n] w (RIntPost B w (wPar l n)) := by
  by_cases c : 16 ≤ l.length
  · have ci : (16 : Int) ≤ (l.length : Int) := by omega
    rw [show wPar l n = l by unfold wPar; rw [if_pos c]]
    go_enter Try.func64, Try.ntmps64
    go_wp2
    go_ret
    exact ⟨_, _, rfl, hp, Below.refl _ _⟩
  · have ci : ¬ (16 : Int) ≤ (l.length : Int) := by omega
    rw [show wPar l n = l ++ [n] by unfold wPar; rw [if_neg c]]
    have h0 : Ints (w.alloc (.cells #[] 3)) w.heap.size (.slice (some ⟨w.heap.size, 0, none⟩) 0 0) [] := World.ownsRow_lit w #[] 0 (Nat.le_refl _) (by simp [maxLen]) rfl
    have e0 : ([] : List Int).length = 0 := rfl
    go_enter Try.func64, Try.ntmps64
    go_upto_region 3 with fail
    go_wp2_with (first
      | (refine wpList_append_rows _ (by rfl) _ _ _ (by rfl) rowInt w.heap.size w1.heap.size l.length 1 (.slice D1 l.length c1) (.slice (some ⟨w1.heap.size, 0, none⟩) 1 1) (i64s l) [.int .i64 n] (by rfl) (by rfl) (by exact World.ownsRow.alloc hv1 _) (by exact World.ownsRow_lit w1 #[.int .i64 n] 1 (Nat.le_refl _) (by simp [maxLen]) rfl) (by intro y hy; simp only [List.mem_singleton] at hy; subst hy; rfl) (by omega) (by have := hap0.size; simp at this ⊢; omega) ?_
         intro v2 w2 hap2)
      | (refine wpList_append_rows _ (by rfl) _ _ _ (by rfl) rowInt w.heap.size B 0 l.length (.slice (some ⟨w.heap.size, 0, none⟩) 0 0) (.slice F l.length q) [] (i64s l) (by rfl) (by rfl) (by exact h0) (by exact hp.alloc _) (i64s_one _) (by omega) (by simp) ?_
         intro v1 w1 hap
         have hap0 : Below w.heap.size (w.alloc (.cells #[] 3)) w1 := hap.below h0 (by simp)
         have hv1 : Ints w1 w.heap.size v1 l := by unfold Ints; simpa using hap.own
         obtain ⟨D1, c1, rfl⟩ := ints_form hv1))
    have hz1 := hap0.size
    simp only [World.size_alloc] at hz1
    have hown2 : Ints w2 w.heap.size v2 (l ++ [n]) := by
      have := hap2.own
      unfold Ints
      rw [← i64s_app, List.length_append, List.length_singleton]
      exact this
    obtain ⟨D2, c2, rfl⟩ := ints_form hown2
    go_ret
    exact ⟨D2, c2, rfl, hown2.base hB, (((Below.refl _ w).alloc (Nat.le_refl _) _).trans hap0 |>.alloc (by omega) _).trans (hap2.below (World.ownsRow.alloc hv1 _) (by simp; omega))⟩

theorem prt_no (r : Int) (h : ¬ (32 ≤ r ∧ (r < 127 ∨ 159 < r))) : prt r = false := by unfold prt; simp; omega
theorem prt_yes (r : Int) (h : 32 ≤ r ∧ (r < 127 ∨ 159 < r)) : prt r = true := by unfold prt; simp; omega
set_option maxHeartbeats 2000000 in
theorem rprints_any (v : Value) (rs : List Int) (B : Nat) (w : World) (hv : Runes w B v rs) (hl : rs.length ≤ 2) :
    Calls Try.prog 61 #[v] w (ActPost w.heap.size w (prints rs)) := by
  rcases hv.2 with ⟨rfl, h0⟩ | ⟨gg, cap, cur, rfl, _⟩
  · have hr : rs = [] := List.eq_nil_of_length_eq_zero h0
    subst hr
    go_enter Try.func61, Try.ntmps61
    go_wp2_with fail
    refine wp_loop_rounds 1 ?_
    rw [rounds_succ]
    go_wp2
    go_ret
    exact ⟨_, rfl, acts_nil _ _, Below.refl _ _⟩
  · go_enter Try.func61, Try.ntmps61
    go_wp2_with fail
    go_loopw [3, 4] (PrintsRel w rs) (fun _ i _ => rs.length - (intOf i).toNat)
    case atStart => exact ⟨0, rfl, Nat.zero_le _, acts_nil _ _, Below.refl _ _⟩
    case round =>
      obtain ⟨k, rfl, hle, hac, hbr⟩ := hrel
      by_cases hlt : k < rs.length
      · have hki : (k : Int) < (rs.length : Int) := by omega
        have hcell : wr.cell? ⟨gg, k, none⟩ = some (.int .i32 rs[k]) := (World.ownsRow.cellAt (own_below hv hbr (Nat.le_refl _)) k (by omega)).trans (by simp [i32s, hlt])
        have hsn : Hid (prints (rs.take (k + 1)) = prints (rs.take k) ++ (if prt rs[k] then [⟨1, rs[k], []⟩] else [])) := by
          show prints (rs.take (k + 1)) = _
          rw [← prints_snoc]
          congr 1
          simp
        have hlen : (prints (rs.take k)).length ≤ 2 := Nat.le_trans (prints_len _) (Nat.le_trans (List.length_take_le' _ _) hl)
        obtain ⟨r, hr⟩ : ∃ r, r = rs[k] := ⟨_, rfl⟩
        rw [← hr] at hcell hsn
        clear hr
        obtain ⟨D, c, rfl⟩ := acts_form hac
        have hz := hbr.size
        by_cases p1 : 32 ≤ r
        · by_cases p2 : r < 127
          · have hp : prt r = true := prt_yes r (by omega)
            go_wp2_with (
              refine wpList_append_acts _ (by rfl) _ _ (by rfl) w.heap.size wr.heap.size _ (.slice (some ⟨wr.heap.size, 0, none⟩) 1 1) (prints (rs.take k)) [⟨1, r, []⟩] (by rfl) (by rfl) (by exact hac.alloc _) (by exact acts_one _ _ _ _ (Nat.le_refl _)) hz (fun j hj => (acts_lt hac j hj).2) (by simp; omega) (by simp; omega) ?_
              intro v1 w1 hap)
            go_roundw
            case rel =>
              refine ⟨k + 1, by go_num, by omega, ?_, ?_⟩
              · rw [hsn.out, if_pos hp]
                exact hap.acts
              · exact (hbr.alloc hz _).trans hap.below
            case measure => simp [intOf]; omega
          · by_cases p3 : 159 < r
            · have hp : prt r = true := prt_yes r (by omega)
              go_wp2_with (
                refine wpList_append_acts _ (by rfl) _ _ (by rfl) w.heap.size wr.heap.size _ (.slice (some ⟨wr.heap.size, 0, none⟩) 1 1) (prints (rs.take k)) [⟨1, r, []⟩] (by rfl) (by rfl) (by exact hac.alloc _) (by exact acts_one _ _ _ _ (Nat.le_refl _)) hz (fun j hj => (acts_lt hac j hj).2) (by simp; omega) (by simp; omega) ?_
                intro v1 w1 hap)
              go_roundw
              case rel =>
                refine ⟨k + 1, by go_num, by omega, ?_, ?_⟩
                · rw [hsn.out, if_pos hp]
                  exact hap.acts
                · exact (hbr.alloc hz _).trans hap.below
              case measure => simp [intOf]; omega
            · have hp : prt r = false := prt_no r (by omega)
              go_wp2_with fail
              go_roundw
              case rel =>
                refine ⟨k + 1, by go_num, by omega, ?_, hbr⟩
                rw [hsn.out, if_neg (by rw [hp]; decide), List.append_nil]
                exact hac
              case measure => simp [intOf]; omega
        · have hp : prt r = false := prt_no r (by omega)
          go_wp2_with fail
          go_roundw
          case rel =>
            refine ⟨k + 1, by go_num, by omega, ?_, hbr⟩
            rw [hsn.out, if_neg (by rw [hp]; decide), List.append_nil]
            exact hac
          case measure => simp [intOf]; omega
      · have ek : k = rs.length := by omega
        subst ek
        rw [List.take_length] at hac
        go_wp2
        go_ret
        exact ⟨_, rfl, hac, hbr⟩
end Go.Proofs.Ytpcpmeihebgncaa.Esca

/-
  What the document's own escape, csi, ground and Step answer. Conditions: a byte, a place that steps make.
-/
namespace Go.Proofs.Ytpcpmeihebgncaa
theorem EBox.lt {w : World} {g : Nat} {e : Esca.E} {P : Value} (h : EBox w g e P) : g < w.heap.size := Held.lt h
theorem EBox.alloc {w : World} {g : Nat} {e : Esca.E} {P : Value} (h : EBox w g e P) (o : Obj) : EBox (w.alloc o) g e P := Held.alloc h o
end Go.Proofs.Ytpcpmeihebgncaa
namespace Go.Proofs.Ytpcpmeihebgncaa.Esca
open Go.RowKit
set_option maxRecDepth 100000
set_option linter.unusedSimpArgs false
set_option linter.unusedVariables false

section
variable {ops : Array Oper} {rest : List Oper} {o : Oper} {a : Act} {w : World} {Q : Exit → Act → World → Prop} {K : Act → World → Prop} {x y : Operand} {g : Nat} {e e' : E} {P : Value} {F : Option Addr} {f q : Nat}
theorem wp_storeEo (h : EBox w g e P) (ho : o.op = .store 32 x y) (hx : a.eval x = .pointer (some ⟨g, 0, none⟩)) (hy : a.eval y = escV e' (.slice F f q))
    (k : K (a.put o.dst undef) (w.setRow g (escC e' (.slice F f q)))) : Oper.wp Try.prog o a w K Q :=
  wp_store_row 32 x y ho g _ hx hy 32 _ h ebox_size rfl (escC_one _ _ _ _) k
theorem wpList_storeEo (h : EBox w g e P) (ho : o.op = .store 32 x y) (hw : Region.wanted o (yielded ops a.tmps) = true) (hx : a.eval x = .pointer (some ⟨g, 0, none⟩)) (hy : a.eval y = escV e' (.slice F f q))
    (k : wpList Try.prog ops Q rest (a.put o.dst undef) (w.setRow g (escC e' (.slice F f q)))) : wpList Try.prog ops Q (o :: rest) a w :=
  wpList_step fun _ hK => by
    rw [if_pos hw]
    exact wp_storeEo h ho hx hy (hK _ _ k)
theorem yields_loadE {S : World → Prop} (hw : Region.wanted o (yielded ops a.tmps) = true) (ho : o.op = .load 32 x) (hx : a.eval x = .pointer (some ⟨g, 0, none⟩)) (hS : ∀ w, S w → EBox w g e P) : YieldsIf Try.prog ops S o (escV e P) a :=
  yieldsIf_load_mid hw 32 x ho g 0 hx (escC e P).toList _ (fun w h j v hv => by
    rw [Nat.zero_add, Held.cell (hS w h) j]
    simpa using hv) Try.underlying32 rfl ebox_size
end
/-- The box that is read, the answer's box. -/
structure ES (w : World) (e : E) (P : Value) (wx : World) : Prop where
  box : EBox wx w.heap.size e P
  ans : EBox wx (w.heap.size + 1) E.zero nilV
  below : Below w.heap.size w wx
theorem ES.start (w : World) (e : E) (P : Value) : ES w e P ((w.alloc (.cells (escC e P) 32)).alloc (.cells (escC E.zero nilV) 32)) :=
  ⟨Held.alloc (Held.new _ _ _) _, Held.new2 _ _ _ _, below_alloc2 _ _ _⟩
theorem ES.next {w : World} {e : E} {P : Value} {wx wy : World} (h : ES w e P wx) (hb : Below wx.heap.size wx wy) : ES w e P wy := ⟨Held.below h.box hb h.box.lt, Held.below h.ans hb h.ans.lt, h.below.trans (hb.mono h.below.size)⟩
theorem ES.drew {w : World} {e : E} {P : Value} {wx : World} (h : ES w e P wx) : ES w e P wx.drew := ⟨h.box, h.ans, below_drewN h.below 1⟩
theorem EBox.setRow {w : World} {g : Nat} {e e' : E} {P P' : Value} (h : EBox w g e P) : EBox (w.setRow g (escC e' P')) g e' P' := setRow_heap w g _ _ 32 (0, 0) h
/-- A place and its actions come back; what was there stays. -/
def RStepP (B : Nat) (w : World) (e' : E) (l : List A) (x : Ending) (w' : World) : Prop := ∃ F f q v, x = .returned (.tuple #[escV e' (.slice F f q), v]) ∧ Ints w' B (.slice F f q) e'.par ∧ Acts w' B v l ∧ Below w.heap.size w w'
theorem rkeep {w w2 : World} {B : Nat} {e : E} {F : Option Addr} {f q : Nat} {l : List A} {v : Value} {cs : Array Value} (hp : Ints w B (.slice F f q) e.par) (hB : B ≤ w.heap.size) (ha : Acts w2 (w.heap.size + 2) v l) (hb : Below w.heap.size w w2) : RStepP B w e l (.returned (.tuple #[escV e (.slice F f q), v])) (w2.setRow (w.heap.size + 1) cs) := by
  have hb2 : Below w.heap.size w (w2.setRow (w.heap.size + 1) cs) := below_setRow hb (Nat.le_succ _) _
  exact ⟨_, _, _, _, rfl, hp.below hb2 (Nat.le_refl _), (acts_put ha (Nat.lt_succ_self _) _).base (by omega), hb2⟩
theorem rnew {w w2 : World} {B : Nat} {e : E} {l : List A} {v : Value} {cs : Array Value} (he : e.par = []) (hB : B ≤ w.heap.size) (ha : Acts w2 (w.heap.size + 2) v l) (hb : Below w.heap.size w w2) : RStepP B w e l (.returned (.tuple #[escV e (.slice none 0 0), v])) (w2.setRow (w.heap.size + 1) cs) := by
  have hb2 : Below w.heap.size w (w2.setRow (w.heap.size + 1) cs) := below_setRow hb (Nat.le_succ _) _
  exact ⟨_, _, _, _, rfl, by rw [he]; exact ints_nil _ _, (acts_put ha (Nat.lt_succ_self _) _).base (by omega), hb2⟩
/-- A place's variable is no row of numbers, nor of actions. -/
theorem ints_box {w : World} {B : Nat} {v : Value} {l : List Int} {k : Nat} {e : E} {P : Value} (h : Ints w B v l) (hb : EBox w k e P) (cs : Array Value) : Ints (w.setRow k cs) B v l := by
  refine Ints.moved (row := some k) h (fun j _ hj => setRow_other _ _ _ _ (fun e => hj (by rw [e]))) fun j hj => fun ej => ?_
  cases ej
  rcases h.2 with ⟨hn, _⟩ | ⟨g, cap, cur, hv, _, hgg, _⟩
  · rw [hn] at hj; cases hj
  · rw [hv] at hj
    cases hj
    unfold EBox Go.Proofs.Ytpcpmeihebgncaa.Held at hb
    rw [hb] at hgg
    simp at hgg
theorem acts_box {w : World} {B : Nat} {v : Value} {l : List A} {k : Nat} {e : E} {P : Value} (h : Acts w B v l) (hb : EBox w k e P) (cs : Array Value) : Acts (w.setRow k cs) B v l := by
  obtain ⟨ps, e0, ho⟩ := h
  refine ⟨ps, e0, ⟨ho.row.1, ?_⟩, fun x hx => ⟨ints_box (ho.pars x hx).1 hb cs, (ho.pars x hx).2⟩⟩
  rcases ho.row.2 with hn | ⟨g, cap, cur, hv, hB, hgg, rest⟩
  · exact .inl hn
  · refine .inr ⟨g, cap, cur, hv, hB, ?_, rest⟩
    rw [setRow_other _ _ _ _ (by
      intro ej
      subst ej
      unfold EBox Go.Proofs.Ytpcpmeihebgncaa.Held at hb
      rw [hb] at hgg
      simp at hgg)]
    exact hgg
theorem rnewB {w w2 : World} {B : Nat} {e e0 : E} {P0 : Value} {l : List A} {v : Value} {cs : Array Value} (he : e.par = []) (ha : Acts w2 B v l) (hx : EBox w2 (w.heap.size + 1) e0 P0) (hb : Below w.heap.size w w2) : RStepP B w e l (.returned (.tuple #[escV e (.slice none 0 0), v])) (w2.setRow (w.heap.size + 1) cs) :=
  ⟨_, _, _, _, rfl, by rw [he]; exact ints_nil _ _, acts_box ha hx _, below_setRow hb (Nat.le_succ _) _⟩
theorem rkeepB {w w2 : World} {B : Nat} {e e0 : E} {P0 : Value} {F : Option Addr} {f q : Nat} {cs : Array Value} (hp : Ints w2 B (.slice F f q) e.par) (hx : EBox w2 (w.heap.size + 1) e0 P0) (hb : Below w.heap.size w w2) : RStepP B w e [] (.returned (.tuple #[escV e (.slice F f q), .slice none 0 0])) (w2.setRow (w.heap.size + 1) cs) :=
  ⟨_, _, _, _, rfl, ints_box hp hx _, acts_nil _ _, below_setRow hb (Nat.le_succ _) _⟩
def emode (m : Int) : E := ⟨m, U.zero, [], 0, false, false⟩
set_option maxHeartbeats 1000000 in
theorem resc_91 (e : E) (F : Option Addr) (f q : Nat) (B : Nat) (w : World) (hp : Ints w B (.slice F f q) e.par) (hB : B ≤ w.heap.size)   : Calls Try.prog 34 #[escV e (.slice F f q), .int .u8 91] w (RStepP B w ⟨2, U.zero, [], -1, false, false⟩ []) := by
  have HS := Lib.hid (ES.start w e (.slice F f q))
  unfold escV
  go_enter Try.func34, Try.ntmps34
  go_upto_region 1 with fail
  refine wp_world (fun wq => ES w e (.slice F f q) wq) HS.out ?_
  clear HS
  intro w2 es
  have x2 := es.box
  have xa := es.ans
  go_wp2_with (first
    | (with_reducible refine wpList_loadE' x2 (x := .tmp 2) ?_ ?_ ?_ ?_
       · with_reducible rfl
       · rfl
       · rfl)
    | (with_reducible refine wpList_storeEo xa (x := .tmp 4) (y := .tmp 9) (e' := ⟨2, U.zero, [], -1, false, false⟩) (F := none) (f := 0) (q := 0) ?_ ?_ ?_ ?_ ?_
       · with_reducible rfl
       · rfl
       · rfl
       · rfl))
  obtain ⟨y0, y1, y2, y3, y4, y5, y6, y7, yf⟩ := esc_cells (EBox.setRow (e' := ⟨2, U.zero, [], -1, false, false⟩) (P' := .slice none 0 0) xa)
  refine bodyPost_ret (v := .tuple #[escV ⟨2, U.zero, [], -1, false, false⟩ (.slice none 0 0), .slice none 0 0]) (by simp [results, Try.results34, go_sem, escV, y0, y1, y2, y3, y4, y5, y6, y7]) rfl ?_
  exact rnew rfl hB (acts_nil _ _) es.below
set_option maxHeartbeats 1000000 in
theorem resc_93 (e : E) (F : Option Addr) (f q : Nat) (B : Nat) (w : World) (hp : Ints w B (.slice F f q) e.par) (hB : B ≤ w.heap.size)   : Calls Try.prog 34 #[escV e (.slice F f q), .int .u8 93] w (RStepP B w (emode 3) []) := by
  have HS := Lib.hid (ES.start w e (.slice F f q))
  unfold escV
  go_enter Try.func34, Try.ntmps34
  go_upto_region 1 with fail
  refine wp_world (fun wq => ES w e (.slice F f q) wq) HS.out ?_
  clear HS
  intro w2 es
  have x2 := es.box
  have xa := es.ans
  go_wp2_with (first
    | (with_reducible refine wpList_loadE' x2 (x := .tmp 2) ?_ ?_ ?_ ?_
       · with_reducible rfl
       · rfl
       · rfl)
    | (with_reducible refine wpList_storeEo xa (x := .tmp 4) (y := .tmp 29) (e' := (emode 3)) (F := none) (f := 0) (q := 0) ?_ ?_ ?_ ?_ ?_
       · with_reducible rfl
       · rfl
       · rfl
       · rfl))
  obtain ⟨y0, y1, y2, y3, y4, y5, y6, y7, yf⟩ := esc_cells (EBox.setRow (e' := (emode 3)) (P' := .slice none 0 0) xa)
  refine bodyPost_ret (v := .tuple #[escV (emode 3) (.slice none 0 0), .slice none 0 0]) (by simp [results, Try.results34, go_sem, escV, y0, y1, y2, y3, y4, y5, y6, y7]) rfl ?_
  exact rnew rfl hB (acts_nil _ _) es.below
set_option maxHeartbeats 1000000 in
theorem resc_80 (e : E) (F : Option Addr) (f q : Nat) (B : Nat) (w : World) (hp : Ints w B (.slice F f q) e.par) (hB : B ≤ w.heap.size)   : Calls Try.prog 34 #[escV e (.slice F f q), .int .u8 80] w (RStepP B w (emode 3) []) := by
  have HS := Lib.hid (ES.start w e (.slice F f q))
  unfold escV
  go_enter Try.func34, Try.ntmps34
  go_upto_region 1 with fail
  refine wp_world (fun wq => ES w e (.slice F f q) wq) HS.out ?_
  clear HS
  intro w2 es
  have x2 := es.box
  have xa := es.ans
  go_wp2_with (first
    | (with_reducible refine wpList_loadE' x2 (x := .tmp 2) ?_ ?_ ?_ ?_
       · with_reducible rfl
       · rfl
       · rfl)
    | (with_reducible refine wpList_storeEo xa (x := .tmp 4) (y := .tmp 29) (e' := (emode 3)) (F := none) (f := 0) (q := 0) ?_ ?_ ?_ ?_ ?_
       · with_reducible rfl
       · rfl
       · rfl
       · rfl))
  obtain ⟨y0, y1, y2, y3, y4, y5, y6, y7, yf⟩ := esc_cells (EBox.setRow (e' := (emode 3)) (P' := .slice none 0 0) xa)
  refine bodyPost_ret (v := .tuple #[escV (emode 3) (.slice none 0 0), .slice none 0 0]) (by simp [results, Try.results34, go_sem, escV, y0, y1, y2, y3, y4, y5, y6, y7]) rfl ?_
  exact rnew rfl hB (acts_nil _ _) es.below
set_option maxHeartbeats 1000000 in
theorem resc_88 (e : E) (F : Option Addr) (f q : Nat) (B : Nat) (w : World) (hp : Ints w B (.slice F f q) e.par) (hB : B ≤ w.heap.size)   : Calls Try.prog 34 #[escV e (.slice F f q), .int .u8 88] w (RStepP B w (emode 3) []) := by
  have HS := Lib.hid (ES.start w e (.slice F f q))
  unfold escV
  go_enter Try.func34, Try.ntmps34
  go_upto_region 1 with fail
  refine wp_world (fun wq => ES w e (.slice F f q) wq) HS.out ?_
  clear HS
  intro w2 es
  have x2 := es.box
  have xa := es.ans
  go_wp2_with (first
    | (with_reducible refine wpList_loadE' x2 (x := .tmp 2) ?_ ?_ ?_ ?_
       · with_reducible rfl
       · rfl
       · rfl)
    | (with_reducible refine wpList_storeEo xa (x := .tmp 4) (y := .tmp 29) (e' := (emode 3)) (F := none) (f := 0) (q := 0) ?_ ?_ ?_ ?_ ?_
       · with_reducible rfl
       · rfl
       · rfl
       · rfl))
  obtain ⟨y0, y1, y2, y3, y4, y5, y6, y7, yf⟩ := esc_cells (EBox.setRow (e' := (emode 3)) (P' := .slice none 0 0) xa)
  refine bodyPost_ret (v := .tuple #[escV (emode 3) (.slice none 0 0), .slice none 0 0]) (by simp [results, Try.results34, go_sem, escV, y0, y1, y2, y3, y4, y5, y6, y7]) rfl ?_
  exact rnew rfl hB (acts_nil _ _) es.below
set_option maxHeartbeats 1000000 in
theorem resc_94 (e : E) (F : Option Addr) (f q : Nat) (B : Nat) (w : World) (hp : Ints w B (.slice F f q) e.par) (hB : B ≤ w.heap.size)   : Calls Try.prog 34 #[escV e (.slice F f q), .int .u8 94] w (RStepP B w (emode 3) []) := by
  have HS := Lib.hid (ES.start w e (.slice F f q))
  unfold escV
  go_enter Try.func34, Try.ntmps34
  go_upto_region 1 with fail
  refine wp_world (fun wq => ES w e (.slice F f q) wq) HS.out ?_
  clear HS
  intro w2 es
  have x2 := es.box
  have xa := es.ans
  go_wp2_with (first
    | (with_reducible refine wpList_loadE' x2 (x := .tmp 2) ?_ ?_ ?_ ?_
       · with_reducible rfl
       · rfl
       · rfl)
    | (with_reducible refine wpList_storeEo xa (x := .tmp 4) (y := .tmp 29) (e' := (emode 3)) (F := none) (f := 0) (q := 0) ?_ ?_ ?_ ?_ ?_
       · with_reducible rfl
       · rfl
       · rfl
       · rfl))
  obtain ⟨y0, y1, y2, y3, y4, y5, y6, y7, yf⟩ := esc_cells (EBox.setRow (e' := (emode 3)) (P' := .slice none 0 0) xa)
  refine bodyPost_ret (v := .tuple #[escV (emode 3) (.slice none 0 0), .slice none 0 0]) (by simp [results, Try.results34, go_sem, escV, y0, y1, y2, y3, y4, y5, y6, y7]) rfl ?_
  exact rnew rfl hB (acts_nil _ _) es.below
set_option maxHeartbeats 1000000 in
theorem resc_95 (e : E) (F : Option Addr) (f q : Nat) (B : Nat) (w : World) (hp : Ints w B (.slice F f q) e.par) (hB : B ≤ w.heap.size)   : Calls Try.prog 34 #[escV e (.slice F f q), .int .u8 95] w (RStepP B w (emode 3) []) := by
  have HS := Lib.hid (ES.start w e (.slice F f q))
  unfold escV
  go_enter Try.func34, Try.ntmps34
  go_upto_region 1 with fail
  refine wp_world (fun wq => ES w e (.slice F f q) wq) HS.out ?_
  clear HS
  intro w2 es
  have x2 := es.box
  have xa := es.ans
  go_wp2_with (first
    | (with_reducible refine wpList_loadE' x2 (x := .tmp 2) ?_ ?_ ?_ ?_
       · with_reducible rfl
       · rfl
       · rfl)
    | (with_reducible refine wpList_storeEo xa (x := .tmp 4) (y := .tmp 29) (e' := (emode 3)) (F := none) (f := 0) (q := 0) ?_ ?_ ?_ ?_ ?_
       · with_reducible rfl
       · rfl
       · rfl
       · rfl))
  obtain ⟨y0, y1, y2, y3, y4, y5, y6, y7, yf⟩ := esc_cells (EBox.setRow (e' := (emode 3)) (P' := .slice none 0 0) xa)
  refine bodyPost_ret (v := .tuple #[escV (emode 3) (.slice none 0 0), .slice none 0 0]) (by simp [results, Try.results34, go_sem, escV, y0, y1, y2, y3, y4, y5, y6, y7]) rfl ?_
  exact rnew rfl hB (acts_nil _ _) es.below
set_option maxHeartbeats 1000000 in
theorem resc_27 (e : E) (F : Option Addr) (f q : Nat) (B : Nat) (w : World) (hp : Ints w B (.slice F f q) e.par) (hB : B ≤ w.heap.size)   : Calls Try.prog 34 #[escV e (.slice F f q), .int .u8 27] w (RStepP B w e []) := by
  have HS := Lib.hid (ES.start w e (.slice F f q))
  unfold escV
  go_enter Try.func34, Try.ntmps34
  go_upto_region 1 with fail
  refine wp_world (fun wq => ES w e (.slice F f q) wq) HS.out ?_
  clear HS
  intro w2 es
  have x2 := es.box
  have xa := es.ans
  go_wp2_with (first
    | (with_reducible refine wpList_loadE' x2 (x := .tmp 2) ?_ ?_ ?_ ?_
       · with_reducible rfl
       · rfl
       · rfl)
    | (with_reducible refine wpList_storeEo xa (x := .tmp 4) (y := .tmp 33) (e' := e) (F := F) (f := f) (q := q) ?_ ?_ ?_ ?_ ?_
       · with_reducible rfl
       · rfl
       · rfl
       · rfl))
  obtain ⟨y0, y1, y2, y3, y4, y5, y6, y7, yf⟩ := esc_cells (EBox.setRow (e' := e) (P' := .slice F f q) xa)
  refine bodyPost_ret (v := .tuple #[escV e (.slice F f q), .slice none 0 0]) (by simp [results, Try.results34, go_sem, escV, y0, y1, y2, y3, y4, y5, y6, y7]) rfl ?_
  exact rkeep hp hB (acts_nil _ _) es.below
set_option maxHeartbeats 1000000 in
theorem resc_24 (e : E) (F : Option Addr) (f q : Nat) (B : Nat) (w : World) (hp : Ints w B (.slice F f q) e.par) (hB : B ≤ w.heap.size)   : Calls Try.prog 34 #[escV e (.slice F f q), .int .u8 24] w (RStepP B w (emode 0) []) := by
  have HS := Lib.hid (ES.start w e (.slice F f q))
  unfold escV
  go_enter Try.func34, Try.ntmps34
  go_upto_region 1 with fail
  refine wp_world (fun wq => ES w e (.slice F f q) wq) HS.out ?_
  clear HS
  intro w2 es
  have x2 := es.box
  have xa := es.ans
  go_wp2_with (first
    | (with_reducible refine wpList_loadE' x2 (x := .tmp 2) ?_ ?_ ?_ ?_
       · with_reducible rfl
       · rfl
       · rfl)
    | (with_reducible refine wpList_storeEo xa (x := .tmp 4) (y := .tmp 41) (e' := (emode 0)) (F := none) (f := 0) (q := 0) ?_ ?_ ?_ ?_ ?_
       · with_reducible rfl
       · rfl
       · rfl
       · rfl))
  obtain ⟨y0, y1, y2, y3, y4, y5, y6, y7, yf⟩ := esc_cells (EBox.setRow (e' := (emode 0)) (P' := .slice none 0 0) xa)
  refine bodyPost_ret (v := .tuple #[escV (emode 0) (.slice none 0 0), .slice none 0 0]) (by simp [results, Try.results34, go_sem, escV, y0, y1, y2, y3, y4, y5, y6, y7]) rfl ?_
  exact rnew rfl hB (acts_nil _ _) es.below
set_option maxHeartbeats 1000000 in
theorem resc_26 (e : E) (F : Option Addr) (f q : Nat) (B : Nat) (w : World) (hp : Ints w B (.slice F f q) e.par) (hB : B ≤ w.heap.size)   : Calls Try.prog 34 #[escV e (.slice F f q), .int .u8 26] w (RStepP B w (emode 0) []) := by
  have HS := Lib.hid (ES.start w e (.slice F f q))
  unfold escV
  go_enter Try.func34, Try.ntmps34
  go_upto_region 1 with fail
  refine wp_world (fun wq => ES w e (.slice F f q) wq) HS.out ?_
  clear HS
  intro w2 es
  have x2 := es.box
  have xa := es.ans
  go_wp2_with (first
    | (with_reducible refine wpList_loadE' x2 (x := .tmp 2) ?_ ?_ ?_ ?_
       · with_reducible rfl
       · rfl
       · rfl)
    | (with_reducible refine wpList_storeEo xa (x := .tmp 4) (y := .tmp 41) (e' := (emode 0)) (F := none) (f := 0) (q := 0) ?_ ?_ ?_ ?_ ?_
       · with_reducible rfl
       · rfl
       · rfl
       · rfl))
  obtain ⟨y0, y1, y2, y3, y4, y5, y6, y7, yf⟩ := esc_cells (EBox.setRow (e' := (emode 0)) (P' := .slice none 0 0) xa)
  refine bodyPost_ret (v := .tuple #[escV (emode 0) (.slice none 0 0), .slice none 0 0]) (by simp [results, Try.results34, go_sem, escV, y0, y1, y2, y3, y4, y5, y6, y7]) rfl ?_
  exact rnew rfl hB (acts_nil _ _) es.below
set_option maxHeartbeats 1000000 in
theorem resc_mid (e : E) (F : Option Addr) (f q : Nat) (B : Nat) (w : World) (hp : Ints w B (.slice F f q) e.par) (hB : B ≤ w.heap.size) (b : Int) (h0 : 32 ≤ b) (h1 : b ≤ 47) : Calls Try.prog 34 #[escV e (.slice F f q), .int .u8 b] w (RStepP B w (emode 4) []) := by
  have f0 : ¬ b = 91 := by omega
  have g0 : (b == 91) = false := beq_eq_false_iff_ne.2 f0
  have f1 : ¬ b = 93 := by omega
  have g1 : (b == 93) = false := beq_eq_false_iff_ne.2 f1
  have f2 : ¬ b = 80 := by omega
  have g2 : (b == 80) = false := beq_eq_false_iff_ne.2 f2
  have f3 : ¬ b = 88 := by omega
  have g3 : (b == 88) = false := beq_eq_false_iff_ne.2 f3
  have f4 : ¬ b = 94 := by omega
  have g4 : (b == 94) = false := beq_eq_false_iff_ne.2 f4
  have f5 : ¬ b = 95 := by omega
  have g5 : (b == 95) = false := beq_eq_false_iff_ne.2 f5
  have f6 : ¬ b = 27 := by omega
  have g6 : (b == 27) = false := beq_eq_false_iff_ne.2 f6
  have f7 : ¬ b = 24 := by omega
  have g7 : (b == 24) = false := beq_eq_false_iff_ne.2 f7
  have f8 : ¬ b = 26 := by omega
  have g8 : (b == 26) = false := beq_eq_false_iff_ne.2 f8
  have f9 : ¬ 48 ≤ b := by omega
  have HS := Lib.hid (ES.start w e (.slice F f q))
  unfold escV
  go_enter Try.func34, Try.ntmps34
  go_upto_region 1 with fail
  refine wp_world (fun wq => ES w e (.slice F f q) wq) HS.out ?_
  clear HS
  intro w2 es
  have x2 := es.box
  have xa := es.ans
  go_wp2_with (first
    | (with_reducible refine wpList_loadE' x2 (x := .tmp 2) ?_ ?_ ?_ ?_
       · with_reducible rfl
       · rfl
       · rfl)
    | (with_reducible refine wpList_storeEo xa (x := .tmp 4) (y := .tmp 61) (e' := (emode 4)) (F := none) (f := 0) (q := 0) ?_ ?_ ?_ ?_ ?_
       · with_reducible rfl
       · rfl
       · rfl
       · rfl))
  obtain ⟨y0, y1, y2, y3, y4, y5, y6, y7, yf⟩ := esc_cells (EBox.setRow (e' := (emode 4)) (P' := .slice none 0 0) xa)
  refine bodyPost_ret (v := .tuple #[escV (emode 4) (.slice none 0 0), .slice none 0 0]) (by simp [results, Try.results34, go_sem, escV, y0, y1, y2, y3, y4, y5, y6, y7]) rfl ?_
  exact rnew rfl hB (acts_nil _ _) es.below
set_option maxHeartbeats 1000000 in
theorem resc_high (e : E) (F : Option Addr) (f q : Nat) (B : Nat) (w : World) (hp : Ints w B (.slice F f q) e.par) (hB : B ≤ w.heap.size) (b : Int) (h0 : 127 ≤ b) (h1 : b ≤ 255) : Calls Try.prog 34 #[escV e (.slice F f q), .int .u8 b] w (RStepP B w (emode 0) []) := by
  have f0 : ¬ b = 91 := by omega
  have g0 : (b == 91) = false := beq_eq_false_iff_ne.2 f0
  have f1 : ¬ b = 93 := by omega
  have g1 : (b == 93) = false := beq_eq_false_iff_ne.2 f1
  have f2 : ¬ b = 80 := by omega
  have g2 : (b == 80) = false := beq_eq_false_iff_ne.2 f2
  have f3 : ¬ b = 88 := by omega
  have g3 : (b == 88) = false := beq_eq_false_iff_ne.2 f3
  have f4 : ¬ b = 94 := by omega
  have g4 : (b == 94) = false := beq_eq_false_iff_ne.2 f4
  have f5 : ¬ b = 95 := by omega
  have g5 : (b == 95) = false := beq_eq_false_iff_ne.2 f5
  have f6 : ¬ b = 27 := by omega
  have g6 : (b == 27) = false := beq_eq_false_iff_ne.2 f6
  have f7 : ¬ b = 24 := by omega
  have g7 : (b == 24) = false := beq_eq_false_iff_ne.2 f7
  have f8 : ¬ b = 26 := by omega
  have g8 : (b == 26) = false := beq_eq_false_iff_ne.2 f8
  have f9 : 48 ≤ b := by omega
  have f10 : ¬ b ≤ 126 := by omega
  have f11 : 32 ≤ b := by omega
  have f12 : ¬ b ≤ 47 := by omega
  have f13 : ¬ b < 32 := by omega
  have HS := Lib.hid (ES.start w e (.slice F f q))
  unfold escV
  go_enter Try.func34, Try.ntmps34
  go_upto_region 1 with fail
  refine wp_world (fun wq => ES w e (.slice F f q) wq) HS.out ?_
  clear HS
  intro w2 es
  have x2 := es.box
  have xa := es.ans
  go_wp2_with (first
    | (with_reducible refine wpList_loadE' x2 (x := .tmp 2) ?_ ?_ ?_ ?_
       · with_reducible rfl
       · rfl
       · rfl)
    | (with_reducible refine wpList_storeEo xa (x := .tmp 4) (y := .tmp 68) (e' := (emode 0)) (F := none) (f := 0) (q := 0) ?_ ?_ ?_ ?_ ?_
       · with_reducible rfl
       · rfl
       · rfl
       · rfl))
  obtain ⟨y0, y1, y2, y3, y4, y5, y6, y7, yf⟩ := esc_cells (EBox.setRow (e' := (emode 0)) (P' := .slice none 0 0) xa)
  refine bodyPost_ret (v := .tuple #[escV (emode 0) (.slice none 0 0), .slice none 0 0]) (by simp [results, Try.results34, go_sem, escV, y0, y1, y2, y3, y4, y5, y6, y7]) rfl ?_
  exact rnew rfl hB (acts_nil _ _) es.below
set_option maxHeartbeats 2000000 in
theorem resc_low (e : E) (F : Option Addr) (f q : Nat) (B : Nat) (w : World) (hp : Ints w B (.slice F f q) e.par) (hB : B ≤ w.heap.size) (b : Int) (h0 : 0 ≤ b) (h1 : b < 32) (n1 : ¬ b = 27) (n2 : ¬ b = 24) (n3 : ¬ b = 26) : Calls Try.prog 34 #[escV e (.slice F f q), .int .u8 b] w (RStepP B w e (ctl b)) := by
  have f0 : ¬ b = 91 := by omega
  have g0 : (b == 91) = false := beq_eq_false_iff_ne.2 f0
  have f1 : ¬ b = 93 := by omega
  have g1 : (b == 93) = false := beq_eq_false_iff_ne.2 f1
  have f2 : ¬ b = 80 := by omega
  have g2 : (b == 80) = false := beq_eq_false_iff_ne.2 f2
  have f3 : ¬ b = 88 := by omega
  have g3 : (b == 88) = false := beq_eq_false_iff_ne.2 f3
  have f4 : ¬ b = 94 := by omega
  have g4 : (b == 94) = false := beq_eq_false_iff_ne.2 f4
  have f5 : ¬ b = 95 := by omega
  have g5 : (b == 95) = false := beq_eq_false_iff_ne.2 f5
  have f6 : ¬ b = 27 := by omega
  have g6 : (b == 27) = false := beq_eq_false_iff_ne.2 f6
  have f7 : ¬ b = 24 := by omega
  have g7 : (b == 24) = false := beq_eq_false_iff_ne.2 f7
  have f8 : ¬ b = 26 := by omega
  have g8 : (b == 26) = false := beq_eq_false_iff_ne.2 f8
  have f9 : ¬ 48 ≤ b := by omega
  have f10 : ¬ 32 ≤ b := by omega
  have HS := Lib.hid (ES.start w e (.slice F f q))
  unfold escV
  go_enter Try.func34, Try.ntmps34
  go_upto_region 1 with fail
  refine wp_world (fun wq => ES w e (.slice F f q) wq) HS.out ?_
  clear HS
  intro w2 es
  have x2 := es.box
  go_upto_region 14 with fail
  have HR := Lib.hid es.drew
  have hz1 := es.ans.lt
  clear x2 es
  refine wp_region_held_drew (S := fun w' => EBox w' w.heap.size e (.slice F f q)) (by kernel_rfl) (by exact HR.out.box) (fun hH0 => ?_)
  refine wpAnyH_take (i := 0) (oi := _) (v := escV e (.slice F f q)) rfl (by kernel_rfl) (by kernel_rfl) (by kernel_rfl) (fun _ _ _ h => h) (yields_loadE (by rfl) rfl (by rfl) (fun _ h => h)) hH0 ?_
  change wpAnyH _ _ _ _ _ _ _ (Act.put _ (some 65) (escV e (.slice F f q))) _
  simp only [Act.put, List.setIfInBounds_toArray, List.set_cons_zero, List.set_cons_succ]
  refine wpAnyH_take (i := 1) (oi := _) (v := .int .u8 b) rfl (by kernel_rfl) (by kernel_rfl) (by kernel_rfl) (fun _ _ _ h => h) (Or.inl ⟨by rfl, ?_⟩) hH0 ?_
  · intro wv hSw
    try dsimp only at hSw
    go_simp
  change wpAnyH _ _ _ _ _ _ _ (Act.put _ (some 66) (.int .u8 b)) _
  simp only [Act.put, List.setIfInBounds_toArray, List.set_cons_zero, List.set_cons_succ]
  refine wpAnyH_ready (rs := [2]) (by kernel_rfl) (by simp) ?_
  refine AllReadyH.cons (o := _) rfl (fun K hK => ?_) AllReadyH.nil
  go_simp
  refine (rcontrol_any b _ h0 (by omega)).mono ?_
  rintro x w3 ⟨v3, rfl, a3, b3⟩
  have r3 := HR.out.next b3
  refine hK.out _ _ (by exact r3.box) (fun hH1 => ?_)
  clear hK K
  try simp only [Act.put, List.setIfInBounds_toArray, List.set_cons_zero, List.set_cons_succ]
  refine wpAnyH_ready (rs := [3]) (by kernel_rfl) (by simp) ?_
  refine AllReadyH.cons (o := _) rfl (fun K hK => ?_) AllReadyH.nil
  rw [if_pos (by rfl)]
  refine wp_storeEo r3.ans (x := .tmp 4) (y := .tmp 65) (e' := e) (F := F) (f := f) (q := q) rfl rfl rfl ?_
  refine hK.out _ _ (by exact (setRow_other _ _ _ _ (by omega)).trans r3.box) (fun hH2 => ?_)
  clear hK K
  dsimp only [Act.put]
  refine wpAnyH_take (i := 4) (oi := _) (v := v3) rfl (by kernel_rfl) (by kernel_rfl) (by kernel_rfl) (fun _ _ _ h => h) (Or.inl ⟨by rfl, ?_⟩) hH2 ?_
  · intro wv hSw
    try dsimp only at hSw
    go_simp
  change wpAnyH _ _ _ _ _ _ _ (Act.put _ (some 5) (v3)) _
  simp only [Act.put, List.setIfInBounds_toArray, List.set_cons_zero, List.set_cons_succ]
  refine wpAnyH_done (by kernel_rfl) ?_ _
  clear hH0 hH1 hH2
  go_wp2_with fail
  obtain ⟨y0, y1, y2, y3, y4, y5, y6, y7, yf⟩ := esc_cells (EBox.setRow (e' := e) (P' := .slice F f q) r3.ans)
  refine bodyPost_ret (v := .tuple #[escV e (.slice F f q), v3]) (by simp [results, Try.results34, go_sem, escV, y0, y1, y2, y3, y4, y5, y6, y7]) rfl ?_
  exact rkeep hp hB (a3.base hz1) r3.below
set_option maxHeartbeats 2000000 in
theorem resc_act (e : E) (F : Option Addr) (f q : Nat) (B : Nat) (w : World) (hp : Ints w B (.slice F f q) e.par) (hB : B ≤ w.heap.size) (b : Int) (h0 : 48 ≤ b) (h1 : b ≤ 126) (n1 : ¬ b = 91) (n2 : ¬ b = 93) (n3 : ¬ b = 80) (n4 : ¬ b = 88) (n5 : ¬ b = 94) (n6 : ¬ b = 95) : Calls Try.prog 34 #[escV e (.slice F f q), .int .u8 b] w (RStepP B w (emode 0) [⟨3, b, []⟩]) := by
  have f0 : ¬ b = 27 := by omega
  have g0 : (b == 27) = false := beq_eq_false_iff_ne.2 f0
  have f1 : ¬ b = 24 := by omega
  have g1 : (b == 24) = false := beq_eq_false_iff_ne.2 f1
  have f2 : ¬ b = 26 := by omega
  have g2 : (b == 26) = false := beq_eq_false_iff_ne.2 f2
  have f3 : ¬ b = 91 := by omega
  have g3 : (b == 91) = false := beq_eq_false_iff_ne.2 f3
  have f4 : ¬ b = 93 := by omega
  have g4 : (b == 93) = false := beq_eq_false_iff_ne.2 f4
  have f5 : ¬ b = 80 := by omega
  have g5 : (b == 80) = false := beq_eq_false_iff_ne.2 f5
  have f6 : ¬ b = 88 := by omega
  have g6 : (b == 88) = false := beq_eq_false_iff_ne.2 f6
  have f7 : ¬ b = 94 := by omega
  have g7 : (b == 94) = false := beq_eq_false_iff_ne.2 f7
  have f8 : ¬ b = 95 := by omega
  have g8 : (b == 95) = false := beq_eq_false_iff_ne.2 f8
  have HS := Lib.hid (ES.start w e (.slice F f q))
  unfold escV
  go_enter Try.func34, Try.ntmps34
  go_upto_region 1 with fail
  refine wp_world (fun wq => ES w e (.slice F f q) wq) HS.out ?_
  clear HS
  intro w2 es
  have xa := es.ans
  have hz1 := xa.lt
  have s1 : IntKind.i32.wrap b = b := IntWalk.i32_in _ (by omega)
  go_wp2_with (
    (with_reducible refine wpList_storeEo (xa.alloc _) (x := .tmp 4) (y := .tmp 49) (e' := emode 0) (F := none) (f := 0) (q := 0) ?_ ?_ ?_ ?_ ?_
     · with_reducible rfl
     · rfl
     · rfl
     · rfl))
  have xa2 : EBox (w2.alloc (.cells #[.int .i64 3, .int .i32 b, .slice none 0 0] 44)) (w.heap.size + 1) E.zero nilV := xa.alloc _
  obtain ⟨y0, y1, y2, y3, y4, y5, y6, y7, yf⟩ := esc_cells (EBox.setRow (e' := (emode 0)) (P' := .slice none 0 0) xa2)
  refine bodyPost_ret (v := .tuple #[escV (emode 0) (.slice none 0 0), .slice (some ⟨w2.heap.size, 0, none⟩) 1 1]) (by simp [results, Try.results34, go_sem, escV, y0, y1, y2, y3, y4, y5, y6, y7]) rfl ?_
  exact rnew rfl hB (acts_one _ _ _ _ (by omega)) (es.below.alloc es.below.size _)

set_option maxHeartbeats 2000000 in
theorem rcsi_digit (e : E) (F : Option Addr) (f q : Nat) (B : Nat) (w : World) (hp : Ints w B (.slice F f q) e.par) (hB : B ≤ w.heap.size) (b : Int) (h0 : 48 ≤ b) (h1 : b ≤ 57) (hn : e.num ≤ 65535) : Calls Try.prog 35 #[escV e (.slice F f q), .int .u8 b] w (RStepP B w ⟨e.mode, e.u, e.par, wDigit e.num (b - 48), e.priv, e.skip⟩ []) := by
  have f0 : 48 ≤ b := by omega
  have f1 : b ≤ 57 := by omega
  have d1 : IntKind.u8.wrap (b - 48) = b - 48 := IntWalk.u8_in _ (by omega)
  have d2 : IntKind.i64.wrap (b - 48) = b - 48 := IntWalk.i64_in _ (by omega)
  obtain ⟨m1, em1⟩ : ∃ m1 : Int, m1 = (if e.num < 0 then 0 else e.num) := ⟨_, rfl⟩
  have hm1 : 0 ≤ m1 ∧ m1 ≤ 65535 := by rw [em1]; split <;> omega
  have d3 : IntKind.i64.wrap (10 * m1) = 10 * m1 := IntWalk.i64_in _ (by omega)
  have d4 : IntKind.i64.wrap (10 * m1 + (b - 48)) = 10 * m1 + (b - 48) := IntWalk.i64_in _ (by omega)
  obtain ⟨m2, em2⟩ : ∃ m2 : Int, m2 = (if 65535 < 10 * m1 + (b - 48) then 65535 else 10 * m1 + (b - 48)) := ⟨_, rfl⟩
  have ew : wDigit e.num (b - 48) = m2 := by
    rw [em2, em1]
    unfold wDigit
    split <;> split <;> omega
  rw [ew]
  clear ew
  have HEM := Lib.hid (And.intro em1.symm em2.symm)
  clear em1 em2
  have HS := Lib.hid (ES.start w e (.slice F f q))
  unfold escV
  go_enter Try.func35, Try.ntmps35
  go_upto_region 1 with fail
  refine wp_world (fun wq => ES w e (.slice F f q) wq) HS.out ?_
  clear HS
  intro w2 es
  obtain ⟨em1, em2⟩ := HEM.out
  obtain ⟨x0, x1, x2, x3, x4, x5, x6, x7, xf⟩ := esc_cells es.box
  go_upto_region 25 with fail
  have HX : EBox (w2.setCell ⟨w.heap.size, 5, none⟩ (.int .i64 m2)) w.heap.size ⟨e.mode, e.u, e.par, m2, e.priv, e.skip⟩ (.slice F f q) := (show Held _ _ 32 _ from es.box).s5 _
  have HA : EBox (w2.setCell ⟨w.heap.size, 5, none⟩ (.int .i64 m2)) (w.heap.size + 1) E.zero nilV := (show Held _ _ 32 _ from es.ans).far (by omega) _
  have HB : Below w.heap.size w (w2.setCell ⟨w.heap.size, 5, none⟩ (.int .i64 m2)) := below_set es.below (Nat.le_refl _) _
  refine wp_world (fun wq => ES w ⟨e.mode, e.u, e.par, m2, e.priv, e.skip⟩ (.slice F f q) wq) ⟨HX, HA, HB⟩ ?_
  clear HX HA HB x0 x1 x2 x3 x4 x5 x6 x7 xf es
  intro w3 es
  have x3 := es.box
  have xa := es.ans
  go_wp2_with (first
    | (with_reducible refine wpList_loadE' x3 (x := .tmp 2) ?_ ?_ ?_ ?_
       · with_reducible rfl
       · rfl
       · rfl)
    | (with_reducible refine wpList_storeEo xa (x := .tmp 4) (y := .tmp 115) (e' := ⟨e.mode, e.u, e.par, m2, e.priv, e.skip⟩) (F := F) (f := f) (q := q) ?_ ?_ ?_ ?_ ?_
       · with_reducible rfl
       · rfl
       · rfl
       · rfl))
  obtain ⟨y0, y1, y2, y3, y4, y5, y6, y7, yf⟩ := esc_cells (EBox.setRow (e' := ⟨e.mode, e.u, e.par, m2, e.priv, e.skip⟩) (P' := .slice F f q) xa)
  refine bodyPost_ret (v := .tuple #[escV ⟨e.mode, e.u, e.par, m2, e.priv, e.skip⟩ (.slice F f q), .slice none 0 0]) (by simp [results, Try.results35, go_sem, escV, y0, y1, y2, y3, y4, y5, y6, y7]) rfl ?_
  exact rkeep (e := ⟨e.mode, e.u, e.par, m2, e.priv, e.skip⟩) hp hB (acts_nil _ _) es.below
set_option maxHeartbeats 2000000 in
theorem rcsi_skip (e : E) (F : Option Addr) (f q : Nat) (B : Nat) (w : World) (hp : Ints w B (.slice F f q) e.par) (hB : B ≤ w.heap.size) (b : Int) (h0 : 32 ≤ b) (h1 : b ≤ 62) (h2 : b < 48 ∨ 57 < b) (h3 : ¬ b = 59) : Calls Try.prog 35 #[escV e (.slice F f q), .int .u8 b] w (RStepP B w ⟨e.mode, e.u, e.par, e.num, e.priv, true⟩ []) := by
  have f0 : ¬ b = 59 := by omega
  have g0 : (b == 59) = false := beq_eq_false_iff_ne.2 f0
  have f1 : ¬ b = 63 := by omega
  have g1 : (b == 63) = false := beq_eq_false_iff_ne.2 f1
  have f2 : 32 ≤ b := by omega
  have f3 : b ≤ 63 := by omega
  rcases h2 with h2 | h2
  · have k1 : ¬ 48 ≤ b := by omega
    have HS := Lib.hid (ES.start w e (.slice F f q))
    unfold escV
    go_enter Try.func35, Try.ntmps35
    go_upto_region 1 with fail
    refine wp_world (fun wq => ES w e (.slice F f q) wq) HS.out ?_
    clear HS
    intro w2 es
    skip
    obtain ⟨x0, x1, x2, x3, x4, x5, x6, x7, xf⟩ := esc_cells es.box
    go_upto_region 25 with fail
    have HX : EBox (w2.setCell ⟨w.heap.size, 7, none⟩ (.bool true)) w.heap.size ⟨e.mode, e.u, e.par, e.num, e.priv, true⟩ (.slice F f q) := (show Held _ _ 32 _ from es.box).s7 _
    have HA : EBox (w2.setCell ⟨w.heap.size, 7, none⟩ (.bool true)) (w.heap.size + 1) E.zero nilV := (show Held _ _ 32 _ from es.ans).far (by omega) _
    have HB : Below w.heap.size w (w2.setCell ⟨w.heap.size, 7, none⟩ (.bool true)) := below_set es.below (Nat.le_refl _) _
    refine wp_world (fun wq => ES w ⟨e.mode, e.u, e.par, e.num, e.priv, true⟩ (.slice F f q) wq) ⟨HX, HA, HB⟩ ?_
    clear HX HA HB x0 x1 x2 x3 x4 x5 x6 x7 xf es
    intro w3 es
    have x3 := es.box
    have xa := es.ans
    go_wp2_with (first
      | (with_reducible refine wpList_loadE' x3 (x := .tmp 2) ?_ ?_ ?_ ?_
         · with_reducible rfl
         · rfl
         · rfl)
      | (with_reducible refine wpList_storeEo xa (x := .tmp 4) (y := .tmp 115) (e' := ⟨e.mode, e.u, e.par, e.num, e.priv, true⟩) (F := F) (f := f) (q := q) ?_ ?_ ?_ ?_ ?_
         · with_reducible rfl
         · rfl
         · rfl
         · rfl))
    obtain ⟨y0, y1, y2, y3, y4, y5, y6, y7, yf⟩ := esc_cells (EBox.setRow (e' := ⟨e.mode, e.u, e.par, e.num, e.priv, true⟩) (P' := .slice F f q) xa)
    refine bodyPost_ret (v := .tuple #[escV ⟨e.mode, e.u, e.par, e.num, e.priv, true⟩ (.slice F f q), .slice none 0 0]) (by simp [results, Try.results35, go_sem, escV, y0, y1, y2, y3, y4, y5, y6, y7]) rfl ?_
    exact rkeep (e := ⟨e.mode, e.u, e.par, e.num, e.priv, true⟩) hp hB (acts_nil _ _) es.below
  · have k1 : 48 ≤ b := by omega
    have k2 : ¬ b ≤ 57 := by omega
    have HS := Lib.hid (ES.start w e (.slice F f q))
    unfold escV
    go_enter Try.func35, Try.ntmps35
    go_upto_region 1 with fail
    refine wp_world (fun wq => ES w e (.slice F f q) wq) HS.out ?_
    clear HS
    intro w2 es
    skip
    obtain ⟨x0, x1, x2, x3, x4, x5, x6, x7, xf⟩ := esc_cells es.box
    go_upto_region 25 with fail
    have HX : EBox (w2.setCell ⟨w.heap.size, 7, none⟩ (.bool true)) w.heap.size ⟨e.mode, e.u, e.par, e.num, e.priv, true⟩ (.slice F f q) := (show Held _ _ 32 _ from es.box).s7 _
    have HA : EBox (w2.setCell ⟨w.heap.size, 7, none⟩ (.bool true)) (w.heap.size + 1) E.zero nilV := (show Held _ _ 32 _ from es.ans).far (by omega) _
    have HB : Below w.heap.size w (w2.setCell ⟨w.heap.size, 7, none⟩ (.bool true)) := below_set es.below (Nat.le_refl _) _
    refine wp_world (fun wq => ES w ⟨e.mode, e.u, e.par, e.num, e.priv, true⟩ (.slice F f q) wq) ⟨HX, HA, HB⟩ ?_
    clear HX HA HB x0 x1 x2 x3 x4 x5 x6 x7 xf es
    intro w3 es
    have x3 := es.box
    have xa := es.ans
    go_wp2_with (first
      | (with_reducible refine wpList_loadE' x3 (x := .tmp 2) ?_ ?_ ?_ ?_
         · with_reducible rfl
         · rfl
         · rfl)
      | (with_reducible refine wpList_storeEo xa (x := .tmp 4) (y := .tmp 115) (e' := ⟨e.mode, e.u, e.par, e.num, e.priv, true⟩) (F := F) (f := f) (q := q) ?_ ?_ ?_ ?_ ?_
         · with_reducible rfl
         · rfl
         · rfl
         · rfl))
    obtain ⟨y0, y1, y2, y3, y4, y5, y6, y7, yf⟩ := esc_cells (EBox.setRow (e' := ⟨e.mode, e.u, e.par, e.num, e.priv, true⟩) (P' := .slice F f q) xa)
    refine bodyPost_ret (v := .tuple #[escV ⟨e.mode, e.u, e.par, e.num, e.priv, true⟩ (.slice F f q), .slice none 0 0]) (by simp [results, Try.results35, go_sem, escV, y0, y1, y2, y3, y4, y5, y6, y7]) rfl ?_
    exact rkeep (e := ⟨e.mode, e.u, e.par, e.num, e.priv, true⟩) hp hB (acts_nil _ _) es.below

set_option maxHeartbeats 1000000 in
theorem rcsi_27 (e : E) (F : Option Addr) (f q : Nat) (B : Nat) (w : World) (hp : Ints w B (.slice F f q) e.par) (hB : B ≤ w.heap.size)   : Calls Try.prog 35 #[escV e (.slice F f q), .int .u8 27] w (RStepP B w (emode 1) []) := by
  have HS := Lib.hid (ES.start w e (.slice F f q))
  unfold escV
  go_enter Try.func35, Try.ntmps35
  go_upto_region 1 with fail
  refine wp_world (fun wq => ES w e (.slice F f q) wq) HS.out ?_
  clear HS
  intro w2 es
  have x2 := es.box
  have xa := es.ans
  go_wp2_with (first
    | (with_reducible refine wpList_loadE' x2 (x := .tmp 2) ?_ ?_ ?_ ?_
       · with_reducible rfl
       · rfl
       · rfl)
    | (with_reducible refine wpList_storeEo xa (x := .tmp 4) (y := .tmp 100) (e' := (emode 1)) (F := none) (f := 0) (q := 0) ?_ ?_ ?_ ?_ ?_
       · with_reducible rfl
       · rfl
       · rfl
       · rfl))
  obtain ⟨y0, y1, y2, y3, y4, y5, y6, y7, yf⟩ := esc_cells (EBox.setRow (e' := (emode 1)) (P' := .slice none 0 0) xa)
  refine bodyPost_ret (v := .tuple #[escV (emode 1) (.slice none 0 0), .slice none 0 0]) (by simp [results, Try.results35, go_sem, escV, y0, y1, y2, y3, y4, y5, y6, y7]) rfl ?_
  exact rnew rfl hB (acts_nil _ _) es.below
set_option maxHeartbeats 1000000 in
theorem rcsi_24 (e : E) (F : Option Addr) (f q : Nat) (B : Nat) (w : World) (hp : Ints w B (.slice F f q) e.par) (hB : B ≤ w.heap.size)   : Calls Try.prog 35 #[escV e (.slice F f q), .int .u8 24] w (RStepP B w (emode 0) []) := by
  have HS := Lib.hid (ES.start w e (.slice F f q))
  unfold escV
  go_enter Try.func35, Try.ntmps35
  go_upto_region 1 with fail
  refine wp_world (fun wq => ES w e (.slice F f q) wq) HS.out ?_
  clear HS
  intro w2 es
  have x2 := es.box
  have xa := es.ans
  go_wp2_with (first
    | (with_reducible refine wpList_loadE' x2 (x := .tmp 2) ?_ ?_ ?_ ?_
       · with_reducible rfl
       · rfl
       · rfl)
    | (with_reducible refine wpList_storeEo xa (x := .tmp 4) (y := .tmp 108) (e' := (emode 0)) (F := none) (f := 0) (q := 0) ?_ ?_ ?_ ?_ ?_
       · with_reducible rfl
       · rfl
       · rfl
       · rfl))
  obtain ⟨y0, y1, y2, y3, y4, y5, y6, y7, yf⟩ := esc_cells (EBox.setRow (e' := (emode 0)) (P' := .slice none 0 0) xa)
  refine bodyPost_ret (v := .tuple #[escV (emode 0) (.slice none 0 0), .slice none 0 0]) (by simp [results, Try.results35, go_sem, escV, y0, y1, y2, y3, y4, y5, y6, y7]) rfl ?_
  exact rnew rfl hB (acts_nil _ _) es.below
set_option maxHeartbeats 1000000 in
theorem rcsi_26 (e : E) (F : Option Addr) (f q : Nat) (B : Nat) (w : World) (hp : Ints w B (.slice F f q) e.par) (hB : B ≤ w.heap.size)   : Calls Try.prog 35 #[escV e (.slice F f q), .int .u8 26] w (RStepP B w (emode 0) []) := by
  have HS := Lib.hid (ES.start w e (.slice F f q))
  unfold escV
  go_enter Try.func35, Try.ntmps35
  go_upto_region 1 with fail
  refine wp_world (fun wq => ES w e (.slice F f q) wq) HS.out ?_
  clear HS
  intro w2 es
  have x2 := es.box
  have xa := es.ans
  go_wp2_with (first
    | (with_reducible refine wpList_loadE' x2 (x := .tmp 2) ?_ ?_ ?_ ?_
       · with_reducible rfl
       · rfl
       · rfl)
    | (with_reducible refine wpList_storeEo xa (x := .tmp 4) (y := .tmp 108) (e' := (emode 0)) (F := none) (f := 0) (q := 0) ?_ ?_ ?_ ?_ ?_
       · with_reducible rfl
       · rfl
       · rfl
       · rfl))
  obtain ⟨y0, y1, y2, y3, y4, y5, y6, y7, yf⟩ := esc_cells (EBox.setRow (e' := (emode 0)) (P' := .slice none 0 0) xa)
  refine bodyPost_ret (v := .tuple #[escV (emode 0) (.slice none 0 0), .slice none 0 0]) (by simp [results, Try.results35, go_sem, escV, y0, y1, y2, y3, y4, y5, y6, y7]) rfl ?_
  exact rnew rfl hB (acts_nil _ _) es.below
set_option maxHeartbeats 2000000 in
theorem rcsi_low (e : E) (F : Option Addr) (f q : Nat) (B : Nat) (w : World) (hp : Ints w B (.slice F f q) e.par) (hB : B ≤ w.heap.size) (b : Int) (h0 : 0 ≤ b) (h1 : b < 32) (n1 : ¬ b = 27) (n2 : ¬ b = 24) (n3 : ¬ b = 26) : Calls Try.prog 35 #[escV e (.slice F f q), .int .u8 b] w (RStepP B w e (ctl b)) := by
  have f0 : ¬ b = 59 := by omega
  have g0 : (b == 59) = false := beq_eq_false_iff_ne.2 f0
  have f1 : ¬ b = 63 := by omega
  have g1 : (b == 63) = false := beq_eq_false_iff_ne.2 f1
  have f2 : ¬ b = 27 := by omega
  have g2 : (b == 27) = false := beq_eq_false_iff_ne.2 f2
  have f3 : ¬ b = 24 := by omega
  have g3 : (b == 24) = false := beq_eq_false_iff_ne.2 f3
  have f4 : ¬ b = 26 := by omega
  have g4 : (b == 26) = false := beq_eq_false_iff_ne.2 f4
  have f5 : ¬ 48 ≤ b := by omega
  have f6 : ¬ 32 ≤ b := by omega
  have f7 : ¬ 64 ≤ b := by omega
  have HS := Lib.hid (ES.start w e (.slice F f q))
  unfold escV
  go_enter Try.func35, Try.ntmps35
  go_upto_region 1 with fail
  refine wp_world (fun wq => ES w e (.slice F f q) wq) HS.out ?_
  clear HS
  intro w2 es
  have x2 := es.box
  go_upto_region 24 with fail
  have HR := Lib.hid es.drew
  have hz1 := es.ans.lt
  clear x2 es
  refine wp_region_held_drew (S := fun w' => EBox w' w.heap.size e (.slice F f q)) (by kernel_rfl) (by exact HR.out.box) (fun hH0 => ?_)
  refine wpAnyH_take (i := 0) (oi := _) (v := escV e (.slice F f q)) rfl (by kernel_rfl) (by kernel_rfl) (by kernel_rfl) (fun _ _ _ h => h) (yields_loadE (by rfl) rfl (by rfl) (fun _ h => h)) hH0 ?_
  change wpAnyH _ _ _ _ _ _ _ (Act.put _ (some 112) (escV e (.slice F f q))) _
  simp only [Act.put, List.setIfInBounds_toArray, List.set_cons_zero, List.set_cons_succ]
  refine wpAnyH_take (i := 1) (oi := _) (v := .int .u8 b) rfl (by kernel_rfl) (by kernel_rfl) (by kernel_rfl) (fun _ _ _ h => h) (Or.inl ⟨by rfl, ?_⟩) hH0 ?_
  · intro wv hSw
    try dsimp only at hSw
    go_simp
  change wpAnyH _ _ _ _ _ _ _ (Act.put _ (some 113) (.int .u8 b)) _
  simp only [Act.put, List.setIfInBounds_toArray, List.set_cons_zero, List.set_cons_succ]
  refine wpAnyH_ready (rs := [2]) (by kernel_rfl) (by simp) ?_
  refine AllReadyH.cons (o := _) rfl (fun K hK => ?_) AllReadyH.nil
  go_simp
  refine (rcontrol_any b _ h0 (by omega)).mono ?_
  rintro x w3 ⟨v3, rfl, a3, b3⟩
  have r3 := HR.out.next b3
  refine hK.out _ _ (by exact r3.box) (fun hH1 => ?_)
  clear hK K
  try simp only [Act.put, List.setIfInBounds_toArray, List.set_cons_zero, List.set_cons_succ]
  refine wpAnyH_ready (rs := [3]) (by kernel_rfl) (by simp) ?_
  refine AllReadyH.cons (o := _) rfl (fun K hK => ?_) AllReadyH.nil
  rw [if_pos (by rfl)]
  refine wp_storeEo r3.ans (x := .tmp 4) (y := .tmp 112) (e' := e) (F := F) (f := f) (q := q) rfl rfl rfl ?_
  refine hK.out _ _ (by exact (setRow_other _ _ _ _ (by omega)).trans r3.box) (fun hH2 => ?_)
  clear hK K
  dsimp only [Act.put]
  refine wpAnyH_take (i := 4) (oi := _) (v := v3) rfl (by kernel_rfl) (by kernel_rfl) (by kernel_rfl) (fun _ _ _ h => h) (Or.inl ⟨by rfl, ?_⟩) hH2 ?_
  · intro wv hSw
    try dsimp only at hSw
    go_simp
  change wpAnyH _ _ _ _ _ _ _ (Act.put _ (some 5) (v3)) _
  simp only [Act.put, List.setIfInBounds_toArray, List.set_cons_zero, List.set_cons_succ]
  refine wpAnyH_done (by kernel_rfl) ?_ _
  clear hH0 hH1 hH2
  go_wp2_with fail
  obtain ⟨y0, y1, y2, y3, y4, y5, y6, y7, yf⟩ := esc_cells (EBox.setRow (e' := e) (P' := .slice F f q) r3.ans)
  refine bodyPost_ret (v := .tuple #[escV e (.slice F f q), v3]) (by simp [results, Try.results35, go_sem, escV, y0, y1, y2, y3, y4, y5, y6, y7]) rfl ?_
  exact rkeep hp hB (a3.base hz1) r3.below
set_option maxHeartbeats 1000000 in
theorem rcsi_high (e : E) (F : Option Addr) (f q : Nat) (B : Nat) (w : World) (hp : Ints w B (.slice F f q) e.par) (hB : B ≤ w.heap.size) (b : Int) (h0 : 127 ≤ b) (h1 : b ≤ 255) : Calls Try.prog 35 #[escV e (.slice F f q), .int .u8 b] w (RStepP B w e []) := by
  have f0 : ¬ b = 59 := by omega
  have g0 : (b == 59) = false := beq_eq_false_iff_ne.2 f0
  have f1 : ¬ b = 63 := by omega
  have g1 : (b == 63) = false := beq_eq_false_iff_ne.2 f1
  have f2 : ¬ b = 27 := by omega
  have g2 : (b == 27) = false := beq_eq_false_iff_ne.2 f2
  have f3 : ¬ b = 24 := by omega
  have g3 : (b == 24) = false := beq_eq_false_iff_ne.2 f3
  have f4 : ¬ b = 26 := by omega
  have g4 : (b == 26) = false := beq_eq_false_iff_ne.2 f4
  have f5 : 48 ≤ b := by omega
  have f6 : ¬ b ≤ 57 := by omega
  have f7 : 32 ≤ b := by omega
  have f8 : ¬ b ≤ 63 := by omega
  have f9 : 64 ≤ b := by omega
  have f10 : ¬ b ≤ 126 := by omega
  have f11 : ¬ b < 32 := by omega
  have HS := Lib.hid (ES.start w e (.slice F f q))
  unfold escV
  go_enter Try.func35, Try.ntmps35
  go_upto_region 1 with fail
  refine wp_world (fun wq => ES w e (.slice F f q) wq) HS.out ?_
  clear HS
  intro w2 es
  have x2 := es.box
  have xa := es.ans
  go_wp2_with (first
    | (with_reducible refine wpList_loadE' x2 (x := .tmp 2) ?_ ?_ ?_ ?_
       · with_reducible rfl
       · rfl
       · rfl)
    | (with_reducible refine wpList_storeEo xa (x := .tmp 4) (y := .tmp 115) (e' := e) (F := F) (f := f) (q := q) ?_ ?_ ?_ ?_ ?_
       · with_reducible rfl
       · rfl
       · rfl
       · rfl))
  obtain ⟨y0, y1, y2, y3, y4, y5, y6, y7, yf⟩ := esc_cells (EBox.setRow (e' := e) (P' := .slice F f q) xa)
  refine bodyPost_ret (v := .tuple #[escV e (.slice F f q), .slice none 0 0]) (by simp [results, Try.results35, go_sem, escV, y0, y1, y2, y3, y4, y5, y6, y7]) rfl ?_
  exact rkeep hp hB (acts_nil _ _) es.below
set_option maxHeartbeats 2000000 in
theorem rcsi_63f (mo : Int) (u : U) (par : List Int) (sk : Bool) (F : Option Addr) (q : Nat) (B : Nat) (w : World)  (hp : Ints w B (.slice F 0 q) par) (hB : B ≤ w.heap.size) : Calls Try.prog 35 #[escV (⟨mo, u, par, (-1), false, sk⟩ : E) (.slice F 0 q), .int .u8 63] w (RStepP B w (⟨mo, u, par, (-1), true, sk⟩ : E) []) := by
  have HS := Lib.hid (ES.start w (⟨mo, u, par, (-1), false, sk⟩ : E) (.slice F 0 q))
  unfold escV
  go_enter Try.func35, Try.ntmps35
  go_upto_region 1 with fail
  refine wp_world (fun wq => ES w (⟨mo, u, par, (-1), false, sk⟩ : E) (.slice F 0 q) wq) HS.out ?_
  clear HS
  intro w2 es
  obtain ⟨x0, x1, x2, x3, x4, x5, x6, x7, xf⟩ := esc_cells es.box
  dsimp only at x0 x1 x2 x3 x5 x6 x7
  go_upto_region 25 with fail
  have HX : EBox (w2.setCell ⟨w.heap.size, 6, none⟩ (.bool true)) w.heap.size (⟨mo, u, par, (-1), true, sk⟩ : E) (.slice F 0 q) := (show Held _ _ 32 _ from es.box).s6 _
  have HA : EBox (w2.setCell ⟨w.heap.size, 6, none⟩ (.bool true)) (w.heap.size + 1) E.zero nilV := (show Held _ _ 32 _ from es.ans).far (by omega) _
  have HB : Below w.heap.size w (w2.setCell ⟨w.heap.size, 6, none⟩ (.bool true)) := below_set es.below (Nat.le_refl _) _
  refine wp_world (fun wq => ES w (⟨mo, u, par, (-1), true, sk⟩ : E) (.slice F 0 q) wq) ⟨HX, HA, HB⟩ ?_
  clear HX HA HB x0 x1 x2 x3 x4 x5 x6 x7 xf es
  intro w3 es
  have x3 := es.box
  have xa := es.ans
  go_wp2_with (first
    | (with_reducible refine wpList_loadE' x3 (x := .tmp 2) ?_ ?_ ?_ ?_
       · with_reducible rfl
       · rfl
       · rfl)
    | (with_reducible refine wpList_storeEo xa (x := .tmp 4) (y := .tmp 115) (e' := (⟨mo, u, par, (-1), true, sk⟩ : E)) (F := F) (f := 0) (q := q) ?_ ?_ ?_ ?_ ?_
       · with_reducible rfl
       · rfl
       · rfl
       · rfl))
  obtain ⟨y0, y1, y2, y3, y4, y5, y6, y7, yf⟩ := esc_cells (EBox.setRow (e' := (⟨mo, u, par, (-1), true, sk⟩ : E)) (P' := .slice F 0 q) xa)
  refine bodyPost_ret (v := .tuple #[escV (⟨mo, u, par, (-1), true, sk⟩ : E) (.slice F 0 q), .slice none 0 0]) (by simp [results, Try.results35, go_sem, escV, y0, y1, y2, y3, y4, y5, y6, y7]) rfl ?_
  exact rkeep (e := (⟨mo, u, par, (-1), true, sk⟩ : E)) hp hB (acts_nil _ _) es.below
set_option maxHeartbeats 2000000 in
theorem rcsi_63a (mo : Int) (u : U) (par : List Int) (sk : Bool) (F : Option Addr) (q : Nat) (B : Nat) (w : World) (num : Int) (pr : Bool) (f : Nat) (hf : ¬ f = 0) (hp : Ints w B (.slice F f q) par) (hB : B ≤ w.heap.size) : Calls Try.prog 35 #[escV (⟨mo, u, par, num, pr, sk⟩ : E) (.slice F f q), .int .u8 63] w (RStepP B w (⟨mo, u, par, num, pr, true⟩ : E) []) := by
  have k1 : ¬ (f : Int) = 0 := by omega
  have k2 : ((f : Int) == 0) = false := beq_eq_false_iff_ne.2 k1
  have HS := Lib.hid (ES.start w (⟨mo, u, par, num, pr, sk⟩ : E) (.slice F f q))
  unfold escV
  go_enter Try.func35, Try.ntmps35
  go_upto_region 1 with fail
  refine wp_world (fun wq => ES w (⟨mo, u, par, num, pr, sk⟩ : E) (.slice F f q) wq) HS.out ?_
  clear HS
  intro w2 es
  obtain ⟨x0, x1, x2, x3, x4, x5, x6, x7, xf⟩ := esc_cells es.box
  dsimp only at x0 x1 x2 x3 x5 x6 x7
  go_upto_region 25 with fail
  have HX : EBox (w2.setCell ⟨w.heap.size, 7, none⟩ (.bool true)) w.heap.size (⟨mo, u, par, num, pr, true⟩ : E) (.slice F f q) := (show Held _ _ 32 _ from es.box).s7 _
  have HA : EBox (w2.setCell ⟨w.heap.size, 7, none⟩ (.bool true)) (w.heap.size + 1) E.zero nilV := (show Held _ _ 32 _ from es.ans).far (by omega) _
  have HB : Below w.heap.size w (w2.setCell ⟨w.heap.size, 7, none⟩ (.bool true)) := below_set es.below (Nat.le_refl _) _
  refine wp_world (fun wq => ES w (⟨mo, u, par, num, pr, true⟩ : E) (.slice F f q) wq) ⟨HX, HA, HB⟩ ?_
  clear HX HA HB x0 x1 x2 x3 x4 x5 x6 x7 xf es
  intro w3 es
  have x3 := es.box
  have xa := es.ans
  go_wp2_with (first
    | (with_reducible refine wpList_loadE' x3 (x := .tmp 2) ?_ ?_ ?_ ?_
       · with_reducible rfl
       · rfl
       · rfl)
    | (with_reducible refine wpList_storeEo xa (x := .tmp 4) (y := .tmp 115) (e' := (⟨mo, u, par, num, pr, true⟩ : E)) (F := F) (f := f) (q := q) ?_ ?_ ?_ ?_ ?_
       · with_reducible rfl
       · rfl
       · rfl
       · rfl))
  obtain ⟨y0, y1, y2, y3, y4, y5, y6, y7, yf⟩ := esc_cells (EBox.setRow (e' := (⟨mo, u, par, num, pr, true⟩ : E)) (P' := .slice F f q) xa)
  refine bodyPost_ret (v := .tuple #[escV (⟨mo, u, par, num, pr, true⟩ : E) (.slice F f q), .slice none 0 0]) (by simp [results, Try.results35, go_sem, escV, y0, y1, y2, y3, y4, y5, y6, y7]) rfl ?_
  exact rkeep (e := (⟨mo, u, par, num, pr, true⟩ : E)) hp hB (acts_nil _ _) es.below
set_option maxHeartbeats 2000000 in
theorem rcsi_63b (mo : Int) (u : U) (par : List Int) (sk : Bool) (F : Option Addr) (q : Nat) (B : Nat) (w : World) (num : Int) (pr : Bool) (hn : ¬ num = -1) (hp : Ints w B (.slice F 0 q) par) (hB : B ≤ w.heap.size) : Calls Try.prog 35 #[escV (⟨mo, u, par, num, pr, sk⟩ : E) (.slice F 0 q), .int .u8 63] w (RStepP B w (⟨mo, u, par, num, pr, true⟩ : E) []) := by
  have k2 : (num == -1) = false := beq_eq_false_iff_ne.2 hn
  have HS := Lib.hid (ES.start w (⟨mo, u, par, num, pr, sk⟩ : E) (.slice F 0 q))
  unfold escV
  go_enter Try.func35, Try.ntmps35
  go_upto_region 1 with fail
  refine wp_world (fun wq => ES w (⟨mo, u, par, num, pr, sk⟩ : E) (.slice F 0 q) wq) HS.out ?_
  clear HS
  intro w2 es
  obtain ⟨x0, x1, x2, x3, x4, x5, x6, x7, xf⟩ := esc_cells es.box
  dsimp only at x0 x1 x2 x3 x5 x6 x7
  go_upto_region 25 with fail
  have HX : EBox (w2.setCell ⟨w.heap.size, 7, none⟩ (.bool true)) w.heap.size (⟨mo, u, par, num, pr, true⟩ : E) (.slice F 0 q) := (show Held _ _ 32 _ from es.box).s7 _
  have HA : EBox (w2.setCell ⟨w.heap.size, 7, none⟩ (.bool true)) (w.heap.size + 1) E.zero nilV := (show Held _ _ 32 _ from es.ans).far (by omega) _
  have HB : Below w.heap.size w (w2.setCell ⟨w.heap.size, 7, none⟩ (.bool true)) := below_set es.below (Nat.le_refl _) _
  refine wp_world (fun wq => ES w (⟨mo, u, par, num, pr, true⟩ : E) (.slice F 0 q) wq) ⟨HX, HA, HB⟩ ?_
  clear HX HA HB x0 x1 x2 x3 x4 x5 x6 x7 xf es
  intro w3 es
  have x3 := es.box
  have xa := es.ans
  go_wp2_with (first
    | (with_reducible refine wpList_loadE' x3 (x := .tmp 2) ?_ ?_ ?_ ?_
       · with_reducible rfl
       · rfl
       · rfl)
    | (with_reducible refine wpList_storeEo xa (x := .tmp 4) (y := .tmp 115) (e' := (⟨mo, u, par, num, pr, true⟩ : E)) (F := F) (f := 0) (q := q) ?_ ?_ ?_ ?_ ?_
       · with_reducible rfl
       · rfl
       · rfl
       · rfl))
  obtain ⟨y0, y1, y2, y3, y4, y5, y6, y7, yf⟩ := esc_cells (EBox.setRow (e' := (⟨mo, u, par, num, pr, true⟩ : E)) (P' := .slice F 0 q) xa)
  refine bodyPost_ret (v := .tuple #[escV (⟨mo, u, par, num, pr, true⟩ : E) (.slice F 0 q), .slice none 0 0]) (by simp [results, Try.results35, go_sem, escV, y0, y1, y2, y3, y4, y5, y6, y7]) rfl ?_
  exact rkeep (e := (⟨mo, u, par, num, pr, true⟩ : E)) hp hB (acts_nil _ _) es.below
set_option maxHeartbeats 2000000 in
theorem rcsi_63c (mo : Int) (u : U) (par : List Int) (sk : Bool) (F : Option Addr) (q : Nat) (B : Nat) (w : World)  (hp : Ints w B (.slice F 0 q) par) (hB : B ≤ w.heap.size) : Calls Try.prog 35 #[escV (⟨mo, u, par, (-1), true, sk⟩ : E) (.slice F 0 q), .int .u8 63] w (RStepP B w (⟨mo, u, par, (-1), true, true⟩ : E) []) := by
  have HS := Lib.hid (ES.start w (⟨mo, u, par, (-1), true, sk⟩ : E) (.slice F 0 q))
  unfold escV
  go_enter Try.func35, Try.ntmps35
  go_upto_region 1 with fail
  refine wp_world (fun wq => ES w (⟨mo, u, par, (-1), true, sk⟩ : E) (.slice F 0 q) wq) HS.out ?_
  clear HS
  intro w2 es
  obtain ⟨x0, x1, x2, x3, x4, x5, x6, x7, xf⟩ := esc_cells es.box
  dsimp only at x0 x1 x2 x3 x5 x6 x7
  go_upto_region 25 with fail
  have HX : EBox (w2.setCell ⟨w.heap.size, 7, none⟩ (.bool true)) w.heap.size (⟨mo, u, par, (-1), true, true⟩ : E) (.slice F 0 q) := (show Held _ _ 32 _ from es.box).s7 _
  have HA : EBox (w2.setCell ⟨w.heap.size, 7, none⟩ (.bool true)) (w.heap.size + 1) E.zero nilV := (show Held _ _ 32 _ from es.ans).far (by omega) _
  have HB : Below w.heap.size w (w2.setCell ⟨w.heap.size, 7, none⟩ (.bool true)) := below_set es.below (Nat.le_refl _) _
  refine wp_world (fun wq => ES w (⟨mo, u, par, (-1), true, true⟩ : E) (.slice F 0 q) wq) ⟨HX, HA, HB⟩ ?_
  clear HX HA HB x0 x1 x2 x3 x4 x5 x6 x7 xf es
  intro w3 es
  have x3 := es.box
  have xa := es.ans
  go_wp2_with (first
    | (with_reducible refine wpList_loadE' x3 (x := .tmp 2) ?_ ?_ ?_ ?_
       · with_reducible rfl
       · rfl
       · rfl)
    | (with_reducible refine wpList_storeEo xa (x := .tmp 4) (y := .tmp 115) (e' := (⟨mo, u, par, (-1), true, true⟩ : E)) (F := F) (f := 0) (q := q) ?_ ?_ ?_ ?_ ?_
       · with_reducible rfl
       · rfl
       · rfl
       · rfl))
  obtain ⟨y0, y1, y2, y3, y4, y5, y6, y7, yf⟩ := esc_cells (EBox.setRow (e' := (⟨mo, u, par, (-1), true, true⟩ : E)) (P' := .slice F 0 q) xa)
  refine bodyPost_ret (v := .tuple #[escV (⟨mo, u, par, (-1), true, true⟩ : E) (.slice F 0 q), .slice none 0 0]) (by simp [results, Try.results35, go_sem, escV, y0, y1, y2, y3, y4, y5, y6, y7]) rfl ?_
  exact rkeep (e := (⟨mo, u, par, (-1), true, true⟩ : E)) hp hB (acts_nil _ _) es.below

set_option maxHeartbeats 2000000 in
theorem rcsi_semi (e : E) (F : Option Addr) (q : Nat) (B : Nat) (w : World) (hp : Ints w B (.slice F e.par.length q) e.par) (hB : B ≤ w.heap.size) (hl : e.par.length ≤ 1000) : Calls Try.prog 35 #[escV e (.slice F e.par.length q), .int .u8 59] w (RStepP B w ⟨e.mode, e.u, wPar e.par e.num, -1, e.priv, e.skip⟩ []) := by
  have HS := Lib.hid (ES.start w e (.slice F e.par.length q))
  unfold escV
  go_enter Try.func35, Try.ntmps35
  go_upto_region 1 with fail
  refine wp_world (fun wq => ES w e (.slice F e.par.length q) wq) HS.out ?_
  clear HS
  intro w2 es
  obtain ⟨x0, x1, x2, x3, x4, x5, x6, x7, xf⟩ := esc_cells es.box
  go_upto_region 25 with (
    go_at_call 64
    refine (rtold_any F q e.par e.num B _ (by exact hp.below es.below (Nat.le_refl _)) (by exact Nat.le_trans hB es.below.size) hl).mono ?_
    rintro x w3 ⟨F3, q3, rfl, i3, b3⟩
    have es3 := es.next b3
    obtain ⟨z0, z1, z2, z3, z4, z5, z6, z7, zf⟩ := esc_cells es3.box)
  have i4 : Ints ((w3.setCell ⟨w.heap.size, 4, none⟩ (.slice F3 (wPar e.par e.num).length q3)).setCell ⟨w.heap.size, 5, none⟩ (.int .i64 (-1))) B (.slice F3 (wPar e.par e.num).length q3) (wPar e.par e.num) := by
    have := ints_box i3 es3.box (escC ⟨e.mode, e.u, wPar e.par e.num, -1, e.priv, e.skip⟩ (.slice F3 (wPar e.par e.num).length q3))
    rw [setCell_eq_setRow w3 w.heap.size 4 _ 32 (0, 0) _ es3.box, setCell_eq_setRow _ w.heap.size 5 _ 32 (0, 0) _ (setRow_heap w3 _ _ _ 32 (0, 0) es3.box), setRow_setRow]
    exact ints_box i3 es3.box _
  have HX : EBox ((w3.setCell ⟨w.heap.size, 4, none⟩ (.slice F3 (wPar e.par e.num).length q3)).setCell ⟨w.heap.size, 5, none⟩ (.int .i64 (-1))) w.heap.size ⟨e.mode, e.u, wPar e.par e.num, -1, e.priv, e.skip⟩ (.slice F3 (wPar e.par e.num).length q3) := ((show Held _ _ 32 _ from es3.box).s4 _).s5 _
  have HA : EBox ((w3.setCell ⟨w.heap.size, 4, none⟩ (.slice F3 (wPar e.par e.num).length q3)).setCell ⟨w.heap.size, 5, none⟩ (.int .i64 (-1))) (w.heap.size + 1) E.zero nilV := ((show Held _ _ 32 _ from es3.ans).far (by omega) _).far (by omega) _
  have HB := below_set (o := 5) (below_set (o := 4) es3.below (Nat.le_refl _) (.slice F3 (wPar e.par e.num).length q3)) (Nat.le_refl _) (.int .i64 (-1))
  refine wp_world (fun wq => ES w ⟨e.mode, e.u, wPar e.par e.num, -1, e.priv, e.skip⟩ (.slice F3 (wPar e.par e.num).length q3) wq ∧ Ints wq B (.slice F3 (wPar e.par e.num).length q3) (wPar e.par e.num)) ⟨⟨HX, HA, HB⟩, i4⟩ ?_
  clear HX HA HB x0 x1 x2 x3 x4 x5 x6 x7 xf z0 z1 z2 z3 z4 z5 z6 z7 zf es es3 i3 i4 b3
  rintro w5 ⟨es, i5⟩
  have x3 := es.box
  have xa := es.ans
  go_wp2_with (first
    | (with_reducible refine wpList_loadE' x3 (x := .tmp 2) ?_ ?_ ?_ ?_
       · with_reducible rfl
       · rfl
       · rfl)
    | (with_reducible refine wpList_storeEo xa (x := .tmp 4) (y := .tmp 115) (e' := ⟨e.mode, e.u, wPar e.par e.num, -1, e.priv, e.skip⟩) (F := F3) (f := (wPar e.par e.num).length) (q := q3) ?_ ?_ ?_ ?_ ?_
       · with_reducible rfl
       · rfl
       · rfl
       · rfl))
  obtain ⟨y0, y1, y2, y3, y4, y5, y6, y7, yf⟩ := esc_cells (EBox.setRow (e' := ⟨e.mode, e.u, wPar e.par e.num, -1, e.priv, e.skip⟩) (P' := .slice F3 (wPar e.par e.num).length q3) xa)
  refine bodyPost_ret (v := .tuple #[escV ⟨e.mode, e.u, wPar e.par e.num, -1, e.priv, e.skip⟩ (.slice F3 (wPar e.par e.num).length q3), .slice none 0 0]) (by simp [results, Try.results35, go_sem, escV, y0, y1, y2, y3, y4, y5, y6, y7]) rfl ?_
  exact rkeepB (e := ⟨e.mode, e.u, wPar e.par e.num, -1, e.priv, e.skip⟩) i5 xa es.below

end Go.Proofs.Ytpcpmeihebgncaa.Esca

/-
  What the document's own csi answers at a last byte, and its ground and Step. Conditions: a byte, a place that steps make.
-/
namespace Go.Proofs.Ytpcpmeihebgncaa.Esca
open Go.RowKit
set_option maxRecDepth 100000
set_option linter.unusedSimpArgs false
set_option linter.unusedVariables false

set_option maxHeartbeats 4000000 in
theorem rfin_a_s (mo : Int) (u : U) (par : List Int) (num : Int) (hn : ¬ num = -1) (hl : par.length ≤ 1000) (pr : Bool) (b : Int) (h0 : 64 ≤ b) (h1 : b ≤ 126) (F : Option Addr) (q : Nat) (B : Nat) (w : World) (hp : Ints w B (.slice F par.length q) par) (hB : B ≤ w.heap.size) : Calls Try.prog 35 #[escV (⟨mo, u, par, num, pr, true⟩ : E) (.slice F par.length q), .int .u8 b] w (RStepP B w (emode 0) []) := by
  have f0 : ¬ b = 59 := by omega
  have g0 : (b == 59) = false := beq_eq_false_iff_ne.2 f0
  have f1 : ¬ b = 63 := by omega
  have g1 : (b == 63) = false := beq_eq_false_iff_ne.2 f1
  have f2 : ¬ b = 27 := by omega
  have g2 : (b == 27) = false := beq_eq_false_iff_ne.2 f2
  have f3 : ¬ b = 24 := by omega
  have g3 : (b == 24) = false := beq_eq_false_iff_ne.2 f3
  have f4 : ¬ b = 26 := by omega
  have g4 : (b == 26) = false := beq_eq_false_iff_ne.2 f4
  have f5 : 48 ≤ b := by omega
  have f6 : ¬ b ≤ 57 := by omega
  have f7 : 32 ≤ b := by omega
  have f8 : ¬ b ≤ 63 := by omega
  have f9 : 64 ≤ b := by omega
  have f10 : b ≤ 126 := by omega
  have k2 : (num == -1) = false := beq_eq_false_iff_ne.2 hn
  have HS := Lib.hid (ES.start w (⟨mo, u, par, num, pr, true⟩ : E) (.slice F par.length q))
  unfold escV
  go_enter Try.func35, Try.ntmps35
  go_upto_region 1 with fail
  refine wp_world (fun wq => ES w (⟨mo, u, par, num, pr, true⟩ : E) (.slice F par.length q) wq) HS.out ?_
  clear HS
  intro w2 es
  obtain ⟨x0, x1, x2, x3, x4, x5, x6, x7, xf⟩ := esc_cells es.box
  dsimp only at x0 x1 x2 x3 x5 x6 x7
  go_upto_region 13 with (
    go_at_call 64
    refine (rtold_any F q par num B _ (by exact hp.below es.below (Nat.le_refl _)) (by exact Nat.le_trans hB es.below.size) hl).mono ?_
    rintro x w3 ⟨F3, q3, rfl, i3, b3⟩
    have es3 := es.next b3
    obtain ⟨z0, z1, z2, z3, z4, z5, z6, z7, zf⟩ := esc_cells es3.box)
  have i4 : Ints (w3.setCell ⟨w.heap.size, 4, none⟩ (.slice F3 (wPar par num).length q3)) B (.slice F3 (wPar par num).length q3) (wPar par num) := by
    rw [setCell_eq_setRow w3 w.heap.size 4 _ 32 (0, 0) _ es3.box]
    exact ints_box i3 es3.box _
  have HX : EBox (w3.setCell ⟨w.heap.size, 4, none⟩ (.slice F3 (wPar par num).length q3)) w.heap.size (⟨mo, u, (wPar par num), num, pr, true⟩ : E) (.slice F3 (wPar par num).length q3) := (show Held _ _ 32 _ from es3.box).s4 _
  have HA : EBox (w3.setCell ⟨w.heap.size, 4, none⟩ (.slice F3 (wPar par num).length q3)) (w.heap.size + 1) E.zero nilV := (show Held _ _ 32 _ from es3.ans).far (by omega) _
  have HB := below_set (o := 4) es3.below (Nat.le_refl _) (.slice F3 (wPar par num).length q3)
  refine wp_world (fun wq => ES w (⟨mo, u, (wPar par num), num, pr, true⟩ : E) (.slice F3 (wPar par num).length q3) wq ∧ Ints wq B (.slice F3 (wPar par num).length q3) (wPar par num)) ⟨⟨HX, HA, HB⟩, i4⟩ ?_
  clear HX HA HB x0 x1 x2 x3 x4 x5 x6 x7 xf z0 z1 z2 z3 z4 z5 z6 z7 zf es es3 i3 i4 b3
  rintro w5 ⟨es, i5⟩
  obtain ⟨x0, x1, x2, x3, x4, x5, x6, x7, xf⟩ := esc_cells es.box
  dsimp only at x7
  clear x0 x1 x2 x3 x4 x5 x6 xf
  have xa := es.ans
  go_wp2_with (
    (with_reducible refine wpList_storeEo xa (x := .tmp 4) (y := .tmp 86) (e' := emode 0) (F := none) (f := 0) (q := 0) ?_ ?_ ?_ ?_ ?_
     · with_reducible rfl
     · rfl
     · rfl
     · rfl))
  obtain ⟨y0, y1, y2, y3, y4, y5, y6, y7, yf⟩ := esc_cells (EBox.setRow (e' := (emode 0)) (P' := .slice none 0 0) xa)
  refine bodyPost_ret (v := .tuple #[escV (emode 0) (.slice none 0 0), .slice none 0 0]) (by simp [results, Try.results35, go_sem, escV, y0, y1, y2, y3, y4, y5, y6, y7]) rfl ?_
  exact rnew rfl hB (acts_nil _ _) es.below
set_option maxHeartbeats 4000000 in
theorem rfin_a_p (mo : Int) (u : U) (par : List Int) (num : Int) (hn : ¬ num = -1) (hl : par.length ≤ 1000) (b : Int) (h0 : 64 ≤ b) (h1 : b ≤ 126) (F : Option Addr) (q : Nat) (B : Nat) (w : World) (hp : Ints w B (.slice F par.length q) par) (hB : B ≤ w.heap.size) : Calls Try.prog 35 #[escV (⟨mo, u, par, num, true, false⟩ : E) (.slice F par.length q), .int .u8 b] w (RStepP B w (emode 0) [⟨5, b, (wPar par num)⟩]) := by
  have f0 : ¬ b = 59 := by omega
  have g0 : (b == 59) = false := beq_eq_false_iff_ne.2 f0
  have f1 : ¬ b = 63 := by omega
  have g1 : (b == 63) = false := beq_eq_false_iff_ne.2 f1
  have f2 : ¬ b = 27 := by omega
  have g2 : (b == 27) = false := beq_eq_false_iff_ne.2 f2
  have f3 : ¬ b = 24 := by omega
  have g3 : (b == 24) = false := beq_eq_false_iff_ne.2 f3
  have f4 : ¬ b = 26 := by omega
  have g4 : (b == 26) = false := beq_eq_false_iff_ne.2 f4
  have f5 : 48 ≤ b := by omega
  have f6 : ¬ b ≤ 57 := by omega
  have f7 : 32 ≤ b := by omega
  have f8 : ¬ b ≤ 63 := by omega
  have f9 : 64 ≤ b := by omega
  have f10 : b ≤ 126 := by omega
  have k2 : (num == -1) = false := beq_eq_false_iff_ne.2 hn
  have HS := Lib.hid (ES.start w (⟨mo, u, par, num, true, false⟩ : E) (.slice F par.length q))
  unfold escV
  go_enter Try.func35, Try.ntmps35
  go_upto_region 1 with fail
  refine wp_world (fun wq => ES w (⟨mo, u, par, num, true, false⟩ : E) (.slice F par.length q) wq) HS.out ?_
  clear HS
  intro w2 es
  obtain ⟨x0, x1, x2, x3, x4, x5, x6, x7, xf⟩ := esc_cells es.box
  dsimp only at x0 x1 x2 x3 x5 x6 x7
  go_upto_region 13 with (
    go_at_call 64
    refine (rtold_any F q par num B _ (by exact hp.below es.below (Nat.le_refl _)) (by exact Nat.le_trans hB es.below.size) hl).mono ?_
    rintro x w3 ⟨F3, q3, rfl, i3, b3⟩
    have es3 := es.next b3
    obtain ⟨z0, z1, z2, z3, z4, z5, z6, z7, zf⟩ := esc_cells es3.box)
  have i4 : Ints (w3.setCell ⟨w.heap.size, 4, none⟩ (.slice F3 (wPar par num).length q3)) B (.slice F3 (wPar par num).length q3) (wPar par num) := by
    rw [setCell_eq_setRow w3 w.heap.size 4 _ 32 (0, 0) _ es3.box]
    exact ints_box i3 es3.box _
  have HX : EBox (w3.setCell ⟨w.heap.size, 4, none⟩ (.slice F3 (wPar par num).length q3)) w.heap.size (⟨mo, u, (wPar par num), num, true, false⟩ : E) (.slice F3 (wPar par num).length q3) := (show Held _ _ 32 _ from es3.box).s4 _
  have HA : EBox (w3.setCell ⟨w.heap.size, 4, none⟩ (.slice F3 (wPar par num).length q3)) (w.heap.size + 1) E.zero nilV := (show Held _ _ 32 _ from es3.ans).far (by omega) _
  have HB := below_set (o := 4) es3.below (Nat.le_refl _) (.slice F3 (wPar par num).length q3)
  refine wp_world (fun wq => ES w (⟨mo, u, (wPar par num), num, true, false⟩ : E) (.slice F3 (wPar par num).length q3) wq ∧ Ints wq B (.slice F3 (wPar par num).length q3) (wPar par num)) ⟨⟨HX, HA, HB⟩, i4⟩ ?_
  clear HX HA HB x0 x1 x2 x3 x4 x5 x6 x7 xf z0 z1 z2 z3 z4 z5 z6 z7 zf es es3 i3 i4 b3
  rintro w5 ⟨es, i5⟩
  obtain ⟨x0, x1, x2, x3, x4, x5, x6, x7, xf⟩ := esc_cells es.box
  dsimp only at x6 x7
  clear x0 x1 x2 x3 x4 x5 xf
  have w1 : IntKind.i32.wrap b = b := IntWalk.i32_in _ (by omega)
  go_upto_region 18 with fail
  clear x6 x7
  have HR := Lib.hid es.drew
  clear es
  refine wp_region_held_drew (S := fun w' => EBox w' w.heap.size (⟨mo, u, (wPar par num), num, true, false⟩ : E) (.slice F3 (wPar par num).length q3)) (by kernel_rfl) (by exact HR.out.box) (fun hH0 => ?_)
  have i6 : Ints w5.drew B (.slice F3 (wPar par num).length q3) (wPar par num) := i5
  generalize w5.drew = wd at *
  refine wpAnyH_take (i := 0) (oi := _) (v := .agg #[.int .i64 0, .int .i64 0, .int .i64 0, .int .i64 0, .slice none 0 0, .int .i64 0, .bool false, .bool false]) rfl (by kernel_rfl) (by kernel_rfl) (by kernel_rfl) (fun _ _ _ h => h) (Or.inl ⟨by rfl, ?_⟩) hH0 ?_
  · intro wv hSw
    try dsimp only at hSw
    go_simp
  change wpAnyH _ _ _ _ _ _ _ (Act.put _ (some 89) (.agg #[.int .i64 0, .int .i64 0, .int .i64 0, .int .i64 0, .slice none 0 0, .int .i64 0, .bool false, .bool false])) _
  simp only [Act.put, List.setIfInBounds_toArray, List.set_cons_zero, List.set_cons_succ]
  refine wpAnyH_take (i := 1) (oi := _) (v := .int .i64 5) rfl (by kernel_rfl) (by kernel_rfl) (by kernel_rfl) (fun _ _ _ h => h) (Or.inl ⟨by rfl, ?_⟩) hH0 ?_
  · intro wv hSw
    try dsimp only at hSw
    go_simp
  change wpAnyH _ _ _ _ _ _ _ (Act.put _ (some 90) (.int .i64 5)) _
  simp only [Act.put, List.setIfInBounds_toArray, List.set_cons_zero, List.set_cons_succ]
  refine wpAnyH_take (i := 2) (oi := _) (v := .int .u8 b) rfl (by kernel_rfl) (by kernel_rfl) (by kernel_rfl) (fun _ _ _ h => h) (Or.inl ⟨by rfl, ?_⟩) hH0 ?_
  · intro wv hSw
    try dsimp only at hSw
    go_simp
  change wpAnyH _ _ _ _ _ _ _ (Act.put _ (some 91) (.int .u8 b)) _
  simp only [Act.put, List.setIfInBounds_toArray, List.set_cons_zero, List.set_cons_succ]
  refine wpAnyH_take (i := 3) (oi := _) (v := .int .i32 b) rfl (by kernel_rfl) (by kernel_rfl) (by kernel_rfl) (fun _ _ _ h => h) (Or.inl ⟨by rfl, ?_⟩) hH0 ?_
  · intro wv hSw
    try dsimp only at hSw
    go_simp
  change wpAnyH _ _ _ _ _ _ _ (Act.put _ (some 92) (.int .i32 b)) _
  simp only [Act.put, List.setIfInBounds_toArray, List.set_cons_zero, List.set_cons_succ]
  refine wpAnyH_take (i := 4) (oi := _) (v := .pointer (some ⟨w.heap.size, 4, none⟩)) rfl (by kernel_rfl) (by kernel_rfl) (by kernel_rfl) (fun _ _ _ h => h) (Or.inl ⟨by rfl, ?_⟩) hH0 ?_
  · intro wv hSw
    try dsimp only at hSw
    go_simp
  change wpAnyH _ _ _ _ _ _ _ (Act.put _ (some 93) (.pointer (some ⟨w.heap.size, 4, none⟩))) _
  simp only [Act.put, List.setIfInBounds_toArray, List.set_cons_zero, List.set_cons_succ]
  refine wpAnyH_take (i := 5) (oi := _) (v := (.slice F3 (wPar par num).length q3)) rfl (by kernel_rfl) (by kernel_rfl) (by kernel_rfl) (fun _ _ _ h => h) (Or.inl ⟨by rfl, ?_⟩) hH0 ?_
  · intro wv hSw
    have c4 : wv.cell? ⟨w.heap.size, 4, none⟩ = some (.slice F3 (wPar par num).length q3) := (Held.cell hSw 4).trans rfl
    go_simp
  change wpAnyH _ _ _ _ _ _ _ (Act.put _ (some 94) (.slice F3 (wPar par num).length q3)) _
  simp only [Act.put, List.setIfInBounds_toArray, List.set_cons_zero, List.set_cons_succ]
  refine wpAnyH_take (i := 6) (oi := _) (v := .agg #[.int .i64 5, .int .i32 b, .slice F3 (wPar par num).length q3]) rfl (by kernel_rfl) (by kernel_rfl) (by kernel_rfl) (fun _ _ _ h => h) (Or.inl ⟨by rfl, ?_⟩) hH0 ?_
  · intro wv hSw
    try dsimp only at hSw
    go_simp
  change wpAnyH _ _ _ _ _ _ _ (Act.put _ (some 95) (.agg #[.int .i64 5, .int .i32 b, .slice F3 (wPar par num).length q3])) _
  simp only [Act.put, List.setIfInBounds_toArray, List.set_cons_zero, List.set_cons_succ]
  refine wpAnyH_ready (rs := [7, 8]) (by kernel_rfl) (by simp) ?_
  refine AllReadyH.cons (o := _) rfl (fun K hK => ?_) (AllReadyH.cons (o := _) rfl (fun K hK => ?_) AllReadyH.nil)
  · go_simp
    have al : Acts (wd.alloc (.cells #[.int .i64 5, .int .i32 b, .slice F3 (wPar par num).length q3] 44)) B (.slice (some ⟨wd.heap.size, 0, none⟩) 1 1) [⟨5, b, (wPar par num)⟩] := acts_onep 5 b i6 (Nat.le_trans hB HR.out.below.size)
    have r3 : ES w (⟨mo, u, (wPar par num), num, true, false⟩ : E) (.slice F3 (wPar par num).length q3) (wd.alloc (.cells #[.int .i64 5, .int .i32 b, .slice F3 (wPar par num).length q3] 44)) := HR.out.next ((Below.refl _ _).alloc (Nat.le_refl _) _)
    refine hK.out _ _ (by exact r3.box) (fun hH1 => ?_)
    clear hK K
    try simp only [Act.put, List.setIfInBounds_toArray, List.set_cons_zero, List.set_cons_succ]
    refine wpAnyH_ready (rs := [8]) (by kernel_rfl) (by simp) ?_
    refine AllReadyH.cons (o := _) rfl (fun K hK => ?_) AllReadyH.nil
    rw [if_pos (by rfl)]
    refine wp_storeEo r3.ans (x := .tmp 4) (y := .tmp 89) (e' := emode 0) (F := none) (f := 0) (q := 0) rfl rfl rfl ?_
    refine hK.out _ _ (by exact (setRow_other _ _ _ _ (by omega)).trans r3.box) (fun hH2 => ?_)
    clear hK K
    dsimp only [Act.put]
    refine wpAnyH_take (i := 9) (oi := _) (v := .slice (some ⟨wd.heap.size, 0, none⟩) 1 1) rfl (by kernel_rfl) (by kernel_rfl) (by kernel_rfl) (fun _ _ _ h => h) (Or.inl ⟨by rfl, ?_⟩) hH2 ?_
    · intro wv hSw
      try dsimp only at hSw
      go_simp
    change wpAnyH _ _ _ _ _ _ _ (Act.put _ (some 5) (.slice (some ⟨wd.heap.size, 0, none⟩) 1 1)) _
    simp only [Act.put, List.setIfInBounds_toArray, List.set_cons_zero, List.set_cons_succ]
    refine wpAnyH_done (by kernel_rfl) ?_ _
    clear hH0 hH1 hH2
    go_wp2_with fail
    obtain ⟨y0, y1, y2, y3, y4, y5, y6, y7, yf⟩ := esc_cells (EBox.setRow (e' := emode 0) (P' := .slice none 0 0) r3.ans)
    refine bodyPost_ret (v := .tuple #[escV (emode 0) (.slice none 0 0), .slice (some ⟨wd.heap.size, 0, none⟩) 1 1]) (by simp [results, Try.results35, go_sem, escV, y0, y1, y2, y3, y4, y5, y6, y7]) rfl ?_
    exact rnewB rfl al r3.ans r3.below
  · rw [if_pos (by rfl)]
    refine wp_storeEo HR.out.ans (x := .tmp 4) (y := .tmp 89) (e' := emode 0) (F := none) (f := 0) (q := 0) rfl rfl rfl ?_
    have s1 : EBox (wd.setRow (w.heap.size + 1) (escC (emode 0) (.slice none 0 0))) w.heap.size (⟨mo, u, (wPar par num), num, true, false⟩ : E) (.slice F3 (wPar par num).length q3) := (setRow_other _ _ _ _ (by omega)).trans HR.out.box
    have s2 : EBox (wd.setRow (w.heap.size + 1) (escC (emode 0) (.slice none 0 0))) (w.heap.size + 1) (emode 0) (.slice none 0 0) := EBox.setRow HR.out.ans
    have s3 := ints_box i6 HR.out.ans (escC (emode 0) (.slice none 0 0))
    have s4 : Below w.heap.size w (wd.setRow (w.heap.size + 1) (escC (emode 0) (.slice none 0 0))) := below_setRow HR.out.below (Nat.le_succ _) _
    have s5 : (wd.setRow (w.heap.size + 1) (escC (emode 0) (.slice none 0 0))).heap.size = wd.heap.size := by simp
    refine hK.out _ _ (by exact s1) (fun hH1 => ?_)
    clear hK K
    dsimp only [Act.put]
    generalize wd.setRow (w.heap.size + 1) (escC (emode 0) (.slice none 0 0)) = ws at *
    refine wpAnyH_ready (rs := [7]) (by kernel_rfl) (by simp) ?_
    refine AllReadyH.cons (o := _) rfl (fun K hK => ?_) AllReadyH.nil
    go_simp
    have al : Acts (ws.alloc (.cells #[.int .i64 5, .int .i32 b, .slice F3 (wPar par num).length q3] 44)) B (.slice (some ⟨ws.heap.size, 0, none⟩) 1 1) [⟨5, b, (wPar par num)⟩] := acts_onep 5 b s3 (Nat.le_trans hB s4.size)
    refine hK.out _ _ (by exact s1.alloc _) (fun hH2 => ?_)
    clear hK K
    try simp only [Act.put, List.setIfInBounds_toArray, List.set_cons_zero, List.set_cons_succ]
    refine wpAnyH_take (i := 9) (oi := _) (v := .slice (some ⟨ws.heap.size, 0, none⟩) 1 1) rfl (by kernel_rfl) (by kernel_rfl) (by kernel_rfl) (fun _ _ _ h => h) (Or.inl ⟨by rfl, ?_⟩) hH2 ?_
    · intro wv hSw
      try dsimp only at hSw
      go_simp
    change wpAnyH _ _ _ _ _ _ _ (Act.put _ (some 5) (.slice (some ⟨ws.heap.size, 0, none⟩) 1 1)) _
    simp only [Act.put, List.setIfInBounds_toArray, List.set_cons_zero, List.set_cons_succ]
    refine wpAnyH_done (by kernel_rfl) ?_ _
    clear hH0 hH1 hH2
    go_wp2_with fail
    have s6 := s2.lt
    obtain ⟨y0, y1, y2, y3, y4, y5, y6, y7, yf⟩ := esc_cells (s2)
    refine bodyPost_ret (v := .tuple #[escV (emode 0) (.slice none 0 0), .slice (some ⟨ws.heap.size, 0, none⟩) 1 1]) (by simp [results, Try.results35, go_sem, escV, s6, y0, y1, y2, y3, y4, y5, y6, y7]) rfl ?_
    exact ⟨_, _, _, _, rfl, ints_nil _ _, al, s4.alloc s4.size _⟩
set_option maxHeartbeats 4000000 in
theorem rfin_a_n (mo : Int) (u : U) (par : List Int) (num : Int) (hn : ¬ num = -1) (hl : par.length ≤ 1000) (b : Int) (h0 : 64 ≤ b) (h1 : b ≤ 126) (F : Option Addr) (q : Nat) (B : Nat) (w : World) (hp : Ints w B (.slice F par.length q) par) (hB : B ≤ w.heap.size) : Calls Try.prog 35 #[escV (⟨mo, u, par, num, false, false⟩ : E) (.slice F par.length q), .int .u8 b] w (RStepP B w (emode 0) [⟨4, b, (wPar par num)⟩]) := by
  have f0 : ¬ b = 59 := by omega
  have g0 : (b == 59) = false := beq_eq_false_iff_ne.2 f0
  have f1 : ¬ b = 63 := by omega
  have g1 : (b == 63) = false := beq_eq_false_iff_ne.2 f1
  have f2 : ¬ b = 27 := by omega
  have g2 : (b == 27) = false := beq_eq_false_iff_ne.2 f2
  have f3 : ¬ b = 24 := by omega
  have g3 : (b == 24) = false := beq_eq_false_iff_ne.2 f3
  have f4 : ¬ b = 26 := by omega
  have g4 : (b == 26) = false := beq_eq_false_iff_ne.2 f4
  have f5 : 48 ≤ b := by omega
  have f6 : ¬ b ≤ 57 := by omega
  have f7 : 32 ≤ b := by omega
  have f8 : ¬ b ≤ 63 := by omega
  have f9 : 64 ≤ b := by omega
  have f10 : b ≤ 126 := by omega
  have k2 : (num == -1) = false := beq_eq_false_iff_ne.2 hn
  have HS := Lib.hid (ES.start w (⟨mo, u, par, num, false, false⟩ : E) (.slice F par.length q))
  unfold escV
  go_enter Try.func35, Try.ntmps35
  go_upto_region 1 with fail
  refine wp_world (fun wq => ES w (⟨mo, u, par, num, false, false⟩ : E) (.slice F par.length q) wq) HS.out ?_
  clear HS
  intro w2 es
  obtain ⟨x0, x1, x2, x3, x4, x5, x6, x7, xf⟩ := esc_cells es.box
  dsimp only at x0 x1 x2 x3 x5 x6 x7
  go_upto_region 13 with (
    go_at_call 64
    refine (rtold_any F q par num B _ (by exact hp.below es.below (Nat.le_refl _)) (by exact Nat.le_trans hB es.below.size) hl).mono ?_
    rintro x w3 ⟨F3, q3, rfl, i3, b3⟩
    have es3 := es.next b3
    obtain ⟨z0, z1, z2, z3, z4, z5, z6, z7, zf⟩ := esc_cells es3.box)
  have i4 : Ints (w3.setCell ⟨w.heap.size, 4, none⟩ (.slice F3 (wPar par num).length q3)) B (.slice F3 (wPar par num).length q3) (wPar par num) := by
    rw [setCell_eq_setRow w3 w.heap.size 4 _ 32 (0, 0) _ es3.box]
    exact ints_box i3 es3.box _
  have HX : EBox (w3.setCell ⟨w.heap.size, 4, none⟩ (.slice F3 (wPar par num).length q3)) w.heap.size (⟨mo, u, (wPar par num), num, false, false⟩ : E) (.slice F3 (wPar par num).length q3) := (show Held _ _ 32 _ from es3.box).s4 _
  have HA : EBox (w3.setCell ⟨w.heap.size, 4, none⟩ (.slice F3 (wPar par num).length q3)) (w.heap.size + 1) E.zero nilV := (show Held _ _ 32 _ from es3.ans).far (by omega) _
  have HB := below_set (o := 4) es3.below (Nat.le_refl _) (.slice F3 (wPar par num).length q3)
  refine wp_world (fun wq => ES w (⟨mo, u, (wPar par num), num, false, false⟩ : E) (.slice F3 (wPar par num).length q3) wq ∧ Ints wq B (.slice F3 (wPar par num).length q3) (wPar par num)) ⟨⟨HX, HA, HB⟩, i4⟩ ?_
  clear HX HA HB x0 x1 x2 x3 x4 x5 x6 x7 xf z0 z1 z2 z3 z4 z5 z6 z7 zf es es3 i3 i4 b3
  rintro w5 ⟨es, i5⟩
  obtain ⟨x0, x1, x2, x3, x4, x5, x6, x7, xf⟩ := esc_cells es.box
  dsimp only at x6 x7
  clear x0 x1 x2 x3 x4 x5 xf
  have w1 : IntKind.i32.wrap b = b := IntWalk.i32_in _ (by omega)
  go_upto_region 18 with fail
  clear x6 x7
  have HR := Lib.hid es.drew
  clear es
  refine wp_region_held_drew (S := fun w' => EBox w' w.heap.size (⟨mo, u, (wPar par num), num, false, false⟩ : E) (.slice F3 (wPar par num).length q3)) (by kernel_rfl) (by exact HR.out.box) (fun hH0 => ?_)
  have i6 : Ints w5.drew B (.slice F3 (wPar par num).length q3) (wPar par num) := i5
  generalize w5.drew = wd at *
  refine wpAnyH_take (i := 0) (oi := _) (v := .agg #[.int .i64 0, .int .i64 0, .int .i64 0, .int .i64 0, .slice none 0 0, .int .i64 0, .bool false, .bool false]) rfl (by kernel_rfl) (by kernel_rfl) (by kernel_rfl) (fun _ _ _ h => h) (Or.inl ⟨by rfl, ?_⟩) hH0 ?_
  · intro wv hSw
    try dsimp only at hSw
    go_simp
  change wpAnyH _ _ _ _ _ _ _ (Act.put _ (some 89) (.agg #[.int .i64 0, .int .i64 0, .int .i64 0, .int .i64 0, .slice none 0 0, .int .i64 0, .bool false, .bool false])) _
  simp only [Act.put, List.setIfInBounds_toArray, List.set_cons_zero, List.set_cons_succ]
  refine wpAnyH_take (i := 1) (oi := _) (v := .int .i64 4) rfl (by kernel_rfl) (by kernel_rfl) (by kernel_rfl) (fun _ _ _ h => h) (Or.inl ⟨by rfl, ?_⟩) hH0 ?_
  · intro wv hSw
    try dsimp only at hSw
    go_simp
  change wpAnyH _ _ _ _ _ _ _ (Act.put _ (some 90) (.int .i64 4)) _
  simp only [Act.put, List.setIfInBounds_toArray, List.set_cons_zero, List.set_cons_succ]
  refine wpAnyH_take (i := 2) (oi := _) (v := .int .u8 b) rfl (by kernel_rfl) (by kernel_rfl) (by kernel_rfl) (fun _ _ _ h => h) (Or.inl ⟨by rfl, ?_⟩) hH0 ?_
  · intro wv hSw
    try dsimp only at hSw
    go_simp
  change wpAnyH _ _ _ _ _ _ _ (Act.put _ (some 91) (.int .u8 b)) _
  simp only [Act.put, List.setIfInBounds_toArray, List.set_cons_zero, List.set_cons_succ]
  refine wpAnyH_take (i := 3) (oi := _) (v := .int .i32 b) rfl (by kernel_rfl) (by kernel_rfl) (by kernel_rfl) (fun _ _ _ h => h) (Or.inl ⟨by rfl, ?_⟩) hH0 ?_
  · intro wv hSw
    try dsimp only at hSw
    go_simp
  change wpAnyH _ _ _ _ _ _ _ (Act.put _ (some 92) (.int .i32 b)) _
  simp only [Act.put, List.setIfInBounds_toArray, List.set_cons_zero, List.set_cons_succ]
  refine wpAnyH_take (i := 4) (oi := _) (v := .pointer (some ⟨w.heap.size, 4, none⟩)) rfl (by kernel_rfl) (by kernel_rfl) (by kernel_rfl) (fun _ _ _ h => h) (Or.inl ⟨by rfl, ?_⟩) hH0 ?_
  · intro wv hSw
    try dsimp only at hSw
    go_simp
  change wpAnyH _ _ _ _ _ _ _ (Act.put _ (some 93) (.pointer (some ⟨w.heap.size, 4, none⟩))) _
  simp only [Act.put, List.setIfInBounds_toArray, List.set_cons_zero, List.set_cons_succ]
  refine wpAnyH_take (i := 5) (oi := _) (v := (.slice F3 (wPar par num).length q3)) rfl (by kernel_rfl) (by kernel_rfl) (by kernel_rfl) (fun _ _ _ h => h) (Or.inl ⟨by rfl, ?_⟩) hH0 ?_
  · intro wv hSw
    have c4 : wv.cell? ⟨w.heap.size, 4, none⟩ = some (.slice F3 (wPar par num).length q3) := (Held.cell hSw 4).trans rfl
    go_simp
  change wpAnyH _ _ _ _ _ _ _ (Act.put _ (some 94) (.slice F3 (wPar par num).length q3)) _
  simp only [Act.put, List.setIfInBounds_toArray, List.set_cons_zero, List.set_cons_succ]
  refine wpAnyH_take (i := 6) (oi := _) (v := .agg #[.int .i64 4, .int .i32 b, .slice F3 (wPar par num).length q3]) rfl (by kernel_rfl) (by kernel_rfl) (by kernel_rfl) (fun _ _ _ h => h) (Or.inl ⟨by rfl, ?_⟩) hH0 ?_
  · intro wv hSw
    try dsimp only at hSw
    go_simp
  change wpAnyH _ _ _ _ _ _ _ (Act.put _ (some 95) (.agg #[.int .i64 4, .int .i32 b, .slice F3 (wPar par num).length q3])) _
  simp only [Act.put, List.setIfInBounds_toArray, List.set_cons_zero, List.set_cons_succ]
  refine wpAnyH_ready (rs := [7, 8]) (by kernel_rfl) (by simp) ?_
  refine AllReadyH.cons (o := _) rfl (fun K hK => ?_) (AllReadyH.cons (o := _) rfl (fun K hK => ?_) AllReadyH.nil)
  · go_simp
    have al : Acts (wd.alloc (.cells #[.int .i64 4, .int .i32 b, .slice F3 (wPar par num).length q3] 44)) B (.slice (some ⟨wd.heap.size, 0, none⟩) 1 1) [⟨4, b, (wPar par num)⟩] := acts_onep 4 b i6 (Nat.le_trans hB HR.out.below.size)
    have r3 : ES w (⟨mo, u, (wPar par num), num, false, false⟩ : E) (.slice F3 (wPar par num).length q3) (wd.alloc (.cells #[.int .i64 4, .int .i32 b, .slice F3 (wPar par num).length q3] 44)) := HR.out.next ((Below.refl _ _).alloc (Nat.le_refl _) _)
    refine hK.out _ _ (by exact r3.box) (fun hH1 => ?_)
    clear hK K
    try simp only [Act.put, List.setIfInBounds_toArray, List.set_cons_zero, List.set_cons_succ]
    refine wpAnyH_ready (rs := [8]) (by kernel_rfl) (by simp) ?_
    refine AllReadyH.cons (o := _) rfl (fun K hK => ?_) AllReadyH.nil
    rw [if_pos (by rfl)]
    refine wp_storeEo r3.ans (x := .tmp 4) (y := .tmp 89) (e' := emode 0) (F := none) (f := 0) (q := 0) rfl rfl rfl ?_
    refine hK.out _ _ (by exact (setRow_other _ _ _ _ (by omega)).trans r3.box) (fun hH2 => ?_)
    clear hK K
    dsimp only [Act.put]
    refine wpAnyH_take (i := 9) (oi := _) (v := .slice (some ⟨wd.heap.size, 0, none⟩) 1 1) rfl (by kernel_rfl) (by kernel_rfl) (by kernel_rfl) (fun _ _ _ h => h) (Or.inl ⟨by rfl, ?_⟩) hH2 ?_
    · intro wv hSw
      try dsimp only at hSw
      go_simp
    change wpAnyH _ _ _ _ _ _ _ (Act.put _ (some 5) (.slice (some ⟨wd.heap.size, 0, none⟩) 1 1)) _
    simp only [Act.put, List.setIfInBounds_toArray, List.set_cons_zero, List.set_cons_succ]
    refine wpAnyH_done (by kernel_rfl) ?_ _
    clear hH0 hH1 hH2
    go_wp2_with fail
    obtain ⟨y0, y1, y2, y3, y4, y5, y6, y7, yf⟩ := esc_cells (EBox.setRow (e' := emode 0) (P' := .slice none 0 0) r3.ans)
    refine bodyPost_ret (v := .tuple #[escV (emode 0) (.slice none 0 0), .slice (some ⟨wd.heap.size, 0, none⟩) 1 1]) (by simp [results, Try.results35, go_sem, escV, y0, y1, y2, y3, y4, y5, y6, y7]) rfl ?_
    exact rnewB rfl al r3.ans r3.below
  · rw [if_pos (by rfl)]
    refine wp_storeEo HR.out.ans (x := .tmp 4) (y := .tmp 89) (e' := emode 0) (F := none) (f := 0) (q := 0) rfl rfl rfl ?_
    have s1 : EBox (wd.setRow (w.heap.size + 1) (escC (emode 0) (.slice none 0 0))) w.heap.size (⟨mo, u, (wPar par num), num, false, false⟩ : E) (.slice F3 (wPar par num).length q3) := (setRow_other _ _ _ _ (by omega)).trans HR.out.box
    have s2 : EBox (wd.setRow (w.heap.size + 1) (escC (emode 0) (.slice none 0 0))) (w.heap.size + 1) (emode 0) (.slice none 0 0) := EBox.setRow HR.out.ans
    have s3 := ints_box i6 HR.out.ans (escC (emode 0) (.slice none 0 0))
    have s4 : Below w.heap.size w (wd.setRow (w.heap.size + 1) (escC (emode 0) (.slice none 0 0))) := below_setRow HR.out.below (Nat.le_succ _) _
    have s5 : (wd.setRow (w.heap.size + 1) (escC (emode 0) (.slice none 0 0))).heap.size = wd.heap.size := by simp
    refine hK.out _ _ (by exact s1) (fun hH1 => ?_)
    clear hK K
    dsimp only [Act.put]
    generalize wd.setRow (w.heap.size + 1) (escC (emode 0) (.slice none 0 0)) = ws at *
    refine wpAnyH_ready (rs := [7]) (by kernel_rfl) (by simp) ?_
    refine AllReadyH.cons (o := _) rfl (fun K hK => ?_) AllReadyH.nil
    go_simp
    have al : Acts (ws.alloc (.cells #[.int .i64 4, .int .i32 b, .slice F3 (wPar par num).length q3] 44)) B (.slice (some ⟨ws.heap.size, 0, none⟩) 1 1) [⟨4, b, (wPar par num)⟩] := acts_onep 4 b s3 (Nat.le_trans hB s4.size)
    refine hK.out _ _ (by exact s1.alloc _) (fun hH2 => ?_)
    clear hK K
    try simp only [Act.put, List.setIfInBounds_toArray, List.set_cons_zero, List.set_cons_succ]
    refine wpAnyH_take (i := 9) (oi := _) (v := .slice (some ⟨ws.heap.size, 0, none⟩) 1 1) rfl (by kernel_rfl) (by kernel_rfl) (by kernel_rfl) (fun _ _ _ h => h) (Or.inl ⟨by rfl, ?_⟩) hH2 ?_
    · intro wv hSw
      try dsimp only at hSw
      go_simp
    change wpAnyH _ _ _ _ _ _ _ (Act.put _ (some 5) (.slice (some ⟨ws.heap.size, 0, none⟩) 1 1)) _
    simp only [Act.put, List.setIfInBounds_toArray, List.set_cons_zero, List.set_cons_succ]
    refine wpAnyH_done (by kernel_rfl) ?_ _
    clear hH0 hH1 hH2
    go_wp2_with fail
    have s6 := s2.lt
    obtain ⟨y0, y1, y2, y3, y4, y5, y6, y7, yf⟩ := esc_cells (s2)
    refine bodyPost_ret (v := .tuple #[escV (emode 0) (.slice none 0 0), .slice (some ⟨ws.heap.size, 0, none⟩) 1 1]) (by simp [results, Try.results35, go_sem, escV, s6, y0, y1, y2, y3, y4, y5, y6, y7]) rfl ?_
    exact ⟨_, _, _, _, rfl, ints_nil _ _, al, s4.alloc s4.size _⟩
set_option maxHeartbeats 4000000 in
theorem rfin_b_s (mo : Int) (u : U) (par : List Int) (hf : 0 < par.length) (hl : par.length ≤ 1000) (pr : Bool) (b : Int) (h0 : 64 ≤ b) (h1 : b ≤ 126) (F : Option Addr) (q : Nat) (B : Nat) (w : World) (hp : Ints w B (.slice F par.length q) par) (hB : B ≤ w.heap.size) : Calls Try.prog 35 #[escV (⟨mo, u, par, (-1), pr, true⟩ : E) (.slice F par.length q), .int .u8 b] w (RStepP B w (emode 0) []) := by
  have f0 : ¬ b = 59 := by omega
  have g0 : (b == 59) = false := beq_eq_false_iff_ne.2 f0
  have f1 : ¬ b = 63 := by omega
  have g1 : (b == 63) = false := beq_eq_false_iff_ne.2 f1
  have f2 : ¬ b = 27 := by omega
  have g2 : (b == 27) = false := beq_eq_false_iff_ne.2 f2
  have f3 : ¬ b = 24 := by omega
  have g3 : (b == 24) = false := beq_eq_false_iff_ne.2 f3
  have f4 : ¬ b = 26 := by omega
  have g4 : (b == 26) = false := beq_eq_false_iff_ne.2 f4
  have f5 : 48 ≤ b := by omega
  have f6 : ¬ b ≤ 57 := by omega
  have f7 : 32 ≤ b := by omega
  have f8 : ¬ b ≤ 63 := by omega
  have f9 : 64 ≤ b := by omega
  have f10 : b ≤ 126 := by omega
  have k1 : (0 : Int) < (par.length : Int) := by omega
  have HS := Lib.hid (ES.start w (⟨mo, u, par, (-1), pr, true⟩ : E) (.slice F par.length q))
  unfold escV
  go_enter Try.func35, Try.ntmps35
  go_upto_region 1 with fail
  refine wp_world (fun wq => ES w (⟨mo, u, par, (-1), pr, true⟩ : E) (.slice F par.length q) wq) HS.out ?_
  clear HS
  intro w2 es
  obtain ⟨x0, x1, x2, x3, x4, x5, x6, x7, xf⟩ := esc_cells es.box
  dsimp only at x0 x1 x2 x3 x5 x6 x7
  go_upto_region 13 with (
    go_at_call 64
    refine (rtold_any F q par (-1) B _ (by exact hp.below es.below (Nat.le_refl _)) (by exact Nat.le_trans hB es.below.size) hl).mono ?_
    rintro x w3 ⟨F3, q3, rfl, i3, b3⟩
    have es3 := es.next b3
    obtain ⟨z0, z1, z2, z3, z4, z5, z6, z7, zf⟩ := esc_cells es3.box)
  have i4 : Ints (w3.setCell ⟨w.heap.size, 4, none⟩ (.slice F3 (wPar par (-1)).length q3)) B (.slice F3 (wPar par (-1)).length q3) (wPar par (-1)) := by
    rw [setCell_eq_setRow w3 w.heap.size 4 _ 32 (0, 0) _ es3.box]
    exact ints_box i3 es3.box _
  have HX : EBox (w3.setCell ⟨w.heap.size, 4, none⟩ (.slice F3 (wPar par (-1)).length q3)) w.heap.size (⟨mo, u, (wPar par (-1)), (-1), pr, true⟩ : E) (.slice F3 (wPar par (-1)).length q3) := (show Held _ _ 32 _ from es3.box).s4 _
  have HA : EBox (w3.setCell ⟨w.heap.size, 4, none⟩ (.slice F3 (wPar par (-1)).length q3)) (w.heap.size + 1) E.zero nilV := (show Held _ _ 32 _ from es3.ans).far (by omega) _
  have HB := below_set (o := 4) es3.below (Nat.le_refl _) (.slice F3 (wPar par (-1)).length q3)
  refine wp_world (fun wq => ES w (⟨mo, u, (wPar par (-1)), (-1), pr, true⟩ : E) (.slice F3 (wPar par (-1)).length q3) wq ∧ Ints wq B (.slice F3 (wPar par (-1)).length q3) (wPar par (-1))) ⟨⟨HX, HA, HB⟩, i4⟩ ?_
  clear HX HA HB x0 x1 x2 x3 x4 x5 x6 x7 xf z0 z1 z2 z3 z4 z5 z6 z7 zf es es3 i3 i4 b3
  rintro w5 ⟨es, i5⟩
  obtain ⟨x0, x1, x2, x3, x4, x5, x6, x7, xf⟩ := esc_cells es.box
  dsimp only at x7
  clear x0 x1 x2 x3 x4 x5 x6 xf
  have xa := es.ans
  go_wp2_with (
    (with_reducible refine wpList_storeEo xa (x := .tmp 4) (y := .tmp 86) (e' := emode 0) (F := none) (f := 0) (q := 0) ?_ ?_ ?_ ?_ ?_
     · with_reducible rfl
     · rfl
     · rfl
     · rfl))
  obtain ⟨y0, y1, y2, y3, y4, y5, y6, y7, yf⟩ := esc_cells (EBox.setRow (e' := (emode 0)) (P' := .slice none 0 0) xa)
  refine bodyPost_ret (v := .tuple #[escV (emode 0) (.slice none 0 0), .slice none 0 0]) (by simp [results, Try.results35, go_sem, escV, y0, y1, y2, y3, y4, y5, y6, y7]) rfl ?_
  exact rnew rfl hB (acts_nil _ _) es.below
set_option maxHeartbeats 4000000 in
theorem rfin_b_p (mo : Int) (u : U) (par : List Int) (hf : 0 < par.length) (hl : par.length ≤ 1000) (b : Int) (h0 : 64 ≤ b) (h1 : b ≤ 126) (F : Option Addr) (q : Nat) (B : Nat) (w : World) (hp : Ints w B (.slice F par.length q) par) (hB : B ≤ w.heap.size) : Calls Try.prog 35 #[escV (⟨mo, u, par, (-1), true, false⟩ : E) (.slice F par.length q), .int .u8 b] w (RStepP B w (emode 0) [⟨5, b, (wPar par (-1))⟩]) := by
  have f0 : ¬ b = 59 := by omega
  have g0 : (b == 59) = false := beq_eq_false_iff_ne.2 f0
  have f1 : ¬ b = 63 := by omega
  have g1 : (b == 63) = false := beq_eq_false_iff_ne.2 f1
  have f2 : ¬ b = 27 := by omega
  have g2 : (b == 27) = false := beq_eq_false_iff_ne.2 f2
  have f3 : ¬ b = 24 := by omega
  have g3 : (b == 24) = false := beq_eq_false_iff_ne.2 f3
  have f4 : ¬ b = 26 := by omega
  have g4 : (b == 26) = false := beq_eq_false_iff_ne.2 f4
  have f5 : 48 ≤ b := by omega
  have f6 : ¬ b ≤ 57 := by omega
  have f7 : 32 ≤ b := by omega
  have f8 : ¬ b ≤ 63 := by omega
  have f9 : 64 ≤ b := by omega
  have f10 : b ≤ 126 := by omega
  have k1 : (0 : Int) < (par.length : Int) := by omega
  have HS := Lib.hid (ES.start w (⟨mo, u, par, (-1), true, false⟩ : E) (.slice F par.length q))
  unfold escV
  go_enter Try.func35, Try.ntmps35
  go_upto_region 1 with fail
  refine wp_world (fun wq => ES w (⟨mo, u, par, (-1), true, false⟩ : E) (.slice F par.length q) wq) HS.out ?_
  clear HS
  intro w2 es
  obtain ⟨x0, x1, x2, x3, x4, x5, x6, x7, xf⟩ := esc_cells es.box
  dsimp only at x0 x1 x2 x3 x5 x6 x7
  go_upto_region 13 with (
    go_at_call 64
    refine (rtold_any F q par (-1) B _ (by exact hp.below es.below (Nat.le_refl _)) (by exact Nat.le_trans hB es.below.size) hl).mono ?_
    rintro x w3 ⟨F3, q3, rfl, i3, b3⟩
    have es3 := es.next b3
    obtain ⟨z0, z1, z2, z3, z4, z5, z6, z7, zf⟩ := esc_cells es3.box)
  have i4 : Ints (w3.setCell ⟨w.heap.size, 4, none⟩ (.slice F3 (wPar par (-1)).length q3)) B (.slice F3 (wPar par (-1)).length q3) (wPar par (-1)) := by
    rw [setCell_eq_setRow w3 w.heap.size 4 _ 32 (0, 0) _ es3.box]
    exact ints_box i3 es3.box _
  have HX : EBox (w3.setCell ⟨w.heap.size, 4, none⟩ (.slice F3 (wPar par (-1)).length q3)) w.heap.size (⟨mo, u, (wPar par (-1)), (-1), true, false⟩ : E) (.slice F3 (wPar par (-1)).length q3) := (show Held _ _ 32 _ from es3.box).s4 _
  have HA : EBox (w3.setCell ⟨w.heap.size, 4, none⟩ (.slice F3 (wPar par (-1)).length q3)) (w.heap.size + 1) E.zero nilV := (show Held _ _ 32 _ from es3.ans).far (by omega) _
  have HB := below_set (o := 4) es3.below (Nat.le_refl _) (.slice F3 (wPar par (-1)).length q3)
  refine wp_world (fun wq => ES w (⟨mo, u, (wPar par (-1)), (-1), true, false⟩ : E) (.slice F3 (wPar par (-1)).length q3) wq ∧ Ints wq B (.slice F3 (wPar par (-1)).length q3) (wPar par (-1))) ⟨⟨HX, HA, HB⟩, i4⟩ ?_
  clear HX HA HB x0 x1 x2 x3 x4 x5 x6 x7 xf z0 z1 z2 z3 z4 z5 z6 z7 zf es es3 i3 i4 b3
  rintro w5 ⟨es, i5⟩
  obtain ⟨x0, x1, x2, x3, x4, x5, x6, x7, xf⟩ := esc_cells es.box
  dsimp only at x6 x7
  clear x0 x1 x2 x3 x4 x5 xf
  have w1 : IntKind.i32.wrap b = b := IntWalk.i32_in _ (by omega)
  go_upto_region 18 with fail
  clear x6 x7
  have HR := Lib.hid es.drew
  clear es
  refine wp_region_held_drew (S := fun w' => EBox w' w.heap.size (⟨mo, u, (wPar par (-1)), (-1), true, false⟩ : E) (.slice F3 (wPar par (-1)).length q3)) (by kernel_rfl) (by exact HR.out.box) (fun hH0 => ?_)
  have i6 : Ints w5.drew B (.slice F3 (wPar par (-1)).length q3) (wPar par (-1)) := i5
  generalize w5.drew = wd at *
  refine wpAnyH_take (i := 0) (oi := _) (v := .agg #[.int .i64 0, .int .i64 0, .int .i64 0, .int .i64 0, .slice none 0 0, .int .i64 0, .bool false, .bool false]) rfl (by kernel_rfl) (by kernel_rfl) (by kernel_rfl) (fun _ _ _ h => h) (Or.inl ⟨by rfl, ?_⟩) hH0 ?_
  · intro wv hSw
    try dsimp only at hSw
    go_simp
  change wpAnyH _ _ _ _ _ _ _ (Act.put _ (some 89) (.agg #[.int .i64 0, .int .i64 0, .int .i64 0, .int .i64 0, .slice none 0 0, .int .i64 0, .bool false, .bool false])) _
  simp only [Act.put, List.setIfInBounds_toArray, List.set_cons_zero, List.set_cons_succ]
  refine wpAnyH_take (i := 1) (oi := _) (v := .int .i64 5) rfl (by kernel_rfl) (by kernel_rfl) (by kernel_rfl) (fun _ _ _ h => h) (Or.inl ⟨by rfl, ?_⟩) hH0 ?_
  · intro wv hSw
    try dsimp only at hSw
    go_simp
  change wpAnyH _ _ _ _ _ _ _ (Act.put _ (some 90) (.int .i64 5)) _
  simp only [Act.put, List.setIfInBounds_toArray, List.set_cons_zero, List.set_cons_succ]
  refine wpAnyH_take (i := 2) (oi := _) (v := .int .u8 b) rfl (by kernel_rfl) (by kernel_rfl) (by kernel_rfl) (fun _ _ _ h => h) (Or.inl ⟨by rfl, ?_⟩) hH0 ?_
  · intro wv hSw
    try dsimp only at hSw
    go_simp
  change wpAnyH _ _ _ _ _ _ _ (Act.put _ (some 91) (.int .u8 b)) _
  simp only [Act.put, List.setIfInBounds_toArray, List.set_cons_zero, List.set_cons_succ]
  refine wpAnyH_take (i := 3) (oi := _) (v := .int .i32 b) rfl (by kernel_rfl) (by kernel_rfl) (by kernel_rfl) (fun _ _ _ h => h) (Or.inl ⟨by rfl, ?_⟩) hH0 ?_
  · intro wv hSw
    try dsimp only at hSw
    go_simp
  change wpAnyH _ _ _ _ _ _ _ (Act.put _ (some 92) (.int .i32 b)) _
  simp only [Act.put, List.setIfInBounds_toArray, List.set_cons_zero, List.set_cons_succ]
  refine wpAnyH_take (i := 4) (oi := _) (v := .pointer (some ⟨w.heap.size, 4, none⟩)) rfl (by kernel_rfl) (by kernel_rfl) (by kernel_rfl) (fun _ _ _ h => h) (Or.inl ⟨by rfl, ?_⟩) hH0 ?_
  · intro wv hSw
    try dsimp only at hSw
    go_simp
  change wpAnyH _ _ _ _ _ _ _ (Act.put _ (some 93) (.pointer (some ⟨w.heap.size, 4, none⟩))) _
  simp only [Act.put, List.setIfInBounds_toArray, List.set_cons_zero, List.set_cons_succ]
  refine wpAnyH_take (i := 5) (oi := _) (v := (.slice F3 (wPar par (-1)).length q3)) rfl (by kernel_rfl) (by kernel_rfl) (by kernel_rfl) (fun _ _ _ h => h) (Or.inl ⟨by rfl, ?_⟩) hH0 ?_
  · intro wv hSw
    have c4 : wv.cell? ⟨w.heap.size, 4, none⟩ = some (.slice F3 (wPar par (-1)).length q3) := (Held.cell hSw 4).trans rfl
    go_simp
  change wpAnyH _ _ _ _ _ _ _ (Act.put _ (some 94) (.slice F3 (wPar par (-1)).length q3)) _
  simp only [Act.put, List.setIfInBounds_toArray, List.set_cons_zero, List.set_cons_succ]
  refine wpAnyH_take (i := 6) (oi := _) (v := .agg #[.int .i64 5, .int .i32 b, .slice F3 (wPar par (-1)).length q3]) rfl (by kernel_rfl) (by kernel_rfl) (by kernel_rfl) (fun _ _ _ h => h) (Or.inl ⟨by rfl, ?_⟩) hH0 ?_
  · intro wv hSw
    try dsimp only at hSw
    go_simp
  change wpAnyH _ _ _ _ _ _ _ (Act.put _ (some 95) (.agg #[.int .i64 5, .int .i32 b, .slice F3 (wPar par (-1)).length q3])) _
  simp only [Act.put, List.setIfInBounds_toArray, List.set_cons_zero, List.set_cons_succ]
  refine wpAnyH_ready (rs := [7, 8]) (by kernel_rfl) (by simp) ?_
  refine AllReadyH.cons (o := _) rfl (fun K hK => ?_) (AllReadyH.cons (o := _) rfl (fun K hK => ?_) AllReadyH.nil)
  · go_simp
    have al : Acts (wd.alloc (.cells #[.int .i64 5, .int .i32 b, .slice F3 (wPar par (-1)).length q3] 44)) B (.slice (some ⟨wd.heap.size, 0, none⟩) 1 1) [⟨5, b, (wPar par (-1))⟩] := acts_onep 5 b i6 (Nat.le_trans hB HR.out.below.size)
    have r3 : ES w (⟨mo, u, (wPar par (-1)), (-1), true, false⟩ : E) (.slice F3 (wPar par (-1)).length q3) (wd.alloc (.cells #[.int .i64 5, .int .i32 b, .slice F3 (wPar par (-1)).length q3] 44)) := HR.out.next ((Below.refl _ _).alloc (Nat.le_refl _) _)
    refine hK.out _ _ (by exact r3.box) (fun hH1 => ?_)
    clear hK K
    try simp only [Act.put, List.setIfInBounds_toArray, List.set_cons_zero, List.set_cons_succ]
    refine wpAnyH_ready (rs := [8]) (by kernel_rfl) (by simp) ?_
    refine AllReadyH.cons (o := _) rfl (fun K hK => ?_) AllReadyH.nil
    rw [if_pos (by rfl)]
    refine wp_storeEo r3.ans (x := .tmp 4) (y := .tmp 89) (e' := emode 0) (F := none) (f := 0) (q := 0) rfl rfl rfl ?_
    refine hK.out _ _ (by exact (setRow_other _ _ _ _ (by omega)).trans r3.box) (fun hH2 => ?_)
    clear hK K
    dsimp only [Act.put]
    refine wpAnyH_take (i := 9) (oi := _) (v := .slice (some ⟨wd.heap.size, 0, none⟩) 1 1) rfl (by kernel_rfl) (by kernel_rfl) (by kernel_rfl) (fun _ _ _ h => h) (Or.inl ⟨by rfl, ?_⟩) hH2 ?_
    · intro wv hSw
      try dsimp only at hSw
      go_simp
    change wpAnyH _ _ _ _ _ _ _ (Act.put _ (some 5) (.slice (some ⟨wd.heap.size, 0, none⟩) 1 1)) _
    simp only [Act.put, List.setIfInBounds_toArray, List.set_cons_zero, List.set_cons_succ]
    refine wpAnyH_done (by kernel_rfl) ?_ _
    clear hH0 hH1 hH2
    go_wp2_with fail
    obtain ⟨y0, y1, y2, y3, y4, y5, y6, y7, yf⟩ := esc_cells (EBox.setRow (e' := emode 0) (P' := .slice none 0 0) r3.ans)
    refine bodyPost_ret (v := .tuple #[escV (emode 0) (.slice none 0 0), .slice (some ⟨wd.heap.size, 0, none⟩) 1 1]) (by simp [results, Try.results35, go_sem, escV, y0, y1, y2, y3, y4, y5, y6, y7]) rfl ?_
    exact rnewB rfl al r3.ans r3.below
  · rw [if_pos (by rfl)]
    refine wp_storeEo HR.out.ans (x := .tmp 4) (y := .tmp 89) (e' := emode 0) (F := none) (f := 0) (q := 0) rfl rfl rfl ?_
    have s1 : EBox (wd.setRow (w.heap.size + 1) (escC (emode 0) (.slice none 0 0))) w.heap.size (⟨mo, u, (wPar par (-1)), (-1), true, false⟩ : E) (.slice F3 (wPar par (-1)).length q3) := (setRow_other _ _ _ _ (by omega)).trans HR.out.box
    have s2 : EBox (wd.setRow (w.heap.size + 1) (escC (emode 0) (.slice none 0 0))) (w.heap.size + 1) (emode 0) (.slice none 0 0) := EBox.setRow HR.out.ans
    have s3 := ints_box i6 HR.out.ans (escC (emode 0) (.slice none 0 0))
    have s4 : Below w.heap.size w (wd.setRow (w.heap.size + 1) (escC (emode 0) (.slice none 0 0))) := below_setRow HR.out.below (Nat.le_succ _) _
    have s5 : (wd.setRow (w.heap.size + 1) (escC (emode 0) (.slice none 0 0))).heap.size = wd.heap.size := by simp
    refine hK.out _ _ (by exact s1) (fun hH1 => ?_)
    clear hK K
    dsimp only [Act.put]
    generalize wd.setRow (w.heap.size + 1) (escC (emode 0) (.slice none 0 0)) = ws at *
    refine wpAnyH_ready (rs := [7]) (by kernel_rfl) (by simp) ?_
    refine AllReadyH.cons (o := _) rfl (fun K hK => ?_) AllReadyH.nil
    go_simp
    have al : Acts (ws.alloc (.cells #[.int .i64 5, .int .i32 b, .slice F3 (wPar par (-1)).length q3] 44)) B (.slice (some ⟨ws.heap.size, 0, none⟩) 1 1) [⟨5, b, (wPar par (-1))⟩] := acts_onep 5 b s3 (Nat.le_trans hB s4.size)
    refine hK.out _ _ (by exact s1.alloc _) (fun hH2 => ?_)
    clear hK K
    try simp only [Act.put, List.setIfInBounds_toArray, List.set_cons_zero, List.set_cons_succ]
    refine wpAnyH_take (i := 9) (oi := _) (v := .slice (some ⟨ws.heap.size, 0, none⟩) 1 1) rfl (by kernel_rfl) (by kernel_rfl) (by kernel_rfl) (fun _ _ _ h => h) (Or.inl ⟨by rfl, ?_⟩) hH2 ?_
    · intro wv hSw
      try dsimp only at hSw
      go_simp
    change wpAnyH _ _ _ _ _ _ _ (Act.put _ (some 5) (.slice (some ⟨ws.heap.size, 0, none⟩) 1 1)) _
    simp only [Act.put, List.setIfInBounds_toArray, List.set_cons_zero, List.set_cons_succ]
    refine wpAnyH_done (by kernel_rfl) ?_ _
    clear hH0 hH1 hH2
    go_wp2_with fail
    have s6 := s2.lt
    obtain ⟨y0, y1, y2, y3, y4, y5, y6, y7, yf⟩ := esc_cells (s2)
    refine bodyPost_ret (v := .tuple #[escV (emode 0) (.slice none 0 0), .slice (some ⟨ws.heap.size, 0, none⟩) 1 1]) (by simp [results, Try.results35, go_sem, escV, s6, y0, y1, y2, y3, y4, y5, y6, y7]) rfl ?_
    exact ⟨_, _, _, _, rfl, ints_nil _ _, al, s4.alloc s4.size _⟩
set_option maxHeartbeats 4000000 in
theorem rfin_b_n (mo : Int) (u : U) (par : List Int) (hf : 0 < par.length) (hl : par.length ≤ 1000) (b : Int) (h0 : 64 ≤ b) (h1 : b ≤ 126) (F : Option Addr) (q : Nat) (B : Nat) (w : World) (hp : Ints w B (.slice F par.length q) par) (hB : B ≤ w.heap.size) : Calls Try.prog 35 #[escV (⟨mo, u, par, (-1), false, false⟩ : E) (.slice F par.length q), .int .u8 b] w (RStepP B w (emode 0) [⟨4, b, (wPar par (-1))⟩]) := by
  have f0 : ¬ b = 59 := by omega
  have g0 : (b == 59) = false := beq_eq_false_iff_ne.2 f0
  have f1 : ¬ b = 63 := by omega
  have g1 : (b == 63) = false := beq_eq_false_iff_ne.2 f1
  have f2 : ¬ b = 27 := by omega
  have g2 : (b == 27) = false := beq_eq_false_iff_ne.2 f2
  have f3 : ¬ b = 24 := by omega
  have g3 : (b == 24) = false := beq_eq_false_iff_ne.2 f3
  have f4 : ¬ b = 26 := by omega
  have g4 : (b == 26) = false := beq_eq_false_iff_ne.2 f4
  have f5 : 48 ≤ b := by omega
  have f6 : ¬ b ≤ 57 := by omega
  have f7 : 32 ≤ b := by omega
  have f8 : ¬ b ≤ 63 := by omega
  have f9 : 64 ≤ b := by omega
  have f10 : b ≤ 126 := by omega
  have k1 : (0 : Int) < (par.length : Int) := by omega
  have HS := Lib.hid (ES.start w (⟨mo, u, par, (-1), false, false⟩ : E) (.slice F par.length q))
  unfold escV
  go_enter Try.func35, Try.ntmps35
  go_upto_region 1 with fail
  refine wp_world (fun wq => ES w (⟨mo, u, par, (-1), false, false⟩ : E) (.slice F par.length q) wq) HS.out ?_
  clear HS
  intro w2 es
  obtain ⟨x0, x1, x2, x3, x4, x5, x6, x7, xf⟩ := esc_cells es.box
  dsimp only at x0 x1 x2 x3 x5 x6 x7
  go_upto_region 13 with (
    go_at_call 64
    refine (rtold_any F q par (-1) B _ (by exact hp.below es.below (Nat.le_refl _)) (by exact Nat.le_trans hB es.below.size) hl).mono ?_
    rintro x w3 ⟨F3, q3, rfl, i3, b3⟩
    have es3 := es.next b3
    obtain ⟨z0, z1, z2, z3, z4, z5, z6, z7, zf⟩ := esc_cells es3.box)
  have i4 : Ints (w3.setCell ⟨w.heap.size, 4, none⟩ (.slice F3 (wPar par (-1)).length q3)) B (.slice F3 (wPar par (-1)).length q3) (wPar par (-1)) := by
    rw [setCell_eq_setRow w3 w.heap.size 4 _ 32 (0, 0) _ es3.box]
    exact ints_box i3 es3.box _
  have HX : EBox (w3.setCell ⟨w.heap.size, 4, none⟩ (.slice F3 (wPar par (-1)).length q3)) w.heap.size (⟨mo, u, (wPar par (-1)), (-1), false, false⟩ : E) (.slice F3 (wPar par (-1)).length q3) := (show Held _ _ 32 _ from es3.box).s4 _
  have HA : EBox (w3.setCell ⟨w.heap.size, 4, none⟩ (.slice F3 (wPar par (-1)).length q3)) (w.heap.size + 1) E.zero nilV := (show Held _ _ 32 _ from es3.ans).far (by omega) _
  have HB := below_set (o := 4) es3.below (Nat.le_refl _) (.slice F3 (wPar par (-1)).length q3)
  refine wp_world (fun wq => ES w (⟨mo, u, (wPar par (-1)), (-1), false, false⟩ : E) (.slice F3 (wPar par (-1)).length q3) wq ∧ Ints wq B (.slice F3 (wPar par (-1)).length q3) (wPar par (-1))) ⟨⟨HX, HA, HB⟩, i4⟩ ?_
  clear HX HA HB x0 x1 x2 x3 x4 x5 x6 x7 xf z0 z1 z2 z3 z4 z5 z6 z7 zf es es3 i3 i4 b3
  rintro w5 ⟨es, i5⟩
  obtain ⟨x0, x1, x2, x3, x4, x5, x6, x7, xf⟩ := esc_cells es.box
  dsimp only at x6 x7
  clear x0 x1 x2 x3 x4 x5 xf
  have w1 : IntKind.i32.wrap b = b := IntWalk.i32_in _ (by omega)
  go_upto_region 18 with fail
  clear x6 x7
  have HR := Lib.hid es.drew
  clear es
  refine wp_region_held_drew (S := fun w' => EBox w' w.heap.size (⟨mo, u, (wPar par (-1)), (-1), false, false⟩ : E) (.slice F3 (wPar par (-1)).length q3)) (by kernel_rfl) (by exact HR.out.box) (fun hH0 => ?_)
  have i6 : Ints w5.drew B (.slice F3 (wPar par (-1)).length q3) (wPar par (-1)) := i5
  generalize w5.drew = wd at *
  refine wpAnyH_take (i := 0) (oi := _) (v := .agg #[.int .i64 0, .int .i64 0, .int .i64 0, .int .i64 0, .slice none 0 0, .int .i64 0, .bool false, .bool false]) rfl (by kernel_rfl) (by kernel_rfl) (by kernel_rfl) (fun _ _ _ h => h) (Or.inl ⟨by rfl, ?_⟩) hH0 ?_
  · intro wv hSw
    try dsimp only at hSw
    go_simp
  change wpAnyH _ _ _ _ _ _ _ (Act.put _ (some 89) (.agg #[.int .i64 0, .int .i64 0, .int .i64 0, .int .i64 0, .slice none 0 0, .int .i64 0, .bool false, .bool false])) _
  simp only [Act.put, List.setIfInBounds_toArray, List.set_cons_zero, List.set_cons_succ]
  refine wpAnyH_take (i := 1) (oi := _) (v := .int .i64 4) rfl (by kernel_rfl) (by kernel_rfl) (by kernel_rfl) (fun _ _ _ h => h) (Or.inl ⟨by rfl, ?_⟩) hH0 ?_
  · intro wv hSw
    try dsimp only at hSw
    go_simp
  change wpAnyH _ _ _ _ _ _ _ (Act.put _ (some 90) (.int .i64 4)) _
  simp only [Act.put, List.setIfInBounds_toArray, List.set_cons_zero, List.set_cons_succ]
  refine wpAnyH_take (i := 2) (oi := _) (v := .int .u8 b) rfl (by kernel_rfl) (by kernel_rfl) (by kernel_rfl) (fun _ _ _ h => h) (Or.inl ⟨by rfl, ?_⟩) hH0 ?_
  · intro wv hSw
    try dsimp only at hSw
    go_simp
  change wpAnyH _ _ _ _ _ _ _ (Act.put _ (some 91) (.int .u8 b)) _
  simp only [Act.put, List.setIfInBounds_toArray, List.set_cons_zero, List.set_cons_succ]
  refine wpAnyH_take (i := 3) (oi := _) (v := .int .i32 b) rfl (by kernel_rfl) (by kernel_rfl) (by kernel_rfl) (fun _ _ _ h => h) (Or.inl ⟨by rfl, ?_⟩) hH0 ?_
  · intro wv hSw
    try dsimp only at hSw
    go_simp
  change wpAnyH _ _ _ _ _ _ _ (Act.put _ (some 92) (.int .i32 b)) _
  simp only [Act.put, List.setIfInBounds_toArray, List.set_cons_zero, List.set_cons_succ]
  refine wpAnyH_take (i := 4) (oi := _) (v := .pointer (some ⟨w.heap.size, 4, none⟩)) rfl (by kernel_rfl) (by kernel_rfl) (by kernel_rfl) (fun _ _ _ h => h) (Or.inl ⟨by rfl, ?_⟩) hH0 ?_
  · intro wv hSw
    try dsimp only at hSw
    go_simp
  change wpAnyH _ _ _ _ _ _ _ (Act.put _ (some 93) (.pointer (some ⟨w.heap.size, 4, none⟩))) _
  simp only [Act.put, List.setIfInBounds_toArray, List.set_cons_zero, List.set_cons_succ]
  refine wpAnyH_take (i := 5) (oi := _) (v := (.slice F3 (wPar par (-1)).length q3)) rfl (by kernel_rfl) (by kernel_rfl) (by kernel_rfl) (fun _ _ _ h => h) (Or.inl ⟨by rfl, ?_⟩) hH0 ?_
  · intro wv hSw
    have c4 : wv.cell? ⟨w.heap.size, 4, none⟩ = some (.slice F3 (wPar par (-1)).length q3) := (Held.cell hSw 4).trans rfl
    go_simp
  change wpAnyH _ _ _ _ _ _ _ (Act.put _ (some 94) (.slice F3 (wPar par (-1)).length q3)) _
  simp only [Act.put, List.setIfInBounds_toArray, List.set_cons_zero, List.set_cons_succ]
  refine wpAnyH_take (i := 6) (oi := _) (v := .agg #[.int .i64 4, .int .i32 b, .slice F3 (wPar par (-1)).length q3]) rfl (by kernel_rfl) (by kernel_rfl) (by kernel_rfl) (fun _ _ _ h => h) (Or.inl ⟨by rfl, ?_⟩) hH0 ?_
  · intro wv hSw
    try dsimp only at hSw
    go_simp
  change wpAnyH _ _ _ _ _ _ _ (Act.put _ (some 95) (.agg #[.int .i64 4, .int .i32 b, .slice F3 (wPar par (-1)).length q3])) _
  simp only [Act.put, List.setIfInBounds_toArray, List.set_cons_zero, List.set_cons_succ]
  refine wpAnyH_ready (rs := [7, 8]) (by kernel_rfl) (by simp) ?_
  refine AllReadyH.cons (o := _) rfl (fun K hK => ?_) (AllReadyH.cons (o := _) rfl (fun K hK => ?_) AllReadyH.nil)
  · go_simp
    have al : Acts (wd.alloc (.cells #[.int .i64 4, .int .i32 b, .slice F3 (wPar par (-1)).length q3] 44)) B (.slice (some ⟨wd.heap.size, 0, none⟩) 1 1) [⟨4, b, (wPar par (-1))⟩] := acts_onep 4 b i6 (Nat.le_trans hB HR.out.below.size)
    have r3 : ES w (⟨mo, u, (wPar par (-1)), (-1), false, false⟩ : E) (.slice F3 (wPar par (-1)).length q3) (wd.alloc (.cells #[.int .i64 4, .int .i32 b, .slice F3 (wPar par (-1)).length q3] 44)) := HR.out.next ((Below.refl _ _).alloc (Nat.le_refl _) _)
    refine hK.out _ _ (by exact r3.box) (fun hH1 => ?_)
    clear hK K
    try simp only [Act.put, List.setIfInBounds_toArray, List.set_cons_zero, List.set_cons_succ]
    refine wpAnyH_ready (rs := [8]) (by kernel_rfl) (by simp) ?_
    refine AllReadyH.cons (o := _) rfl (fun K hK => ?_) AllReadyH.nil
    rw [if_pos (by rfl)]
    refine wp_storeEo r3.ans (x := .tmp 4) (y := .tmp 89) (e' := emode 0) (F := none) (f := 0) (q := 0) rfl rfl rfl ?_
    refine hK.out _ _ (by exact (setRow_other _ _ _ _ (by omega)).trans r3.box) (fun hH2 => ?_)
    clear hK K
    dsimp only [Act.put]
    refine wpAnyH_take (i := 9) (oi := _) (v := .slice (some ⟨wd.heap.size, 0, none⟩) 1 1) rfl (by kernel_rfl) (by kernel_rfl) (by kernel_rfl) (fun _ _ _ h => h) (Or.inl ⟨by rfl, ?_⟩) hH2 ?_
    · intro wv hSw
      try dsimp only at hSw
      go_simp
    change wpAnyH _ _ _ _ _ _ _ (Act.put _ (some 5) (.slice (some ⟨wd.heap.size, 0, none⟩) 1 1)) _
    simp only [Act.put, List.setIfInBounds_toArray, List.set_cons_zero, List.set_cons_succ]
    refine wpAnyH_done (by kernel_rfl) ?_ _
    clear hH0 hH1 hH2
    go_wp2_with fail
    obtain ⟨y0, y1, y2, y3, y4, y5, y6, y7, yf⟩ := esc_cells (EBox.setRow (e' := emode 0) (P' := .slice none 0 0) r3.ans)
    refine bodyPost_ret (v := .tuple #[escV (emode 0) (.slice none 0 0), .slice (some ⟨wd.heap.size, 0, none⟩) 1 1]) (by simp [results, Try.results35, go_sem, escV, y0, y1, y2, y3, y4, y5, y6, y7]) rfl ?_
    exact rnewB rfl al r3.ans r3.below
  · rw [if_pos (by rfl)]
    refine wp_storeEo HR.out.ans (x := .tmp 4) (y := .tmp 89) (e' := emode 0) (F := none) (f := 0) (q := 0) rfl rfl rfl ?_
    have s1 : EBox (wd.setRow (w.heap.size + 1) (escC (emode 0) (.slice none 0 0))) w.heap.size (⟨mo, u, (wPar par (-1)), (-1), false, false⟩ : E) (.slice F3 (wPar par (-1)).length q3) := (setRow_other _ _ _ _ (by omega)).trans HR.out.box
    have s2 : EBox (wd.setRow (w.heap.size + 1) (escC (emode 0) (.slice none 0 0))) (w.heap.size + 1) (emode 0) (.slice none 0 0) := EBox.setRow HR.out.ans
    have s3 := ints_box i6 HR.out.ans (escC (emode 0) (.slice none 0 0))
    have s4 : Below w.heap.size w (wd.setRow (w.heap.size + 1) (escC (emode 0) (.slice none 0 0))) := below_setRow HR.out.below (Nat.le_succ _) _
    have s5 : (wd.setRow (w.heap.size + 1) (escC (emode 0) (.slice none 0 0))).heap.size = wd.heap.size := by simp
    refine hK.out _ _ (by exact s1) (fun hH1 => ?_)
    clear hK K
    dsimp only [Act.put]
    generalize wd.setRow (w.heap.size + 1) (escC (emode 0) (.slice none 0 0)) = ws at *
    refine wpAnyH_ready (rs := [7]) (by kernel_rfl) (by simp) ?_
    refine AllReadyH.cons (o := _) rfl (fun K hK => ?_) AllReadyH.nil
    go_simp
    have al : Acts (ws.alloc (.cells #[.int .i64 4, .int .i32 b, .slice F3 (wPar par (-1)).length q3] 44)) B (.slice (some ⟨ws.heap.size, 0, none⟩) 1 1) [⟨4, b, (wPar par (-1))⟩] := acts_onep 4 b s3 (Nat.le_trans hB s4.size)
    refine hK.out _ _ (by exact s1.alloc _) (fun hH2 => ?_)
    clear hK K
    try simp only [Act.put, List.setIfInBounds_toArray, List.set_cons_zero, List.set_cons_succ]
    refine wpAnyH_take (i := 9) (oi := _) (v := .slice (some ⟨ws.heap.size, 0, none⟩) 1 1) rfl (by kernel_rfl) (by kernel_rfl) (by kernel_rfl) (fun _ _ _ h => h) (Or.inl ⟨by rfl, ?_⟩) hH2 ?_
    · intro wv hSw
      try dsimp only at hSw
      go_simp
    change wpAnyH _ _ _ _ _ _ _ (Act.put _ (some 5) (.slice (some ⟨ws.heap.size, 0, none⟩) 1 1)) _
    simp only [Act.put, List.setIfInBounds_toArray, List.set_cons_zero, List.set_cons_succ]
    refine wpAnyH_done (by kernel_rfl) ?_ _
    clear hH0 hH1 hH2
    go_wp2_with fail
    have s6 := s2.lt
    obtain ⟨y0, y1, y2, y3, y4, y5, y6, y7, yf⟩ := esc_cells (s2)
    refine bodyPost_ret (v := .tuple #[escV (emode 0) (.slice none 0 0), .slice (some ⟨ws.heap.size, 0, none⟩) 1 1]) (by simp [results, Try.results35, go_sem, escV, s6, y0, y1, y2, y3, y4, y5, y6, y7]) rfl ?_
    exact ⟨_, _, _, _, rfl, ints_nil _ _, al, s4.alloc s4.size _⟩
set_option maxHeartbeats 4000000 in
theorem rfin_no_s (mo : Int) (u : U)  (pr : Bool) (b : Int) (h0 : 64 ≤ b) (h1 : b ≤ 126) (F : Option Addr) (q : Nat) (B : Nat) (w : World) (hp : Ints w B (.slice F 0 q) []) (hB : B ≤ w.heap.size) : Calls Try.prog 35 #[escV (⟨mo, u, [], (-1), pr, true⟩ : E) (.slice F 0 q), .int .u8 b] w (RStepP B w (emode 0) []) := by
  have f0 : ¬ b = 59 := by omega
  have g0 : (b == 59) = false := beq_eq_false_iff_ne.2 f0
  have f1 : ¬ b = 63 := by omega
  have g1 : (b == 63) = false := beq_eq_false_iff_ne.2 f1
  have f2 : ¬ b = 27 := by omega
  have g2 : (b == 27) = false := beq_eq_false_iff_ne.2 f2
  have f3 : ¬ b = 24 := by omega
  have g3 : (b == 24) = false := beq_eq_false_iff_ne.2 f3
  have f4 : ¬ b = 26 := by omega
  have g4 : (b == 26) = false := beq_eq_false_iff_ne.2 f4
  have f5 : 48 ≤ b := by omega
  have f6 : ¬ b ≤ 57 := by omega
  have f7 : 32 ≤ b := by omega
  have f8 : ¬ b ≤ 63 := by omega
  have f9 : 64 ≤ b := by omega
  have f10 : b ≤ 126 := by omega
  have HS := Lib.hid (ES.start w (⟨mo, u, [], (-1), pr, true⟩ : E) (.slice F 0 q))
  unfold escV
  go_enter Try.func35, Try.ntmps35
  go_upto_region 1 with fail
  refine wp_world (fun wq => ES w (⟨mo, u, [], (-1), pr, true⟩ : E) (.slice F 0 q) wq) HS.out ?_
  clear HS
  intro w2 es
  obtain ⟨x0, x1, x2, x3, x4, x5, x6, x7, xf⟩ := esc_cells es.box
  dsimp only at x0 x1 x2 x3 x5 x6 x7
  go_upto_region 13 with fail
  have i5 : Ints w2 B (.slice F 0 q) [] := hp.below es.below (Nat.le_refl _)
  clear x0 x1 x2 x3 x4 x5 x6 x7 xf
  obtain ⟨x0, x1, x2, x3, x4, x5, x6, x7, xf⟩ := esc_cells es.box
  dsimp only at x7
  clear x0 x1 x2 x3 x4 x5 x6 xf
  have xa := es.ans
  go_wp2_with (
    (with_reducible refine wpList_storeEo xa (x := .tmp 4) (y := .tmp 86) (e' := emode 0) (F := none) (f := 0) (q := 0) ?_ ?_ ?_ ?_ ?_
     · with_reducible rfl
     · rfl
     · rfl
     · rfl))
  obtain ⟨y0, y1, y2, y3, y4, y5, y6, y7, yf⟩ := esc_cells (EBox.setRow (e' := (emode 0)) (P' := .slice none 0 0) xa)
  refine bodyPost_ret (v := .tuple #[escV (emode 0) (.slice none 0 0), .slice none 0 0]) (by simp [results, Try.results35, go_sem, escV, y0, y1, y2, y3, y4, y5, y6, y7]) rfl ?_
  exact rnew rfl hB (acts_nil _ _) es.below
set_option maxHeartbeats 4000000 in
theorem rfin_no_p (mo : Int) (u : U)  (b : Int) (h0 : 64 ≤ b) (h1 : b ≤ 126) (F : Option Addr) (q : Nat) (B : Nat) (w : World) (hp : Ints w B (.slice F 0 q) []) (hB : B ≤ w.heap.size) : Calls Try.prog 35 #[escV (⟨mo, u, [], (-1), true, false⟩ : E) (.slice F 0 q), .int .u8 b] w (RStepP B w (emode 0) [⟨5, b, ([] : List Int)⟩]) := by
  have f0 : ¬ b = 59 := by omega
  have g0 : (b == 59) = false := beq_eq_false_iff_ne.2 f0
  have f1 : ¬ b = 63 := by omega
  have g1 : (b == 63) = false := beq_eq_false_iff_ne.2 f1
  have f2 : ¬ b = 27 := by omega
  have g2 : (b == 27) = false := beq_eq_false_iff_ne.2 f2
  have f3 : ¬ b = 24 := by omega
  have g3 : (b == 24) = false := beq_eq_false_iff_ne.2 f3
  have f4 : ¬ b = 26 := by omega
  have g4 : (b == 26) = false := beq_eq_false_iff_ne.2 f4
  have f5 : 48 ≤ b := by omega
  have f6 : ¬ b ≤ 57 := by omega
  have f7 : 32 ≤ b := by omega
  have f8 : ¬ b ≤ 63 := by omega
  have f9 : 64 ≤ b := by omega
  have f10 : b ≤ 126 := by omega
  have HS := Lib.hid (ES.start w (⟨mo, u, [], (-1), true, false⟩ : E) (.slice F 0 q))
  unfold escV
  go_enter Try.func35, Try.ntmps35
  go_upto_region 1 with fail
  refine wp_world (fun wq => ES w (⟨mo, u, [], (-1), true, false⟩ : E) (.slice F 0 q) wq) HS.out ?_
  clear HS
  intro w2 es
  obtain ⟨x0, x1, x2, x3, x4, x5, x6, x7, xf⟩ := esc_cells es.box
  dsimp only at x0 x1 x2 x3 x5 x6 x7
  go_upto_region 13 with fail
  have i5 : Ints w2 B (.slice F 0 q) [] := hp.below es.below (Nat.le_refl _)
  clear x0 x1 x2 x3 x4 x5 x6 x7 xf
  obtain ⟨x0, x1, x2, x3, x4, x5, x6, x7, xf⟩ := esc_cells es.box
  dsimp only at x6 x7
  clear x0 x1 x2 x3 x4 x5 xf
  have w1 : IntKind.i32.wrap b = b := IntWalk.i32_in _ (by omega)
  go_upto_region 18 with fail
  clear x6 x7
  have HR := Lib.hid es.drew
  clear es
  refine wp_region_held_drew (S := fun w' => EBox w' w.heap.size (⟨mo, u, ([] : List Int), (-1), true, false⟩ : E) (.slice F 0 q)) (by kernel_rfl) (by exact HR.out.box) (fun hH0 => ?_)
  have i6 : Ints w2.drew B (.slice F 0 q) ([] : List Int) := i5
  generalize w2.drew = wd at *
  refine wpAnyH_take (i := 0) (oi := _) (v := .agg #[.int .i64 0, .int .i64 0, .int .i64 0, .int .i64 0, .slice none 0 0, .int .i64 0, .bool false, .bool false]) rfl (by kernel_rfl) (by kernel_rfl) (by kernel_rfl) (fun _ _ _ h => h) (Or.inl ⟨by rfl, ?_⟩) hH0 ?_
  · intro wv hSw
    try dsimp only at hSw
    go_simp
  change wpAnyH _ _ _ _ _ _ _ (Act.put _ (some 89) (.agg #[.int .i64 0, .int .i64 0, .int .i64 0, .int .i64 0, .slice none 0 0, .int .i64 0, .bool false, .bool false])) _
  simp only [Act.put, List.setIfInBounds_toArray, List.set_cons_zero, List.set_cons_succ]
  refine wpAnyH_take (i := 1) (oi := _) (v := .int .i64 5) rfl (by kernel_rfl) (by kernel_rfl) (by kernel_rfl) (fun _ _ _ h => h) (Or.inl ⟨by rfl, ?_⟩) hH0 ?_
  · intro wv hSw
    try dsimp only at hSw
    go_simp
  change wpAnyH _ _ _ _ _ _ _ (Act.put _ (some 90) (.int .i64 5)) _
  simp only [Act.put, List.setIfInBounds_toArray, List.set_cons_zero, List.set_cons_succ]
  refine wpAnyH_take (i := 2) (oi := _) (v := .int .u8 b) rfl (by kernel_rfl) (by kernel_rfl) (by kernel_rfl) (fun _ _ _ h => h) (Or.inl ⟨by rfl, ?_⟩) hH0 ?_
  · intro wv hSw
    try dsimp only at hSw
    go_simp
  change wpAnyH _ _ _ _ _ _ _ (Act.put _ (some 91) (.int .u8 b)) _
  simp only [Act.put, List.setIfInBounds_toArray, List.set_cons_zero, List.set_cons_succ]
  refine wpAnyH_take (i := 3) (oi := _) (v := .int .i32 b) rfl (by kernel_rfl) (by kernel_rfl) (by kernel_rfl) (fun _ _ _ h => h) (Or.inl ⟨by rfl, ?_⟩) hH0 ?_
  · intro wv hSw
    try dsimp only at hSw
    go_simp
  change wpAnyH _ _ _ _ _ _ _ (Act.put _ (some 92) (.int .i32 b)) _
  simp only [Act.put, List.setIfInBounds_toArray, List.set_cons_zero, List.set_cons_succ]
  refine wpAnyH_take (i := 4) (oi := _) (v := .pointer (some ⟨w.heap.size, 4, none⟩)) rfl (by kernel_rfl) (by kernel_rfl) (by kernel_rfl) (fun _ _ _ h => h) (Or.inl ⟨by rfl, ?_⟩) hH0 ?_
  · intro wv hSw
    try dsimp only at hSw
    go_simp
  change wpAnyH _ _ _ _ _ _ _ (Act.put _ (some 93) (.pointer (some ⟨w.heap.size, 4, none⟩))) _
  simp only [Act.put, List.setIfInBounds_toArray, List.set_cons_zero, List.set_cons_succ]
  refine wpAnyH_take (i := 5) (oi := _) (v := (.slice F 0 q)) rfl (by kernel_rfl) (by kernel_rfl) (by kernel_rfl) (fun _ _ _ h => h) (Or.inl ⟨by rfl, ?_⟩) hH0 ?_
  · intro wv hSw
    have c4 : wv.cell? ⟨w.heap.size, 4, none⟩ = some (.slice F 0 q) := (Held.cell hSw 4).trans rfl
    go_simp
  change wpAnyH _ _ _ _ _ _ _ (Act.put _ (some 94) (.slice F 0 q)) _
  simp only [Act.put, List.setIfInBounds_toArray, List.set_cons_zero, List.set_cons_succ]
  refine wpAnyH_take (i := 6) (oi := _) (v := .agg #[.int .i64 5, .int .i32 b, .slice F 0 q]) rfl (by kernel_rfl) (by kernel_rfl) (by kernel_rfl) (fun _ _ _ h => h) (Or.inl ⟨by rfl, ?_⟩) hH0 ?_
  · intro wv hSw
    try dsimp only at hSw
    go_simp
  change wpAnyH _ _ _ _ _ _ _ (Act.put _ (some 95) (.agg #[.int .i64 5, .int .i32 b, .slice F 0 q])) _
  simp only [Act.put, List.setIfInBounds_toArray, List.set_cons_zero, List.set_cons_succ]
  refine wpAnyH_ready (rs := [7, 8]) (by kernel_rfl) (by simp) ?_
  refine AllReadyH.cons (o := _) rfl (fun K hK => ?_) (AllReadyH.cons (o := _) rfl (fun K hK => ?_) AllReadyH.nil)
  · go_simp
    have al : Acts (wd.alloc (.cells #[.int .i64 5, .int .i32 b, .slice F 0 q] 44)) B (.slice (some ⟨wd.heap.size, 0, none⟩) 1 1) [⟨5, b, ([] : List Int)⟩] := acts_onep 5 b i6 (Nat.le_trans hB HR.out.below.size)
    have r3 : ES w (⟨mo, u, ([] : List Int), (-1), true, false⟩ : E) (.slice F 0 q) (wd.alloc (.cells #[.int .i64 5, .int .i32 b, .slice F 0 q] 44)) := HR.out.next ((Below.refl _ _).alloc (Nat.le_refl _) _)
    refine hK.out _ _ (by exact r3.box) (fun hH1 => ?_)
    clear hK K
    try simp only [Act.put, List.setIfInBounds_toArray, List.set_cons_zero, List.set_cons_succ]
    refine wpAnyH_ready (rs := [8]) (by kernel_rfl) (by simp) ?_
    refine AllReadyH.cons (o := _) rfl (fun K hK => ?_) AllReadyH.nil
    rw [if_pos (by rfl)]
    refine wp_storeEo r3.ans (x := .tmp 4) (y := .tmp 89) (e' := emode 0) (F := none) (f := 0) (q := 0) rfl rfl rfl ?_
    refine hK.out _ _ (by exact (setRow_other _ _ _ _ (by omega)).trans r3.box) (fun hH2 => ?_)
    clear hK K
    dsimp only [Act.put]
    refine wpAnyH_take (i := 9) (oi := _) (v := .slice (some ⟨wd.heap.size, 0, none⟩) 1 1) rfl (by kernel_rfl) (by kernel_rfl) (by kernel_rfl) (fun _ _ _ h => h) (Or.inl ⟨by rfl, ?_⟩) hH2 ?_
    · intro wv hSw
      try dsimp only at hSw
      go_simp
    change wpAnyH _ _ _ _ _ _ _ (Act.put _ (some 5) (.slice (some ⟨wd.heap.size, 0, none⟩) 1 1)) _
    simp only [Act.put, List.setIfInBounds_toArray, List.set_cons_zero, List.set_cons_succ]
    refine wpAnyH_done (by kernel_rfl) ?_ _
    clear hH0 hH1 hH2
    go_wp2_with fail
    obtain ⟨y0, y1, y2, y3, y4, y5, y6, y7, yf⟩ := esc_cells (EBox.setRow (e' := emode 0) (P' := .slice none 0 0) r3.ans)
    refine bodyPost_ret (v := .tuple #[escV (emode 0) (.slice none 0 0), .slice (some ⟨wd.heap.size, 0, none⟩) 1 1]) (by simp [results, Try.results35, go_sem, escV, y0, y1, y2, y3, y4, y5, y6, y7]) rfl ?_
    exact rnewB rfl al r3.ans r3.below
  · rw [if_pos (by rfl)]
    refine wp_storeEo HR.out.ans (x := .tmp 4) (y := .tmp 89) (e' := emode 0) (F := none) (f := 0) (q := 0) rfl rfl rfl ?_
    have s1 : EBox (wd.setRow (w.heap.size + 1) (escC (emode 0) (.slice none 0 0))) w.heap.size (⟨mo, u, ([] : List Int), (-1), true, false⟩ : E) (.slice F 0 q) := (setRow_other _ _ _ _ (by omega)).trans HR.out.box
    have s2 : EBox (wd.setRow (w.heap.size + 1) (escC (emode 0) (.slice none 0 0))) (w.heap.size + 1) (emode 0) (.slice none 0 0) := EBox.setRow HR.out.ans
    have s3 := ints_box i6 HR.out.ans (escC (emode 0) (.slice none 0 0))
    have s4 : Below w.heap.size w (wd.setRow (w.heap.size + 1) (escC (emode 0) (.slice none 0 0))) := below_setRow HR.out.below (Nat.le_succ _) _
    have s5 : (wd.setRow (w.heap.size + 1) (escC (emode 0) (.slice none 0 0))).heap.size = wd.heap.size := by simp
    refine hK.out _ _ (by exact s1) (fun hH1 => ?_)
    clear hK K
    dsimp only [Act.put]
    generalize wd.setRow (w.heap.size + 1) (escC (emode 0) (.slice none 0 0)) = ws at *
    refine wpAnyH_ready (rs := [7]) (by kernel_rfl) (by simp) ?_
    refine AllReadyH.cons (o := _) rfl (fun K hK => ?_) AllReadyH.nil
    go_simp
    have al : Acts (ws.alloc (.cells #[.int .i64 5, .int .i32 b, .slice F 0 q] 44)) B (.slice (some ⟨ws.heap.size, 0, none⟩) 1 1) [⟨5, b, ([] : List Int)⟩] := acts_onep 5 b s3 (Nat.le_trans hB s4.size)
    refine hK.out _ _ (by exact s1.alloc _) (fun hH2 => ?_)
    clear hK K
    try simp only [Act.put, List.setIfInBounds_toArray, List.set_cons_zero, List.set_cons_succ]
    refine wpAnyH_take (i := 9) (oi := _) (v := .slice (some ⟨ws.heap.size, 0, none⟩) 1 1) rfl (by kernel_rfl) (by kernel_rfl) (by kernel_rfl) (fun _ _ _ h => h) (Or.inl ⟨by rfl, ?_⟩) hH2 ?_
    · intro wv hSw
      try dsimp only at hSw
      go_simp
    change wpAnyH _ _ _ _ _ _ _ (Act.put _ (some 5) (.slice (some ⟨ws.heap.size, 0, none⟩) 1 1)) _
    simp only [Act.put, List.setIfInBounds_toArray, List.set_cons_zero, List.set_cons_succ]
    refine wpAnyH_done (by kernel_rfl) ?_ _
    clear hH0 hH1 hH2
    go_wp2_with fail
    have s6 := s2.lt
    obtain ⟨y0, y1, y2, y3, y4, y5, y6, y7, yf⟩ := esc_cells (s2)
    refine bodyPost_ret (v := .tuple #[escV (emode 0) (.slice none 0 0), .slice (some ⟨ws.heap.size, 0, none⟩) 1 1]) (by simp [results, Try.results35, go_sem, escV, s6, y0, y1, y2, y3, y4, y5, y6, y7]) rfl ?_
    exact ⟨_, _, _, _, rfl, ints_nil _ _, al, s4.alloc s4.size _⟩
set_option maxHeartbeats 4000000 in
theorem rfin_no_n (mo : Int) (u : U)  (b : Int) (h0 : 64 ≤ b) (h1 : b ≤ 126) (F : Option Addr) (q : Nat) (B : Nat) (w : World) (hp : Ints w B (.slice F 0 q) []) (hB : B ≤ w.heap.size) : Calls Try.prog 35 #[escV (⟨mo, u, [], (-1), false, false⟩ : E) (.slice F 0 q), .int .u8 b] w (RStepP B w (emode 0) [⟨4, b, ([] : List Int)⟩]) := by
  have f0 : ¬ b = 59 := by omega
  have g0 : (b == 59) = false := beq_eq_false_iff_ne.2 f0
  have f1 : ¬ b = 63 := by omega
  have g1 : (b == 63) = false := beq_eq_false_iff_ne.2 f1
  have f2 : ¬ b = 27 := by omega
  have g2 : (b == 27) = false := beq_eq_false_iff_ne.2 f2
  have f3 : ¬ b = 24 := by omega
  have g3 : (b == 24) = false := beq_eq_false_iff_ne.2 f3
  have f4 : ¬ b = 26 := by omega
  have g4 : (b == 26) = false := beq_eq_false_iff_ne.2 f4
  have f5 : 48 ≤ b := by omega
  have f6 : ¬ b ≤ 57 := by omega
  have f7 : 32 ≤ b := by omega
  have f8 : ¬ b ≤ 63 := by omega
  have f9 : 64 ≤ b := by omega
  have f10 : b ≤ 126 := by omega
  have HS := Lib.hid (ES.start w (⟨mo, u, [], (-1), false, false⟩ : E) (.slice F 0 q))
  unfold escV
  go_enter Try.func35, Try.ntmps35
  go_upto_region 1 with fail
  refine wp_world (fun wq => ES w (⟨mo, u, [], (-1), false, false⟩ : E) (.slice F 0 q) wq) HS.out ?_
  clear HS
  intro w2 es
  obtain ⟨x0, x1, x2, x3, x4, x5, x6, x7, xf⟩ := esc_cells es.box
  dsimp only at x0 x1 x2 x3 x5 x6 x7
  go_upto_region 13 with fail
  have i5 : Ints w2 B (.slice F 0 q) [] := hp.below es.below (Nat.le_refl _)
  clear x0 x1 x2 x3 x4 x5 x6 x7 xf
  obtain ⟨x0, x1, x2, x3, x4, x5, x6, x7, xf⟩ := esc_cells es.box
  dsimp only at x6 x7
  clear x0 x1 x2 x3 x4 x5 xf
  have w1 : IntKind.i32.wrap b = b := IntWalk.i32_in _ (by omega)
  go_upto_region 18 with fail
  clear x6 x7
  have HR := Lib.hid es.drew
  clear es
  refine wp_region_held_drew (S := fun w' => EBox w' w.heap.size (⟨mo, u, ([] : List Int), (-1), false, false⟩ : E) (.slice F 0 q)) (by kernel_rfl) (by exact HR.out.box) (fun hH0 => ?_)
  have i6 : Ints w2.drew B (.slice F 0 q) ([] : List Int) := i5
  generalize w2.drew = wd at *
  refine wpAnyH_take (i := 0) (oi := _) (v := .agg #[.int .i64 0, .int .i64 0, .int .i64 0, .int .i64 0, .slice none 0 0, .int .i64 0, .bool false, .bool false]) rfl (by kernel_rfl) (by kernel_rfl) (by kernel_rfl) (fun _ _ _ h => h) (Or.inl ⟨by rfl, ?_⟩) hH0 ?_
  · intro wv hSw
    try dsimp only at hSw
    go_simp
  change wpAnyH _ _ _ _ _ _ _ (Act.put _ (some 89) (.agg #[.int .i64 0, .int .i64 0, .int .i64 0, .int .i64 0, .slice none 0 0, .int .i64 0, .bool false, .bool false])) _
  simp only [Act.put, List.setIfInBounds_toArray, List.set_cons_zero, List.set_cons_succ]
  refine wpAnyH_take (i := 1) (oi := _) (v := .int .i64 4) rfl (by kernel_rfl) (by kernel_rfl) (by kernel_rfl) (fun _ _ _ h => h) (Or.inl ⟨by rfl, ?_⟩) hH0 ?_
  · intro wv hSw
    try dsimp only at hSw
    go_simp
  change wpAnyH _ _ _ _ _ _ _ (Act.put _ (some 90) (.int .i64 4)) _
  simp only [Act.put, List.setIfInBounds_toArray, List.set_cons_zero, List.set_cons_succ]
  refine wpAnyH_take (i := 2) (oi := _) (v := .int .u8 b) rfl (by kernel_rfl) (by kernel_rfl) (by kernel_rfl) (fun _ _ _ h => h) (Or.inl ⟨by rfl, ?_⟩) hH0 ?_
  · intro wv hSw
    try dsimp only at hSw
    go_simp
  change wpAnyH _ _ _ _ _ _ _ (Act.put _ (some 91) (.int .u8 b)) _
  simp only [Act.put, List.setIfInBounds_toArray, List.set_cons_zero, List.set_cons_succ]
  refine wpAnyH_take (i := 3) (oi := _) (v := .int .i32 b) rfl (by kernel_rfl) (by kernel_rfl) (by kernel_rfl) (fun _ _ _ h => h) (Or.inl ⟨by rfl, ?_⟩) hH0 ?_
  · intro wv hSw
    try dsimp only at hSw
    go_simp
  change wpAnyH _ _ _ _ _ _ _ (Act.put _ (some 92) (.int .i32 b)) _
  simp only [Act.put, List.setIfInBounds_toArray, List.set_cons_zero, List.set_cons_succ]
  refine wpAnyH_take (i := 4) (oi := _) (v := .pointer (some ⟨w.heap.size, 4, none⟩)) rfl (by kernel_rfl) (by kernel_rfl) (by kernel_rfl) (fun _ _ _ h => h) (Or.inl ⟨by rfl, ?_⟩) hH0 ?_
  · intro wv hSw
    try dsimp only at hSw
    go_simp
  change wpAnyH _ _ _ _ _ _ _ (Act.put _ (some 93) (.pointer (some ⟨w.heap.size, 4, none⟩))) _
  simp only [Act.put, List.setIfInBounds_toArray, List.set_cons_zero, List.set_cons_succ]
  refine wpAnyH_take (i := 5) (oi := _) (v := (.slice F 0 q)) rfl (by kernel_rfl) (by kernel_rfl) (by kernel_rfl) (fun _ _ _ h => h) (Or.inl ⟨by rfl, ?_⟩) hH0 ?_
  · intro wv hSw
    have c4 : wv.cell? ⟨w.heap.size, 4, none⟩ = some (.slice F 0 q) := (Held.cell hSw 4).trans rfl
    go_simp
  change wpAnyH _ _ _ _ _ _ _ (Act.put _ (some 94) (.slice F 0 q)) _
  simp only [Act.put, List.setIfInBounds_toArray, List.set_cons_zero, List.set_cons_succ]
  refine wpAnyH_take (i := 6) (oi := _) (v := .agg #[.int .i64 4, .int .i32 b, .slice F 0 q]) rfl (by kernel_rfl) (by kernel_rfl) (by kernel_rfl) (fun _ _ _ h => h) (Or.inl ⟨by rfl, ?_⟩) hH0 ?_
  · intro wv hSw
    try dsimp only at hSw
    go_simp
  change wpAnyH _ _ _ _ _ _ _ (Act.put _ (some 95) (.agg #[.int .i64 4, .int .i32 b, .slice F 0 q])) _
  simp only [Act.put, List.setIfInBounds_toArray, List.set_cons_zero, List.set_cons_succ]
  refine wpAnyH_ready (rs := [7, 8]) (by kernel_rfl) (by simp) ?_
  refine AllReadyH.cons (o := _) rfl (fun K hK => ?_) (AllReadyH.cons (o := _) rfl (fun K hK => ?_) AllReadyH.nil)
  · go_simp
    have al : Acts (wd.alloc (.cells #[.int .i64 4, .int .i32 b, .slice F 0 q] 44)) B (.slice (some ⟨wd.heap.size, 0, none⟩) 1 1) [⟨4, b, ([] : List Int)⟩] := acts_onep 4 b i6 (Nat.le_trans hB HR.out.below.size)
    have r3 : ES w (⟨mo, u, ([] : List Int), (-1), false, false⟩ : E) (.slice F 0 q) (wd.alloc (.cells #[.int .i64 4, .int .i32 b, .slice F 0 q] 44)) := HR.out.next ((Below.refl _ _).alloc (Nat.le_refl _) _)
    refine hK.out _ _ (by exact r3.box) (fun hH1 => ?_)
    clear hK K
    try simp only [Act.put, List.setIfInBounds_toArray, List.set_cons_zero, List.set_cons_succ]
    refine wpAnyH_ready (rs := [8]) (by kernel_rfl) (by simp) ?_
    refine AllReadyH.cons (o := _) rfl (fun K hK => ?_) AllReadyH.nil
    rw [if_pos (by rfl)]
    refine wp_storeEo r3.ans (x := .tmp 4) (y := .tmp 89) (e' := emode 0) (F := none) (f := 0) (q := 0) rfl rfl rfl ?_
    refine hK.out _ _ (by exact (setRow_other _ _ _ _ (by omega)).trans r3.box) (fun hH2 => ?_)
    clear hK K
    dsimp only [Act.put]
    refine wpAnyH_take (i := 9) (oi := _) (v := .slice (some ⟨wd.heap.size, 0, none⟩) 1 1) rfl (by kernel_rfl) (by kernel_rfl) (by kernel_rfl) (fun _ _ _ h => h) (Or.inl ⟨by rfl, ?_⟩) hH2 ?_
    · intro wv hSw
      try dsimp only at hSw
      go_simp
    change wpAnyH _ _ _ _ _ _ _ (Act.put _ (some 5) (.slice (some ⟨wd.heap.size, 0, none⟩) 1 1)) _
    simp only [Act.put, List.setIfInBounds_toArray, List.set_cons_zero, List.set_cons_succ]
    refine wpAnyH_done (by kernel_rfl) ?_ _
    clear hH0 hH1 hH2
    go_wp2_with fail
    obtain ⟨y0, y1, y2, y3, y4, y5, y6, y7, yf⟩ := esc_cells (EBox.setRow (e' := emode 0) (P' := .slice none 0 0) r3.ans)
    refine bodyPost_ret (v := .tuple #[escV (emode 0) (.slice none 0 0), .slice (some ⟨wd.heap.size, 0, none⟩) 1 1]) (by simp [results, Try.results35, go_sem, escV, y0, y1, y2, y3, y4, y5, y6, y7]) rfl ?_
    exact rnewB rfl al r3.ans r3.below
  · rw [if_pos (by rfl)]
    refine wp_storeEo HR.out.ans (x := .tmp 4) (y := .tmp 89) (e' := emode 0) (F := none) (f := 0) (q := 0) rfl rfl rfl ?_
    have s1 : EBox (wd.setRow (w.heap.size + 1) (escC (emode 0) (.slice none 0 0))) w.heap.size (⟨mo, u, ([] : List Int), (-1), false, false⟩ : E) (.slice F 0 q) := (setRow_other _ _ _ _ (by omega)).trans HR.out.box
    have s2 : EBox (wd.setRow (w.heap.size + 1) (escC (emode 0) (.slice none 0 0))) (w.heap.size + 1) (emode 0) (.slice none 0 0) := EBox.setRow HR.out.ans
    have s3 := ints_box i6 HR.out.ans (escC (emode 0) (.slice none 0 0))
    have s4 : Below w.heap.size w (wd.setRow (w.heap.size + 1) (escC (emode 0) (.slice none 0 0))) := below_setRow HR.out.below (Nat.le_succ _) _
    have s5 : (wd.setRow (w.heap.size + 1) (escC (emode 0) (.slice none 0 0))).heap.size = wd.heap.size := by simp
    refine hK.out _ _ (by exact s1) (fun hH1 => ?_)
    clear hK K
    dsimp only [Act.put]
    generalize wd.setRow (w.heap.size + 1) (escC (emode 0) (.slice none 0 0)) = ws at *
    refine wpAnyH_ready (rs := [7]) (by kernel_rfl) (by simp) ?_
    refine AllReadyH.cons (o := _) rfl (fun K hK => ?_) AllReadyH.nil
    go_simp
    have al : Acts (ws.alloc (.cells #[.int .i64 4, .int .i32 b, .slice F 0 q] 44)) B (.slice (some ⟨ws.heap.size, 0, none⟩) 1 1) [⟨4, b, ([] : List Int)⟩] := acts_onep 4 b s3 (Nat.le_trans hB s4.size)
    refine hK.out _ _ (by exact s1.alloc _) (fun hH2 => ?_)
    clear hK K
    try simp only [Act.put, List.setIfInBounds_toArray, List.set_cons_zero, List.set_cons_succ]
    refine wpAnyH_take (i := 9) (oi := _) (v := .slice (some ⟨ws.heap.size, 0, none⟩) 1 1) rfl (by kernel_rfl) (by kernel_rfl) (by kernel_rfl) (fun _ _ _ h => h) (Or.inl ⟨by rfl, ?_⟩) hH2 ?_
    · intro wv hSw
      try dsimp only at hSw
      go_simp
    change wpAnyH _ _ _ _ _ _ _ (Act.put _ (some 5) (.slice (some ⟨ws.heap.size, 0, none⟩) 1 1)) _
    simp only [Act.put, List.setIfInBounds_toArray, List.set_cons_zero, List.set_cons_succ]
    refine wpAnyH_done (by kernel_rfl) ?_ _
    clear hH0 hH1 hH2
    go_wp2_with fail
    have s6 := s2.lt
    obtain ⟨y0, y1, y2, y3, y4, y5, y6, y7, yf⟩ := esc_cells (s2)
    refine bodyPost_ret (v := .tuple #[escV (emode 0) (.slice none 0 0), .slice (some ⟨ws.heap.size, 0, none⟩) 1 1]) (by simp [results, Try.results35, go_sem, escV, s6, y0, y1, y2, y3, y4, y5, y6, y7]) rfl ?_
    exact ⟨_, _, _, _, rfl, ints_nil _ _, al, s4.alloc s4.size _⟩
end Go.Proofs.Ytpcpmeihebgncaa.Esca

/-
  What the document's own ground answers. Conditions: a byte, what is begun is what steps make.
-/
namespace Go.Proofs.Ytpcpmeihebgncaa.Esca
open Go.RowKit
set_option maxRecDepth 100000
set_option linter.unusedSimpArgs false
set_option linter.unusedVariables false

theorem enR_ctl (n b : Int) : (prints (enR n)).length + (ctl b).length ≤ 1000000 := by
  have h1 := ctl_len b
  have h2 := prints_len (enR n)
  have h3 : (enR n).length ≤ 1 := by unfold enR; split <;> simp
  omega
theorem runes_below {w w' : World} {B C : Nat} {v : Value} {l : List Int} (h : Runes w B v l) (hb : Below C w w') (hC : w.heap.size ≤ C) : Runes w' B v l := own_below h hb hC
set_option maxHeartbeats 4000000 in
theorem rground_a (e : E) (F : Option Addr) (f q : Nat) (B : Nat) (w : World) (hp : Ints w B (.slice F f q) e.par) (hB : B ≤ w.heap.size) (b : Int) (h0 : 32 ≤ b) (h1 : b ≤ 255) (h2 : ¬ b = 127) (hu : e.u.Ok) : Calls Try.prog 33 #[escV e (.slice F f q), .int .u8 b] w (RStepP B w ⟨e.mode, nx e.u b, e.par, e.num, e.priv, e.skip⟩ (prints (nxR e.u b))) := by
  have k1 : 31 < b := by omega
  have k2 : (b == 127) = false := beq_eq_false_iff_ne.2 h2
  have HN := Lib.hid (nxR_len e.u b)
  have HU : Hid (∀ w, Calls Try.prog 60 #[.agg #[.int .i64 e.u.n, .int .i64 e.u.m, .int .i64 e.u.g], .int .u8 b] w (StepPost w (nx e.u b).n (nx e.u b).m (nx e.u b).g (nxR e.u b))) := fun w => utf_any e.u b w hu (by omega) h1
  have HE : Hid (∀ u' : U, u' = nx e.u b → ⟨e.mode, nx e.u b, e.par, e.num, e.priv, e.skip⟩ = (⟨e.mode, u', e.par, e.num, e.priv, e.skip⟩ : E)) := fun u' h => by rw [h]
  generalize nxR e.u b = rs at *
  generalize nx e.u b = u' at *
  clear hu
  have HS := Lib.hid (ES.start w e (.slice F f q))
  unfold escV
  go_enter Try.func33, Try.ntmps33
  go_upto_region 1 with fail
  refine wp_world (fun wq => ES w e (.slice F f q) wq) HS.out ?_
  clear HS
  intro w2 es
  obtain ⟨x0, x1, x2, x3, x4, x5, x6, x7, xf⟩ := esc_cells es.box
  go_upto_region 4 with (
    go_at_call 60
    refine (HU.out _).mono ?_
    rintro x w3 ⟨v, rfl, hr, b3⟩
    have es3 := es.next b3
    have hz := es3.box.lt
    have hz1 := es3.ans.lt
    obtain ⟨z0, z1, z2, z3, z4, z5, z6, z7, zf⟩ := esc_cells es3.box)
  refine wp_world (fun wq => ES w ⟨e.mode, u', e.par, e.num, e.priv, e.skip⟩ (.slice F f q) wq ∧ Runes wq (w.heap.size + 2) v rs) ⟨⟨?_, ?_, ?_⟩, ?_⟩ ?_
  · have t1 := ((Held.s1 (show Held _ _ 32 (escC e (.slice F f q)) from es3.box) (.int .i64 u'.n)).s2 (.int .i64 u'.m)).s3 (.int .i64 u'.g)
    exact EBox.alloc (e := ⟨e.mode, u', e.par, e.num, e.priv, e.skip⟩) t1 _
  · have t2 := (((show Held _ _ 32 (escC E.zero nilV) from es3.ans).far (k := w.heap.size) (o := 1) (by omega) (.int .i64 u'.n)).far (k := w.heap.size) (o := 2) (by omega) (.int .i64 u'.m)).far (k := w.heap.size) (o := 3) (by omega) (.int .i64 u'.g)
    exact EBox.alloc (e := E.zero) t2 _
  · exact (below_set (below_set (below_set es3.below (Nat.le_refl _) _) (Nat.le_refl _) _) (Nat.le_refl _) _).alloc (by simp; omega) _
  · have h2 := es.ans.lt
    exact World.ownsRow.alloc (runes_setlo (runes_setlo (runes_setlo (own_base hr (show w.heap.size + 2 ≤ w2.heap.size by omega)) (by omega) _) (by omega) _) (by omega) _) _
  clear x0 x1 x2 x3 x4 x5 x6 x7 xf z0 z1 z2 z3 z4 z5 z6 z7 zf es es3 b3 hr HU hz hz1
  rintro w4 ⟨es, hv⟩
  have HR := Lib.hid es.drew
  have hvd : Runes w4.drew (w.heap.size + 2) v rs := hv
  have hz1 : w.heap.size + 1 < w4.drew.heap.size := es.drew.ans.lt
  clear es hv
  refine wp_region_held_drew (S := fun w' => EBox w' w.heap.size (⟨e.mode, u', e.par, e.num, e.priv, e.skip⟩ : E) (.slice F f q)) (by kernel_rfl) (by exact HR.out.box) (fun hH0 => ?_)
  generalize w4.drew = wd at *
  refine wpAnyH_take (i := 0) (oi := _) (v := escV (⟨e.mode, u', e.par, e.num, e.priv, e.skip⟩ : E) (.slice F f q)) rfl (by kernel_rfl) (by kernel_rfl) (by kernel_rfl) (fun _ _ _ h => h) (yields_loadE (by rfl) rfl (by rfl) (fun _ h => h)) hH0 ?_
  change wpAnyH _ _ _ _ _ _ _ (Act.put _ (some 24) (escV (⟨e.mode, u', e.par, e.num, e.priv, e.skip⟩ : E) (.slice F f q))) _
  simp only [Act.put, List.setIfInBounds_toArray, List.set_cons_zero, List.set_cons_succ]
  refine wpAnyH_take (i := 1) (oi := _) (v := v) rfl (by kernel_rfl) (by kernel_rfl) (by kernel_rfl) (fun _ _ _ h => h) (Or.inl ⟨by rfl, ?_⟩) hH0 ?_
  · intro wv hSw
    try dsimp only at hSw
    go_simp
  change wpAnyH _ _ _ _ _ _ _ (Act.put _ (some 25) (v)) _
  simp only [Act.put, List.setIfInBounds_toArray, List.set_cons_zero, List.set_cons_succ]
  refine wpAnyH_ready (rs := [2]) (by kernel_rfl) (by simp) ?_
  refine AllReadyH.cons (o := _) rfl (fun K hK => ?_) AllReadyH.nil
  go_simp
  refine (rprints_any v rs (w.heap.size + 2) wd hvd HN.out).mono ?_
  rintro x w5 ⟨v5, rfl, a5, b5⟩
  have r3 := HR.out.next b5
  refine hK.out _ _ (by exact r3.box) (fun hH1 => ?_)
  clear hK K
  try simp only [Act.put, List.setIfInBounds_toArray, List.set_cons_zero, List.set_cons_succ]
  refine wpAnyH_ready (rs := [3]) (by kernel_rfl) (by simp) ?_
  refine AllReadyH.cons (o := _) rfl (fun K hK => ?_) AllReadyH.nil
  rw [if_pos (by rfl)]
  refine wp_storeEo r3.ans (x := .tmp 4) (y := .tmp 24) (e' := (⟨e.mode, u', e.par, e.num, e.priv, e.skip⟩ : E)) (F := F) (f := f) (q := q) rfl rfl rfl ?_
  refine hK.out _ _ (by exact (setRow_other _ _ _ _ (by omega)).trans r3.box) (fun hH2 => ?_)
  clear hK K
  dsimp only [Act.put]
  refine wpAnyH_take (i := 4) (oi := _) (v := v5) rfl (by kernel_rfl) (by kernel_rfl) (by kernel_rfl) (fun _ _ _ h => h) (Or.inl ⟨by rfl, ?_⟩) hH2 ?_
  · intro wv hSw
    try dsimp only at hSw
    go_simp
  change wpAnyH _ _ _ _ _ _ _ (Act.put _ (some 5) (v5)) _
  simp only [Act.put, List.setIfInBounds_toArray, List.set_cons_zero, List.set_cons_succ]
  refine wpAnyH_done (by kernel_rfl) ?_ _
  clear hH0 hH1 hH2
  go_wp2_with fail
  obtain ⟨y0, y1, y2, y3, y4, y5, y6, y7, yf⟩ := esc_cells (EBox.setRow (e' := (⟨e.mode, u', e.par, e.num, e.priv, e.skip⟩ : E)) (P' := .slice F f q) r3.ans)
  refine bodyPost_ret (v := .tuple #[escV (⟨e.mode, u', e.par, e.num, e.priv, e.skip⟩ : E) (.slice F f q), v5]) (by simp [results, Try.results33, go_sem, escV, y0, y1, y2, y3, y4, y5, y6, y7]) rfl ?_
  exact rkeep (e := (⟨e.mode, u', e.par, e.num, e.priv, e.skip⟩ : E)) hp hB (a5.base hz1) r3.below

set_option maxHeartbeats 4000000 in
theorem rground_27 (e : E) (F : Option Addr) (f q : Nat) (B : Nat) (w : World) (hp : Ints w B (.slice F f q) e.par) (hB : B ≤ w.heap.size) : Calls Try.prog 33 #[escV e (.slice F f q), .int .u8 27] w (RStepP B w ⟨1, U.zero, e.par, e.num, e.priv, e.skip⟩ (prints (enR e.u.n))) := by
  have HS := Lib.hid (ES.start w e (.slice F f q))
  unfold escV
  go_enter Try.func33, Try.ntmps33
  go_upto_region 1 with fail
  refine wp_world (fun wq => ES w e (.slice F f q) wq) HS.out ?_
  clear HS
  intro w2 es
  obtain ⟨x0, x1, x2, x3, x4, x5, x6, x7, xf⟩ := esc_cells es.box
  go_upto_region 7 with (first
    | (go_at_call 62
       refine (refEnd_any e.u.n e.u.m e.u.g _).mono ?_
       rintro x w3 ⟨v, rfl, hr, b3⟩
       have es3 := es.next b3)
    | (go_at_call 61
       refine (rprints_any v _ w2.heap.size w3 hr (by unfold enR; split <;> simp)).mono ?_
       rintro x w4 ⟨v4, rfl, a4, b4⟩
       obtain ⟨D4, c4, rfl⟩ := acts_form a4
       have es4 := es3.next b4
       obtain ⟨z0, z1, z2, z3, z4, z5, z6, z7, zf⟩ := esc_cells es4.box))
  have hz := es4.box.lt
  have hz1 := es4.ans.lt
  have hz2 := es.ans.lt
  have hz3 := b3.size
  refine wp_world (fun wq => ES w ⟨e.mode, U.zero, e.par, e.num, e.priv, e.skip⟩ (.slice F f q) wq ∧ Acts wq (w.heap.size + 2) (.slice D4 (prints (enR e.u.n)).length c4) (prints (enR e.u.n))) ⟨⟨?_, ?_, ?_⟩, ?_⟩ ?_
  · exact ((Held.s1 (show Held _ _ 32 _ from es4.box) _).s2 _).s3 _
  · exact (((show Held _ _ 32 _ from es4.ans).far (by omega) _).far (by omega) _).far (by omega) _
  · exact below_set (below_set (below_set es4.below (Nat.le_refl _) _) (Nat.le_refl _) _) (Nat.le_refl _) _
  · exact Acts.setlo (Acts.setlo (Acts.setlo (a4.base (show w.heap.size + 2 ≤ w3.heap.size by omega)) (by omega) _) (by omega) _) (by omega) _
  clear x0 x1 x2 x3 x4 x5 x6 x7 xf z0 z1 z2 z3 z4 z5 z6 z7 zf es es3 es4 b3 b4 hr a4 hz hz1 hz2 hz3
  rintro w5 ⟨es, a5⟩
  obtain ⟨x0, x1, x2, x3, x4, x5, x6, x7, xf⟩ := esc_cells es.box
  go_upto_region 9 with fail
  have hz1 := es.ans.lt
  refine wp_world (fun wq => ES w ⟨1, U.zero, e.par, e.num, e.priv, e.skip⟩ (.slice F f q) wq ∧ Acts wq (w.heap.size + 2) (.slice D4 (prints (enR e.u.n)).length c4) (prints (enR e.u.n))) ⟨⟨Held.s0 (show Held _ _ 32 _ from es.box) _, (show Held _ _ 32 _ from es.ans).far (by omega) _, below_set es.below (Nat.le_refl _) _⟩, Acts.setlo a5 (by omega) _⟩ ?_
  clear x0 x1 x2 x3 x4 x5 x6 x7 xf es a5 hz1
  rintro w6 ⟨es, a6⟩
  have x3 := es.box
  have xa := es.ans
  go_wp2_with (first
    | (with_reducible refine wpList_loadE' x3 (x := .tmp 2) ?_ ?_ ?_ ?_
       · with_reducible rfl
       · rfl
       · rfl)
    | (with_reducible refine wpList_storeEo xa (x := .tmp 4) (y := .tmp 36) (e' := ⟨1, U.zero, e.par, e.num, e.priv, e.skip⟩) (F := F) (f := f) (q := q) ?_ ?_ ?_ ?_ ?_
       · with_reducible rfl
       · rfl
       · rfl
       · rfl))
  obtain ⟨y0, y1, y2, y3, y4, y5, y6, y7, yf⟩ := esc_cells (EBox.setRow (e' := (⟨1, U.zero, e.par, e.num, e.priv, e.skip⟩ : E)) (P' := .slice F f q) xa)
  refine bodyPost_ret (v := .tuple #[escV (⟨1, U.zero, e.par, e.num, e.priv, e.skip⟩ : E) (.slice F f q), .slice D4 (prints (enR e.u.n)).length c4]) (by simp [results, Try.results33, go_sem, escV, y0, y1, y2, y3, y4, y5, y6, y7]) rfl ?_
  exact rkeep (e := (⟨1, U.zero, e.par, e.num, e.priv, e.skip⟩ : E)) hp hB a6 es.below

set_option maxHeartbeats 4000000 in
theorem rground_low (e : E) (F : Option Addr) (f q : Nat) (B : Nat) (w : World) (hp : Ints w B (.slice F f q) e.par) (hB : B ≤ w.heap.size) (b : Int) (h0 : 0 ≤ b) (h1 : b < 32) (h2 : ¬ b = 27) : Calls Try.prog 33 #[escV e (.slice F f q), .int .u8 b] w (RStepP B w ⟨e.mode, U.zero, e.par, e.num, e.priv, e.skip⟩ (prints (enR e.u.n) ++ ctl b)) := by
  have k0 : (b == 27) = false := beq_eq_false_iff_ne.2 h2
  have k1 : ¬ 31 < b := by omega
  have HS := Lib.hid (ES.start w e (.slice F f q))
  unfold escV
  go_enter Try.func33, Try.ntmps33
  go_upto_region 1 with fail
  refine wp_world (fun wq => ES w e (.slice F f q) wq) HS.out ?_
  clear HS
  intro w2 es
  obtain ⟨x0, x1, x2, x3, x4, x5, x6, x7, xf⟩ := esc_cells es.box
  go_upto_region 7 with (first
    | (go_at_call 62
       refine (refEnd_any e.u.n e.u.m e.u.g _).mono ?_
       rintro x w3 ⟨v, rfl, hr, b3⟩
       have es3 := es.next b3)
    | (go_at_call 61
       refine (rprints_any v _ w2.heap.size w3 hr (by unfold enR; split <;> simp)).mono ?_
       rintro x w4 ⟨v4, rfl, a4, b4⟩
       obtain ⟨D4, c4, rfl⟩ := acts_form a4
       have es4 := es3.next b4
       obtain ⟨z0, z1, z2, z3, z4, z5, z6, z7, zf⟩ := esc_cells es4.box))
  have hz := es4.box.lt
  have hz1 := es4.ans.lt
  have hz2 := es.ans.lt
  have hz3 := b3.size
  refine wp_world (fun wq => ES w ⟨e.mode, U.zero, e.par, e.num, e.priv, e.skip⟩ (.slice F f q) wq ∧ Acts wq (w.heap.size + 2) (.slice D4 (prints (enR e.u.n)).length c4) (prints (enR e.u.n))) ⟨⟨?_, ?_, ?_⟩, ?_⟩ ?_
  · exact ((Held.s1 (show Held _ _ 32 _ from es4.box) _).s2 _).s3 _
  · exact (((show Held _ _ 32 _ from es4.ans).far (by omega) _).far (by omega) _).far (by omega) _
  · exact below_set (below_set (below_set es4.below (Nat.le_refl _) _) (Nat.le_refl _) _) (Nat.le_refl _) _
  · exact Acts.setlo (Acts.setlo (Acts.setlo (a4.base (show w.heap.size + 2 ≤ w3.heap.size by omega)) (by omega) _) (by omega) _) (by omega) _
  clear x0 x1 x2 x3 x4 x5 x6 x7 xf z0 z1 z2 z3 z4 z5 z6 z7 zf es es3 es4 b3 b4 hr a4 hz hz1 hz2 hz3
  rintro w5 ⟨es, a5⟩
  have hz1 : w.heap.size + 1 < w5.drew.heap.size := es.ans.lt
  go_upto_region 10 with fail
  have HR := Lib.hid es.drew
  have a5d : Acts w5.drew (w.heap.size + 2) (.slice D4 (prints (enR e.u.n)).length c4) (prints (enR e.u.n)) := a5.drew
  clear es a5
  refine wp_region_held_drew (S := fun w' => EBox w' w.heap.size (⟨e.mode, U.zero, e.par, e.num, e.priv, e.skip⟩ : E) (.slice F f q)) (by kernel_rfl) (by exact HR.out.box) (fun hH0 => ?_)
  generalize w5.drew = wd at *
  refine wpAnyH_take (i := 0) (oi := _) (v := escV (⟨e.mode, U.zero, e.par, e.num, e.priv, e.skip⟩ : E) (.slice F f q)) rfl (by kernel_rfl) (by kernel_rfl) (by kernel_rfl) (fun _ _ _ h => h) (yields_loadE (by rfl) rfl (by rfl) (fun _ h => h)) hH0 ?_
  change wpAnyH _ _ _ _ _ _ _ (Act.put _ (some 38) (escV (⟨e.mode, U.zero, e.par, e.num, e.priv, e.skip⟩ : E) (.slice F f q))) _
  simp only [Act.put, List.setIfInBounds_toArray, List.set_cons_zero, List.set_cons_succ]
  refine wpAnyH_take (i := 1) (oi := _) (v := .slice D4 (prints (enR e.u.n)).length c4) rfl (by kernel_rfl) (by kernel_rfl) (by kernel_rfl) (fun _ _ _ h => h) (Or.inl ⟨by rfl, ?_⟩) hH0 ?_
  · intro wv hSw
    try dsimp only at hSw
    go_simp
  change wpAnyH _ _ _ _ _ _ _ (Act.put _ (some 39) (.slice D4 (prints (enR e.u.n)).length c4)) _
  simp only [Act.put, List.setIfInBounds_toArray, List.set_cons_zero, List.set_cons_succ]
  refine wpAnyH_take (i := 2) (oi := _) (v := .int .u8 b) rfl (by kernel_rfl) (by kernel_rfl) (by kernel_rfl) (fun _ _ _ h => h) (Or.inl ⟨by rfl, ?_⟩) hH0 ?_
  · intro wv hSw
    try dsimp only at hSw
    go_simp
  change wpAnyH _ _ _ _ _ _ _ (Act.put _ (some 40) (.int .u8 b)) _
  simp only [Act.put, List.setIfInBounds_toArray, List.set_cons_zero, List.set_cons_succ]
  refine wpAnyH_ready (rs := [3]) (by kernel_rfl) (by simp) ?_
  refine AllReadyH.cons (o := _) rfl (fun K hK => ?_) AllReadyH.nil
  go_simp
  refine (rcontrol_any b wd h0 (by omega)).mono ?_
  rintro x w6 ⟨v6, rfl, a6, b6⟩
  have r3 := HR.out.next b6
  refine hK.out _ _ (by exact r3.box) (fun hH1 => ?_)
  clear hK K
  try simp only [Act.put, List.setIfInBounds_toArray, List.set_cons_zero, List.set_cons_succ]
  refine wpAnyH_ready (rs := [4]) (by kernel_rfl) (by simp) ?_
  refine AllReadyH.cons (o := _) rfl (fun K hK => ?_) AllReadyH.nil
  refine step_append_acts w6 (by rfl) _ _ (by rfl) (w.heap.size + 2) wd.heap.size (.slice D4 (prints (enR e.u.n)).length c4) v6 (prints (enR e.u.n)) (ctl b) (by rfl) (by rfl) (by exact a5d.below b6 (Nat.le_refl _)) (by exact a6) (by omega) (by exact fun k hk => (acts_lt a5d k hk).2) (enR_ctl e.u.n b) (by have := b6.size; omega) ?_
  intro v7 w7 hap
  have r4 : ES w (⟨e.mode, U.zero, e.par, e.num, e.priv, e.skip⟩ : E) (.slice F f q) w7 := ⟨Held.below r3.box hap.below (by omega), Held.below r3.ans hap.below (by omega), r3.below.trans (hap.below.mono (by omega))⟩
  refine hK.out _ _ (by exact r4.box) (fun hH2 => ?_)
  clear hK K
  change wpAnyH _ _ _ _ _ _ _ (Act.put _ (some 42) v7) _
  simp only [Act.put, List.setIfInBounds_toArray, List.set_cons_zero, List.set_cons_succ]
  refine wpAnyH_ready (rs := [5]) (by kernel_rfl) (by simp) ?_
  refine AllReadyH.cons (o := _) rfl (fun K hK => ?_) AllReadyH.nil
  rw [if_pos (by rfl)]
  refine wp_storeEo r4.ans (x := .tmp 4) (y := .tmp 38) (e' := (⟨e.mode, U.zero, e.par, e.num, e.priv, e.skip⟩ : E)) (F := F) (f := f) (q := q) rfl rfl rfl ?_
  refine hK.out _ _ (by exact (setRow_other _ _ _ _ (by omega)).trans r4.box) (fun hH3 => ?_)
  clear hK K
  dsimp only [Act.put]
  refine wpAnyH_take (i := 6) (oi := _) (v := v7) rfl (by kernel_rfl) (by kernel_rfl) (by kernel_rfl) (fun _ _ _ h => h) (Or.inl ⟨by rfl, ?_⟩) hH3 ?_
  · intro wv hSw
    try dsimp only at hSw
    go_simp
  change wpAnyH _ _ _ _ _ _ _ (Act.put _ (some 5) (v7)) _
  simp only [Act.put, List.setIfInBounds_toArray, List.set_cons_zero, List.set_cons_succ]
  refine wpAnyH_done (by kernel_rfl) ?_ _
  clear hH0 hH1 hH2 hH3
  go_wp2_with fail
  obtain ⟨y0, y1, y2, y3, y4, y5, y6, y7, yf⟩ := esc_cells (EBox.setRow (e' := (⟨e.mode, U.zero, e.par, e.num, e.priv, e.skip⟩ : E)) (P' := .slice F f q) r4.ans)
  refine bodyPost_ret (v := .tuple #[escV (⟨e.mode, U.zero, e.par, e.num, e.priv, e.skip⟩ : E) (.slice F f q), v7]) (by simp [results, Try.results33, go_sem, escV, y0, y1, y2, y3, y4, y5, y6, y7]) rfl ?_
  exact rkeep (e := (⟨e.mode, U.zero, e.par, e.num, e.priv, e.skip⟩ : E)) hp hB hap.acts r4.below

set_option maxHeartbeats 4000000 in
theorem rground_127 (e : E) (F : Option Addr) (f q : Nat) (B : Nat) (w : World) (hp : Ints w B (.slice F f q) e.par) (hB : B ≤ w.heap.size)  : Calls Try.prog 33 #[escV e (.slice F f q), .int .u8 127] w (RStepP B w ⟨e.mode, U.zero, e.par, e.num, e.priv, e.skip⟩ (prints (enR e.u.n) ++ ctl 127)) := by
  have HS := Lib.hid (ES.start w e (.slice F f q))
  unfold escV
  go_enter Try.func33, Try.ntmps33
  go_upto_region 1 with fail
  refine wp_world (fun wq => ES w e (.slice F f q) wq) HS.out ?_
  clear HS
  intro w2 es
  obtain ⟨x0, x1, x2, x3, x4, x5, x6, x7, xf⟩ := esc_cells es.box
  go_upto_region 7 with (first
    | (go_at_call 62
       refine (refEnd_any e.u.n e.u.m e.u.g _).mono ?_
       rintro x w3 ⟨v, rfl, hr, b3⟩
       have es3 := es.next b3)
    | (go_at_call 61
       refine (rprints_any v _ w2.heap.size w3 hr (by unfold enR; split <;> simp)).mono ?_
       rintro x w4 ⟨v4, rfl, a4, b4⟩
       obtain ⟨D4, c4, rfl⟩ := acts_form a4
       have es4 := es3.next b4
       obtain ⟨z0, z1, z2, z3, z4, z5, z6, z7, zf⟩ := esc_cells es4.box))
  have hz := es4.box.lt
  have hz1 := es4.ans.lt
  have hz2 := es.ans.lt
  have hz3 := b3.size
  refine wp_world (fun wq => ES w ⟨e.mode, U.zero, e.par, e.num, e.priv, e.skip⟩ (.slice F f q) wq ∧ Acts wq (w.heap.size + 2) (.slice D4 (prints (enR e.u.n)).length c4) (prints (enR e.u.n))) ⟨⟨?_, ?_, ?_⟩, ?_⟩ ?_
  · exact ((Held.s1 (show Held _ _ 32 _ from es4.box) _).s2 _).s3 _
  · exact (((show Held _ _ 32 _ from es4.ans).far (by omega) _).far (by omega) _).far (by omega) _
  · exact below_set (below_set (below_set es4.below (Nat.le_refl _) _) (Nat.le_refl _) _) (Nat.le_refl _) _
  · exact Acts.setlo (Acts.setlo (Acts.setlo (a4.base (show w.heap.size + 2 ≤ w3.heap.size by omega)) (by omega) _) (by omega) _) (by omega) _
  clear x0 x1 x2 x3 x4 x5 x6 x7 xf z0 z1 z2 z3 z4 z5 z6 z7 zf es es3 es4 b3 b4 hr a4 hz hz1 hz2 hz3
  rintro w5 ⟨es, a5⟩
  have hz1 : w.heap.size + 1 < w5.drew.heap.size := es.ans.lt
  go_upto_region 10 with fail
  have HR := Lib.hid es.drew
  have a5d : Acts w5.drew (w.heap.size + 2) (.slice D4 (prints (enR e.u.n)).length c4) (prints (enR e.u.n)) := a5.drew
  clear es a5
  refine wp_region_held_drew (S := fun w' => EBox w' w.heap.size (⟨e.mode, U.zero, e.par, e.num, e.priv, e.skip⟩ : E) (.slice F f q)) (by kernel_rfl) (by exact HR.out.box) (fun hH0 => ?_)
  generalize w5.drew = wd at *
  refine wpAnyH_take (i := 0) (oi := _) (v := escV (⟨e.mode, U.zero, e.par, e.num, e.priv, e.skip⟩ : E) (.slice F f q)) rfl (by kernel_rfl) (by kernel_rfl) (by kernel_rfl) (fun _ _ _ h => h) (yields_loadE (by rfl) rfl (by rfl) (fun _ h => h)) hH0 ?_
  change wpAnyH _ _ _ _ _ _ _ (Act.put _ (some 38) (escV (⟨e.mode, U.zero, e.par, e.num, e.priv, e.skip⟩ : E) (.slice F f q))) _
  simp only [Act.put, List.setIfInBounds_toArray, List.set_cons_zero, List.set_cons_succ]
  refine wpAnyH_take (i := 1) (oi := _) (v := .slice D4 (prints (enR e.u.n)).length c4) rfl (by kernel_rfl) (by kernel_rfl) (by kernel_rfl) (fun _ _ _ h => h) (Or.inl ⟨by rfl, ?_⟩) hH0 ?_
  · intro wv hSw
    try dsimp only at hSw
    go_simp
  change wpAnyH _ _ _ _ _ _ _ (Act.put _ (some 39) (.slice D4 (prints (enR e.u.n)).length c4)) _
  simp only [Act.put, List.setIfInBounds_toArray, List.set_cons_zero, List.set_cons_succ]
  refine wpAnyH_take (i := 2) (oi := _) (v := .int .u8 127) rfl (by kernel_rfl) (by kernel_rfl) (by kernel_rfl) (fun _ _ _ h => h) (Or.inl ⟨by rfl, ?_⟩) hH0 ?_
  · intro wv hSw
    try dsimp only at hSw
    go_simp
  change wpAnyH _ _ _ _ _ _ _ (Act.put _ (some 40) (.int .u8 127)) _
  simp only [Act.put, List.setIfInBounds_toArray, List.set_cons_zero, List.set_cons_succ]
  refine wpAnyH_ready (rs := [3]) (by kernel_rfl) (by simp) ?_
  refine AllReadyH.cons (o := _) rfl (fun K hK => ?_) AllReadyH.nil
  go_simp
  refine (rcontrol_any 127 wd (by decide) (by decide)).mono ?_
  rintro x w6 ⟨v6, rfl, a6, b6⟩
  have r3 := HR.out.next b6
  refine hK.out _ _ (by exact r3.box) (fun hH1 => ?_)
  clear hK K
  try simp only [Act.put, List.setIfInBounds_toArray, List.set_cons_zero, List.set_cons_succ]
  refine wpAnyH_ready (rs := [4]) (by kernel_rfl) (by simp) ?_
  refine AllReadyH.cons (o := _) rfl (fun K hK => ?_) AllReadyH.nil
  refine step_append_acts w6 (by rfl) _ _ (by rfl) (w.heap.size + 2) wd.heap.size (.slice D4 (prints (enR e.u.n)).length c4) v6 (prints (enR e.u.n)) (ctl 127) (by rfl) (by rfl) (by exact a5d.below b6 (Nat.le_refl _)) (by exact a6) (by omega) (by exact fun k hk => (acts_lt a5d k hk).2) (enR_ctl e.u.n 127) (by have := b6.size; omega) ?_
  intro v7 w7 hap
  have r4 : ES w (⟨e.mode, U.zero, e.par, e.num, e.priv, e.skip⟩ : E) (.slice F f q) w7 := ⟨Held.below r3.box hap.below (by omega), Held.below r3.ans hap.below (by omega), r3.below.trans (hap.below.mono (by omega))⟩
  refine hK.out _ _ (by exact r4.box) (fun hH2 => ?_)
  clear hK K
  change wpAnyH _ _ _ _ _ _ _ (Act.put _ (some 42) v7) _
  simp only [Act.put, List.setIfInBounds_toArray, List.set_cons_zero, List.set_cons_succ]
  refine wpAnyH_ready (rs := [5]) (by kernel_rfl) (by simp) ?_
  refine AllReadyH.cons (o := _) rfl (fun K hK => ?_) AllReadyH.nil
  rw [if_pos (by rfl)]
  refine wp_storeEo r4.ans (x := .tmp 4) (y := .tmp 38) (e' := (⟨e.mode, U.zero, e.par, e.num, e.priv, e.skip⟩ : E)) (F := F) (f := f) (q := q) rfl rfl rfl ?_
  refine hK.out _ _ (by exact (setRow_other _ _ _ _ (by omega)).trans r4.box) (fun hH3 => ?_)
  clear hK K
  dsimp only [Act.put]
  refine wpAnyH_take (i := 6) (oi := _) (v := v7) rfl (by kernel_rfl) (by kernel_rfl) (by kernel_rfl) (fun _ _ _ h => h) (Or.inl ⟨by rfl, ?_⟩) hH3 ?_
  · intro wv hSw
    try dsimp only at hSw
    go_simp
  change wpAnyH _ _ _ _ _ _ _ (Act.put _ (some 5) (v7)) _
  simp only [Act.put, List.setIfInBounds_toArray, List.set_cons_zero, List.set_cons_succ]
  refine wpAnyH_done (by kernel_rfl) ?_ _
  clear hH0 hH1 hH2 hH3
  go_wp2_with fail
  obtain ⟨y0, y1, y2, y3, y4, y5, y6, y7, yf⟩ := esc_cells (EBox.setRow (e' := (⟨e.mode, U.zero, e.par, e.num, e.priv, e.skip⟩ : E)) (P' := .slice F f q) r4.ans)
  refine bodyPost_ret (v := .tuple #[escV (⟨e.mode, U.zero, e.par, e.num, e.priv, e.skip⟩ : E) (.slice F f q), v7]) (by simp [results, Try.results33, go_sem, escV, y0, y1, y2, y3, y4, y5, y6, y7]) rfl ?_
  exact rkeep (e := (⟨e.mode, U.zero, e.par, e.num, e.priv, e.skip⟩ : E)) hp hB hap.acts r4.below

end Go.Proofs.Ytpcpmeihebgncaa.Esca

/-
  What the document's own Step answers: what the project's answers. Conditions: a byte, a place that steps make from nothing.
-/
namespace Go.Proofs.Ytpcpmeihebgncaa.Esca
open Go.RowKit
set_option maxRecDepth 100000
set_option linter.unusedSimpArgs false
set_option linter.unusedVariables false

set_option maxHeartbeats 1000000 in
theorem rst3_7 (u : U) (par : List Int) (num : Int) (pr sk : Bool) (F : Option Addr) (f q : Nat) (B : Nat) (w : World) (hp : Ints w B (.slice F f q) par) (hB : B ≤ w.heap.size)   : Calls Try.prog 17 #[escV (⟨3, u, par, num, pr, sk⟩ : E) (.slice F f q), .int .u8 7] w (RStepP B w (emode 0) []) := by
  have HS := Lib.hid (ES.start w (⟨3, u, par, num, pr, sk⟩ : E) (.slice F f q))
  unfold escV
  go_enter Try.func17, Try.ntmps17
  go_upto_region 1 with fail
  refine wp_world (fun wq => ES w (⟨3, u, par, num, pr, sk⟩ : E) (.slice F f q) wq) HS.out ?_
  clear HS
  intro w2 es
  have x2 := es.box
  have xa := es.ans
  have c0 : w2.cell? ⟨w.heap.size, 0, none⟩ = some (.int .i64 3) := (Held.cell x2 0).trans rfl
  go_wp2_with (first
    | (with_reducible refine wpList_loadE' x2 (x := .tmp 2) ?_ ?_ ?_ ?_
       · with_reducible rfl
       · rfl
       · rfl)
    | (with_reducible refine wpList_storeEo xa (x := .tmp 4) (y := .tmp 36) (e' := (emode 0)) (F := none) (f := 0) (q := 0) ?_ ?_ ?_ ?_ ?_
       · with_reducible rfl
       · rfl
       · rfl
       · rfl))
  obtain ⟨y0, y1, y2, y3, y4, y5, y6, y7, yf⟩ := esc_cells (EBox.setRow (e' := (emode 0)) (P' := .slice none 0 0) xa)
  refine bodyPost_ret (v := .tuple #[escV (emode 0) (.slice none 0 0), .slice none 0 0]) (by simp [results, Try.results17, go_sem, escV, y0, y1, y2, y3, y4, y5, y6, y7]) rfl ?_
  exact rnew rfl hB (acts_nil _ _) es.below
set_option maxHeartbeats 1000000 in
theorem rst3_24 (u : U) (par : List Int) (num : Int) (pr sk : Bool) (F : Option Addr) (f q : Nat) (B : Nat) (w : World) (hp : Ints w B (.slice F f q) par) (hB : B ≤ w.heap.size)   : Calls Try.prog 17 #[escV (⟨3, u, par, num, pr, sk⟩ : E) (.slice F f q), .int .u8 24] w (RStepP B w (emode 0) []) := by
  have HS := Lib.hid (ES.start w (⟨3, u, par, num, pr, sk⟩ : E) (.slice F f q))
  unfold escV
  go_enter Try.func17, Try.ntmps17
  go_upto_region 1 with fail
  refine wp_world (fun wq => ES w (⟨3, u, par, num, pr, sk⟩ : E) (.slice F f q) wq) HS.out ?_
  clear HS
  intro w2 es
  have x2 := es.box
  have xa := es.ans
  have c0 : w2.cell? ⟨w.heap.size, 0, none⟩ = some (.int .i64 3) := (Held.cell x2 0).trans rfl
  go_wp2_with (first
    | (with_reducible refine wpList_loadE' x2 (x := .tmp 2) ?_ ?_ ?_ ?_
       · with_reducible rfl
       · rfl
       · rfl)
    | (with_reducible refine wpList_storeEo xa (x := .tmp 4) (y := .tmp 36) (e' := (emode 0)) (F := none) (f := 0) (q := 0) ?_ ?_ ?_ ?_ ?_
       · with_reducible rfl
       · rfl
       · rfl
       · rfl))
  obtain ⟨y0, y1, y2, y3, y4, y5, y6, y7, yf⟩ := esc_cells (EBox.setRow (e' := (emode 0)) (P' := .slice none 0 0) xa)
  refine bodyPost_ret (v := .tuple #[escV (emode 0) (.slice none 0 0), .slice none 0 0]) (by simp [results, Try.results17, go_sem, escV, y0, y1, y2, y3, y4, y5, y6, y7]) rfl ?_
  exact rnew rfl hB (acts_nil _ _) es.below
set_option maxHeartbeats 1000000 in
theorem rst3_26 (u : U) (par : List Int) (num : Int) (pr sk : Bool) (F : Option Addr) (f q : Nat) (B : Nat) (w : World) (hp : Ints w B (.slice F f q) par) (hB : B ≤ w.heap.size)   : Calls Try.prog 17 #[escV (⟨3, u, par, num, pr, sk⟩ : E) (.slice F f q), .int .u8 26] w (RStepP B w (emode 0) []) := by
  have HS := Lib.hid (ES.start w (⟨3, u, par, num, pr, sk⟩ : E) (.slice F f q))
  unfold escV
  go_enter Try.func17, Try.ntmps17
  go_upto_region 1 with fail
  refine wp_world (fun wq => ES w (⟨3, u, par, num, pr, sk⟩ : E) (.slice F f q) wq) HS.out ?_
  clear HS
  intro w2 es
  have x2 := es.box
  have xa := es.ans
  have c0 : w2.cell? ⟨w.heap.size, 0, none⟩ = some (.int .i64 3) := (Held.cell x2 0).trans rfl
  go_wp2_with (first
    | (with_reducible refine wpList_loadE' x2 (x := .tmp 2) ?_ ?_ ?_ ?_
       · with_reducible rfl
       · rfl
       · rfl)
    | (with_reducible refine wpList_storeEo xa (x := .tmp 4) (y := .tmp 36) (e' := (emode 0)) (F := none) (f := 0) (q := 0) ?_ ?_ ?_ ?_ ?_
       · with_reducible rfl
       · rfl
       · rfl
       · rfl))
  obtain ⟨y0, y1, y2, y3, y4, y5, y6, y7, yf⟩ := esc_cells (EBox.setRow (e' := (emode 0)) (P' := .slice none 0 0) xa)
  refine bodyPost_ret (v := .tuple #[escV (emode 0) (.slice none 0 0), .slice none 0 0]) (by simp [results, Try.results17, go_sem, escV, y0, y1, y2, y3, y4, y5, y6, y7]) rfl ?_
  exact rnew rfl hB (acts_nil _ _) es.below
set_option maxHeartbeats 1000000 in
theorem rst3_27 (u : U) (par : List Int) (num : Int) (pr sk : Bool) (F : Option Addr) (f q : Nat) (B : Nat) (w : World) (hp : Ints w B (.slice F f q) par) (hB : B ≤ w.heap.size)   : Calls Try.prog 17 #[escV (⟨3, u, par, num, pr, sk⟩ : E) (.slice F f q), .int .u8 27] w (RStepP B w (emode 5) []) := by
  have HS := Lib.hid (ES.start w (⟨3, u, par, num, pr, sk⟩ : E) (.slice F f q))
  unfold escV
  go_enter Try.func17, Try.ntmps17
  go_upto_region 1 with fail
  refine wp_world (fun wq => ES w (⟨3, u, par, num, pr, sk⟩ : E) (.slice F f q) wq) HS.out ?_
  clear HS
  intro w2 es
  have x2 := es.box
  have xa := es.ans
  have c0 : w2.cell? ⟨w.heap.size, 0, none⟩ = some (.int .i64 3) := (Held.cell x2 0).trans rfl
  go_wp2_with (first
    | (with_reducible refine wpList_loadE' x2 (x := .tmp 2) ?_ ?_ ?_ ?_
       · with_reducible rfl
       · rfl
       · rfl)
    | (with_reducible refine wpList_storeEo xa (x := .tmp 4) (y := .tmp 39) (e' := (emode 5)) (F := none) (f := 0) (q := 0) ?_ ?_ ?_ ?_ ?_
       · with_reducible rfl
       · rfl
       · rfl
       · rfl))
  obtain ⟨y0, y1, y2, y3, y4, y5, y6, y7, yf⟩ := esc_cells (EBox.setRow (e' := (emode 5)) (P' := .slice none 0 0) xa)
  refine bodyPost_ret (v := .tuple #[escV (emode 5) (.slice none 0 0), .slice none 0 0]) (by simp [results, Try.results17, go_sem, escV, y0, y1, y2, y3, y4, y5, y6, y7]) rfl ?_
  exact rnew rfl hB (acts_nil _ _) es.below
set_option maxHeartbeats 1000000 in
theorem rst3_no (u : U) (par : List Int) (num : Int) (pr sk : Bool) (F : Option Addr) (f q : Nat) (B : Nat) (w : World) (hp : Ints w B (.slice F f q) par) (hB : B ≤ w.heap.size) (b : Int) (n1 : ¬ b = 7) (n2 : ¬ b = 24) (n3 : ¬ b = 26) (n4 : ¬ b = 27) : Calls Try.prog 17 #[escV (⟨3, u, par, num, pr, sk⟩ : E) (.slice F f q), .int .u8 b] w (RStepP B w (⟨3, u, par, num, pr, sk⟩ : E) []) := by
  have f0 : ¬ b = 7 := by omega
  have g0 : (b == 7) = false := beq_eq_false_iff_ne.2 f0
  have f1 : ¬ b = 24 := by omega
  have g1 : (b == 24) = false := beq_eq_false_iff_ne.2 f1
  have f2 : ¬ b = 26 := by omega
  have g2 : (b == 26) = false := beq_eq_false_iff_ne.2 f2
  have f3 : ¬ b = 27 := by omega
  have g3 : (b == 27) = false := beq_eq_false_iff_ne.2 f3
  have HS := Lib.hid (ES.start w (⟨3, u, par, num, pr, sk⟩ : E) (.slice F f q))
  unfold escV
  go_enter Try.func17, Try.ntmps17
  go_upto_region 1 with fail
  refine wp_world (fun wq => ES w (⟨3, u, par, num, pr, sk⟩ : E) (.slice F f q) wq) HS.out ?_
  clear HS
  intro w2 es
  have x2 := es.box
  have xa := es.ans
  have c0 : w2.cell? ⟨w.heap.size, 0, none⟩ = some (.int .i64 3) := (Held.cell x2 0).trans rfl
  go_wp2_with (first
    | (with_reducible refine wpList_loadE' x2 (x := .tmp 2) ?_ ?_ ?_ ?_
       · with_reducible rfl
       · rfl
       · rfl)
    | (with_reducible refine wpList_storeEo xa (x := .tmp 4) (y := .tmp 40) (e' := (⟨3, u, par, num, pr, sk⟩ : E)) (F := F) (f := f) (q := q) ?_ ?_ ?_ ?_ ?_
       · with_reducible rfl
       · rfl
       · rfl
       · rfl))
  obtain ⟨y0, y1, y2, y3, y4, y5, y6, y7, yf⟩ := esc_cells (EBox.setRow (e' := (⟨3, u, par, num, pr, sk⟩ : E)) (P' := .slice F f q) xa)
  refine bodyPost_ret (v := .tuple #[escV (⟨3, u, par, num, pr, sk⟩ : E) (.slice F f q), .slice none 0 0]) (by simp [results, Try.results17, go_sem, escV, y0, y1, y2, y3, y4, y5, y6, y7]) rfl ?_
  exact rkeep (e := (⟨3, u, par, num, pr, sk⟩ : E)) hp hB (acts_nil _ _) es.below
set_option maxHeartbeats 1000000 in
theorem rst5_92 (u : U) (par : List Int) (num : Int) (pr sk : Bool) (F : Option Addr) (f q : Nat) (B : Nat) (w : World) (hp : Ints w B (.slice F f q) par) (hB : B ≤ w.heap.size)   : Calls Try.prog 17 #[escV (⟨5, u, par, num, pr, sk⟩ : E) (.slice F f q), .int .u8 92] w (RStepP B w (emode 0) []) := by
  have HS := Lib.hid (ES.start w (⟨5, u, par, num, pr, sk⟩ : E) (.slice F f q))
  unfold escV
  go_enter Try.func17, Try.ntmps17
  go_upto_region 1 with fail
  refine wp_world (fun wq => ES w (⟨5, u, par, num, pr, sk⟩ : E) (.slice F f q) wq) HS.out ?_
  clear HS
  intro w2 es
  have x2 := es.box
  have xa := es.ans
  have c0 : w2.cell? ⟨w.heap.size, 0, none⟩ = some (.int .i64 5) := (Held.cell x2 0).trans rfl
  go_wp2_with (first
    | (with_reducible refine wpList_loadE' x2 (x := .tmp 2) ?_ ?_ ?_ ?_
       · with_reducible rfl
       · rfl
       · rfl)
    | (with_reducible refine wpList_storeEo xa (x := .tmp 4) (y := .tmp 46) (e' := (emode 0)) (F := none) (f := 0) (q := 0) ?_ ?_ ?_ ?_ ?_
       · with_reducible rfl
       · rfl
       · rfl
       · rfl))
  obtain ⟨y0, y1, y2, y3, y4, y5, y6, y7, yf⟩ := esc_cells (EBox.setRow (e' := (emode 0)) (P' := .slice none 0 0) xa)
  refine bodyPost_ret (v := .tuple #[escV (emode 0) (.slice none 0 0), .slice none 0 0]) (by simp [results, Try.results17, go_sem, escV, y0, y1, y2, y3, y4, y5, y6, y7]) rfl ?_
  exact rnew rfl hB (acts_nil _ _) es.below
set_option maxHeartbeats 1000000 in
theorem rst5_27 (u : U) (par : List Int) (num : Int) (pr sk : Bool) (F : Option Addr) (f q : Nat) (B : Nat) (w : World) (hp : Ints w B (.slice F f q) par) (hB : B ≤ w.heap.size)   : Calls Try.prog 17 #[escV (⟨5, u, par, num, pr, sk⟩ : E) (.slice F f q), .int .u8 27] w (RStepP B w (⟨5, u, par, num, pr, sk⟩ : E) []) := by
  have HS := Lib.hid (ES.start w (⟨5, u, par, num, pr, sk⟩ : E) (.slice F f q))
  unfold escV
  go_enter Try.func17, Try.ntmps17
  go_upto_region 1 with fail
  refine wp_world (fun wq => ES w (⟨5, u, par, num, pr, sk⟩ : E) (.slice F f q) wq) HS.out ?_
  clear HS
  intro w2 es
  have x2 := es.box
  have xa := es.ans
  have c0 : w2.cell? ⟨w.heap.size, 0, none⟩ = some (.int .i64 5) := (Held.cell x2 0).trans rfl
  go_wp2_with (first
    | (with_reducible refine wpList_loadE' x2 (x := .tmp 2) ?_ ?_ ?_ ?_
       · with_reducible rfl
       · rfl
       · rfl)
    | (with_reducible refine wpList_storeEo xa (x := .tmp 4) (y := .tmp 49) (e' := (⟨5, u, par, num, pr, sk⟩ : E)) (F := F) (f := f) (q := q) ?_ ?_ ?_ ?_ ?_
       · with_reducible rfl
       · rfl
       · rfl
       · rfl))
  obtain ⟨y0, y1, y2, y3, y4, y5, y6, y7, yf⟩ := esc_cells (EBox.setRow (e' := (⟨5, u, par, num, pr, sk⟩ : E)) (P' := .slice F f q) xa)
  refine bodyPost_ret (v := .tuple #[escV (⟨5, u, par, num, pr, sk⟩ : E) (.slice F f q), .slice none 0 0]) (by simp [results, Try.results17, go_sem, escV, y0, y1, y2, y3, y4, y5, y6, y7]) rfl ?_
  exact rkeep (e := (⟨5, u, par, num, pr, sk⟩ : E)) hp hB (acts_nil _ _) es.below
set_option maxHeartbeats 1000000 in
theorem rst5_no (u : U) (par : List Int) (num : Int) (pr sk : Bool) (F : Option Addr) (f q : Nat) (B : Nat) (w : World) (hp : Ints w B (.slice F f q) par) (hB : B ≤ w.heap.size) (b : Int) (n1 : ¬ b = 92) (n2 : ¬ b = 27) : Calls Try.prog 17 #[escV (⟨5, u, par, num, pr, sk⟩ : E) (.slice F f q), .int .u8 b] w (RStepP B w (emode 3) []) := by
  have f0 : ¬ b = 92 := by omega
  have g0 : (b == 92) = false := beq_eq_false_iff_ne.2 f0
  have f1 : ¬ b = 27 := by omega
  have g1 : (b == 27) = false := beq_eq_false_iff_ne.2 f1
  have HS := Lib.hid (ES.start w (⟨5, u, par, num, pr, sk⟩ : E) (.slice F f q))
  unfold escV
  go_enter Try.func17, Try.ntmps17
  go_upto_region 1 with fail
  refine wp_world (fun wq => ES w (⟨5, u, par, num, pr, sk⟩ : E) (.slice F f q) wq) HS.out ?_
  clear HS
  intro w2 es
  have x2 := es.box
  have xa := es.ans
  have c0 : w2.cell? ⟨w.heap.size, 0, none⟩ = some (.int .i64 5) := (Held.cell x2 0).trans rfl
  go_wp2_with (first
    | (with_reducible refine wpList_loadE' x2 (x := .tmp 2) ?_ ?_ ?_ ?_
       · with_reducible rfl
       · rfl
       · rfl)
    | (with_reducible refine wpList_storeEo xa (x := .tmp 4) (y := .tmp 50) (e' := (emode 3)) (F := none) (f := 0) (q := 0) ?_ ?_ ?_ ?_ ?_
       · with_reducible rfl
       · rfl
       · rfl
       · rfl))
  obtain ⟨y0, y1, y2, y3, y4, y5, y6, y7, yf⟩ := esc_cells (EBox.setRow (e' := (emode 3)) (P' := .slice none 0 0) xa)
  refine bodyPost_ret (v := .tuple #[escV (emode 3) (.slice none 0 0), .slice none 0 0]) (by simp [results, Try.results17, go_sem, escV, y0, y1, y2, y3, y4, y5, y6, y7]) rfl ?_
  exact rnew rfl hB (acts_nil _ _) es.below
set_option maxHeartbeats 1000000 in
theorem rst4_24 (u : U) (par : List Int) (num : Int) (pr sk : Bool) (F : Option Addr) (f q : Nat) (B : Nat) (w : World) (hp : Ints w B (.slice F f q) par) (hB : B ≤ w.heap.size)   : Calls Try.prog 17 #[escV (⟨4, u, par, num, pr, sk⟩ : E) (.slice F f q), .int .u8 24] w (RStepP B w (emode 0) []) := by
  have HS := Lib.hid (ES.start w (⟨4, u, par, num, pr, sk⟩ : E) (.slice F f q))
  unfold escV
  go_enter Try.func17, Try.ntmps17
  go_upto_region 1 with fail
  refine wp_world (fun wq => ES w (⟨4, u, par, num, pr, sk⟩ : E) (.slice F f q) wq) HS.out ?_
  clear HS
  intro w2 es
  have x2 := es.box
  have xa := es.ans
  have c0 : w2.cell? ⟨w.heap.size, 0, none⟩ = some (.int .i64 4) := (Held.cell x2 0).trans rfl
  go_wp2_with (first
    | (with_reducible refine wpList_loadE' x2 (x := .tmp 2) ?_ ?_ ?_ ?_
       · with_reducible rfl
       · rfl
       · rfl)
    | (with_reducible refine wpList_storeEo xa (x := .tmp 4) (y := .tmp 68) (e' := (emode 0)) (F := none) (f := 0) (q := 0) ?_ ?_ ?_ ?_ ?_
       · with_reducible rfl
       · rfl
       · rfl
       · rfl))
  obtain ⟨y0, y1, y2, y3, y4, y5, y6, y7, yf⟩ := esc_cells (EBox.setRow (e' := (emode 0)) (P' := .slice none 0 0) xa)
  refine bodyPost_ret (v := .tuple #[escV (emode 0) (.slice none 0 0), .slice none 0 0]) (by simp [results, Try.results17, go_sem, escV, y0, y1, y2, y3, y4, y5, y6, y7]) rfl ?_
  exact rnew rfl hB (acts_nil _ _) es.below
set_option maxHeartbeats 1000000 in
theorem rst4_26 (u : U) (par : List Int) (num : Int) (pr sk : Bool) (F : Option Addr) (f q : Nat) (B : Nat) (w : World) (hp : Ints w B (.slice F f q) par) (hB : B ≤ w.heap.size)   : Calls Try.prog 17 #[escV (⟨4, u, par, num, pr, sk⟩ : E) (.slice F f q), .int .u8 26] w (RStepP B w (emode 0) []) := by
  have HS := Lib.hid (ES.start w (⟨4, u, par, num, pr, sk⟩ : E) (.slice F f q))
  unfold escV
  go_enter Try.func17, Try.ntmps17
  go_upto_region 1 with fail
  refine wp_world (fun wq => ES w (⟨4, u, par, num, pr, sk⟩ : E) (.slice F f q) wq) HS.out ?_
  clear HS
  intro w2 es
  have x2 := es.box
  have xa := es.ans
  have c0 : w2.cell? ⟨w.heap.size, 0, none⟩ = some (.int .i64 4) := (Held.cell x2 0).trans rfl
  go_wp2_with (first
    | (with_reducible refine wpList_loadE' x2 (x := .tmp 2) ?_ ?_ ?_ ?_
       · with_reducible rfl
       · rfl
       · rfl)
    | (with_reducible refine wpList_storeEo xa (x := .tmp 4) (y := .tmp 68) (e' := (emode 0)) (F := none) (f := 0) (q := 0) ?_ ?_ ?_ ?_ ?_
       · with_reducible rfl
       · rfl
       · rfl
       · rfl))
  obtain ⟨y0, y1, y2, y3, y4, y5, y6, y7, yf⟩ := esc_cells (EBox.setRow (e' := (emode 0)) (P' := .slice none 0 0) xa)
  refine bodyPost_ret (v := .tuple #[escV (emode 0) (.slice none 0 0), .slice none 0 0]) (by simp [results, Try.results17, go_sem, escV, y0, y1, y2, y3, y4, y5, y6, y7]) rfl ?_
  exact rnew rfl hB (acts_nil _ _) es.below
set_option maxHeartbeats 1000000 in
theorem rst4_27 (u : U) (par : List Int) (num : Int) (pr sk : Bool) (F : Option Addr) (f q : Nat) (B : Nat) (w : World) (hp : Ints w B (.slice F f q) par) (hB : B ≤ w.heap.size)   : Calls Try.prog 17 #[escV (⟨4, u, par, num, pr, sk⟩ : E) (.slice F f q), .int .u8 27] w (RStepP B w (emode 1) []) := by
  have HS := Lib.hid (ES.start w (⟨4, u, par, num, pr, sk⟩ : E) (.slice F f q))
  unfold escV
  go_enter Try.func17, Try.ntmps17
  go_upto_region 1 with fail
  refine wp_world (fun wq => ES w (⟨4, u, par, num, pr, sk⟩ : E) (.slice F f q) wq) HS.out ?_
  clear HS
  intro w2 es
  have x2 := es.box
  have xa := es.ans
  have c0 : w2.cell? ⟨w.heap.size, 0, none⟩ = some (.int .i64 4) := (Held.cell x2 0).trans rfl
  go_wp2_with (first
    | (with_reducible refine wpList_loadE' x2 (x := .tmp 2) ?_ ?_ ?_ ?_
       · with_reducible rfl
       · rfl
       · rfl)
    | (with_reducible refine wpList_storeEo xa (x := .tmp 4) (y := .tmp 72) (e' := (emode 1)) (F := none) (f := 0) (q := 0) ?_ ?_ ?_ ?_ ?_
       · with_reducible rfl
       · rfl
       · rfl
       · rfl))
  obtain ⟨y0, y1, y2, y3, y4, y5, y6, y7, yf⟩ := esc_cells (EBox.setRow (e' := (emode 1)) (P' := .slice none 0 0) xa)
  refine bodyPost_ret (v := .tuple #[escV (emode 1) (.slice none 0 0), .slice none 0 0]) (by simp [results, Try.results17, go_sem, escV, y0, y1, y2, y3, y4, y5, y6, y7]) rfl ?_
  exact rnew rfl hB (acts_nil _ _) es.below
set_option maxHeartbeats 1000000 in
theorem rst4_in (u : U) (par : List Int) (num : Int) (pr sk : Bool) (F : Option Addr) (f q : Nat) (B : Nat) (w : World) (hp : Ints w B (.slice F f q) par) (hB : B ≤ w.heap.size) (b : Int) (h0 : 48 ≤ b) (h1 : b ≤ 126) : Calls Try.prog 17 #[escV (⟨4, u, par, num, pr, sk⟩ : E) (.slice F f q), .int .u8 b] w (RStepP B w (emode 0) []) := by
  have HS := Lib.hid (ES.start w (⟨4, u, par, num, pr, sk⟩ : E) (.slice F f q))
  unfold escV
  go_enter Try.func17, Try.ntmps17
  go_upto_region 1 with fail
  refine wp_world (fun wq => ES w (⟨4, u, par, num, pr, sk⟩ : E) (.slice F f q) wq) HS.out ?_
  clear HS
  intro w2 es
  have x2 := es.box
  have xa := es.ans
  have c0 : w2.cell? ⟨w.heap.size, 0, none⟩ = some (.int .i64 4) := (Held.cell x2 0).trans rfl
  go_wp2_with (first
    | (with_reducible refine wpList_loadE' x2 (x := .tmp 2) ?_ ?_ ?_ ?_
       · with_reducible rfl
       · rfl
       · rfl)
    | (with_reducible refine wpList_storeEo xa (x := .tmp 4) (y := .tmp 68) (e' := (emode 0)) (F := none) (f := 0) (q := 0) ?_ ?_ ?_ ?_ ?_
       · with_reducible rfl
       · rfl
       · rfl
       · rfl))
  obtain ⟨y0, y1, y2, y3, y4, y5, y6, y7, yf⟩ := esc_cells (EBox.setRow (e' := (emode 0)) (P' := .slice none 0 0) xa)
  refine bodyPost_ret (v := .tuple #[escV (emode 0) (.slice none 0 0), .slice none 0 0]) (by simp [results, Try.results17, go_sem, escV, y0, y1, y2, y3, y4, y5, y6, y7]) rfl ?_
  exact rnew rfl hB (acts_nil _ _) es.below
set_option maxHeartbeats 1000000 in
theorem rst4_lo (u : U) (par : List Int) (num : Int) (pr sk : Bool) (F : Option Addr) (f q : Nat) (B : Nat) (w : World) (hp : Ints w B (.slice F f q) par) (hB : B ≤ w.heap.size) (b : Int) (h0 : b < 48) (n1 : ¬ b = 24) (n2 : ¬ b = 26) (n3 : ¬ b = 27) : Calls Try.prog 17 #[escV (⟨4, u, par, num, pr, sk⟩ : E) (.slice F f q), .int .u8 b] w (RStepP B w (⟨4, u, par, num, pr, sk⟩ : E) []) := by
  have f0 : ¬ b = 24 := by omega
  have g0 : (b == 24) = false := beq_eq_false_iff_ne.2 f0
  have f1 : ¬ b = 26 := by omega
  have g1 : (b == 26) = false := beq_eq_false_iff_ne.2 f1
  have f2 : ¬ b = 27 := by omega
  have g2 : (b == 27) = false := beq_eq_false_iff_ne.2 f2
  have f3 : ¬ 48 ≤ b := by omega
  have HS := Lib.hid (ES.start w (⟨4, u, par, num, pr, sk⟩ : E) (.slice F f q))
  unfold escV
  go_enter Try.func17, Try.ntmps17
  go_upto_region 1 with fail
  refine wp_world (fun wq => ES w (⟨4, u, par, num, pr, sk⟩ : E) (.slice F f q) wq) HS.out ?_
  clear HS
  intro w2 es
  have x2 := es.box
  have xa := es.ans
  have c0 : w2.cell? ⟨w.heap.size, 0, none⟩ = some (.int .i64 4) := (Held.cell x2 0).trans rfl
  go_wp2_with (first
    | (with_reducible refine wpList_loadE' x2 (x := .tmp 2) ?_ ?_ ?_ ?_
       · with_reducible rfl
       · rfl
       · rfl)
    | (with_reducible refine wpList_storeEo xa (x := .tmp 4) (y := .tmp 73) (e' := (⟨4, u, par, num, pr, sk⟩ : E)) (F := F) (f := f) (q := q) ?_ ?_ ?_ ?_ ?_
       · with_reducible rfl
       · rfl
       · rfl
       · rfl))
  obtain ⟨y0, y1, y2, y3, y4, y5, y6, y7, yf⟩ := esc_cells (EBox.setRow (e' := (⟨4, u, par, num, pr, sk⟩ : E)) (P' := .slice F f q) xa)
  refine bodyPost_ret (v := .tuple #[escV (⟨4, u, par, num, pr, sk⟩ : E) (.slice F f q), .slice none 0 0]) (by simp [results, Try.results17, go_sem, escV, y0, y1, y2, y3, y4, y5, y6, y7]) rfl ?_
  exact rkeep (e := (⟨4, u, par, num, pr, sk⟩ : E)) hp hB (acts_nil _ _) es.below
set_option maxHeartbeats 1000000 in
theorem rst4_hi (u : U) (par : List Int) (num : Int) (pr sk : Bool) (F : Option Addr) (f q : Nat) (B : Nat) (w : World) (hp : Ints w B (.slice F f q) par) (hB : B ≤ w.heap.size) (b : Int) (h0 : 126 < b) : Calls Try.prog 17 #[escV (⟨4, u, par, num, pr, sk⟩ : E) (.slice F f q), .int .u8 b] w (RStepP B w (⟨4, u, par, num, pr, sk⟩ : E) []) := by
  have f0 : ¬ b = 24 := by omega
  have g0 : (b == 24) = false := beq_eq_false_iff_ne.2 f0
  have f1 : ¬ b = 26 := by omega
  have g1 : (b == 26) = false := beq_eq_false_iff_ne.2 f1
  have f2 : ¬ b = 27 := by omega
  have g2 : (b == 27) = false := beq_eq_false_iff_ne.2 f2
  have f3 : 48 ≤ b := by omega
  have f4 : ¬ b ≤ 126 := by omega
  have HS := Lib.hid (ES.start w (⟨4, u, par, num, pr, sk⟩ : E) (.slice F f q))
  unfold escV
  go_enter Try.func17, Try.ntmps17
  go_upto_region 1 with fail
  refine wp_world (fun wq => ES w (⟨4, u, par, num, pr, sk⟩ : E) (.slice F f q) wq) HS.out ?_
  clear HS
  intro w2 es
  have x2 := es.box
  have xa := es.ans
  have c0 : w2.cell? ⟨w.heap.size, 0, none⟩ = some (.int .i64 4) := (Held.cell x2 0).trans rfl
  go_wp2_with (first
    | (with_reducible refine wpList_loadE' x2 (x := .tmp 2) ?_ ?_ ?_ ?_
       · with_reducible rfl
       · rfl
       · rfl)
    | (with_reducible refine wpList_storeEo xa (x := .tmp 4) (y := .tmp 73) (e' := (⟨4, u, par, num, pr, sk⟩ : E)) (F := F) (f := f) (q := q) ?_ ?_ ?_ ?_ ?_
       · with_reducible rfl
       · rfl
       · rfl
       · rfl))
  obtain ⟨y0, y1, y2, y3, y4, y5, y6, y7, yf⟩ := esc_cells (EBox.setRow (e' := (⟨4, u, par, num, pr, sk⟩ : E)) (P' := .slice F f q) xa)
  refine bodyPost_ret (v := .tuple #[escV (⟨4, u, par, num, pr, sk⟩ : E) (.slice F f q), .slice none 0 0]) (by simp [results, Try.results17, go_sem, escV, y0, y1, y2, y3, y4, y5, y6, y7]) rfl ?_
  exact rkeep (e := (⟨4, u, par, num, pr, sk⟩ : E)) hp hB (acts_nil _ _) es.below
set_option maxHeartbeats 1000000 in
theorem rst0 (u : U) (par : List Int) (num : Int) (pr sk : Bool) (F : Option Addr) (f q : Nat) (B : Nat) (w : World) (hp : Ints w B (.slice F f q) par) (hB : B ≤ w.heap.size) (b : Int) (e' : E) (l : List A) (h : ∀ wx, Ints wx B (.slice F f q) par → B ≤ wx.heap.size → Calls Try.prog 33 #[escV (⟨0, u, par, num, pr, sk⟩ : E) (.slice F f q), .int .u8 b] wx (RStepP B wx e' l)) : Calls Try.prog 17 #[escV (⟨0, u, par, num, pr, sk⟩ : E) (.slice F f q), .int .u8 b] w (RStepP B w e' l) := by
  have HH := Lib.hid h
  clear h
  have HS := Lib.hid (ES.start w (⟨0, u, par, num, pr, sk⟩ : E) (.slice F f q))
  unfold escV
  go_enter Try.func17, Try.ntmps17
  go_upto_region 1 with fail
  refine wp_world (fun wq => ES w (⟨0, u, par, num, pr, sk⟩ : E) (.slice F f q) wq) HS.out ?_
  clear HS
  intro w2 es
  have x2 := es.box
  have c0 : w2.cell? ⟨w.heap.size, 0, none⟩ = some (.int .i64 0) := (Held.cell x2 0).trans rfl
  go_wp2_with (first
    | (with_reducible refine wpList_loadE' x2 (x := .tmp 2) ?_ ?_ ?_ ?_
       · with_reducible rfl
       · rfl
       · rfl)
    | (go_at_call 33
       refine (HH.out _ (by exact hp.below es.below (Nat.le_refl _)) (by exact Nat.le_trans hB es.below.size)).mono ?_
       rintro x w3 ⟨F3, f3, q3, v3, rfl, i3, a3, b3⟩
       have es3 := es.next b3
       have xa := es3.ans)
    | (with_reducible refine wpList_storeEo xa (x := .tmp 4) (y := .tmp 13) (e' := e') (F := F3) (f := f3) (q := q3) ?_ ?_ ?_ ?_ ?_
       · with_reducible rfl
       · rfl
       · rfl
       · rfl))
  obtain ⟨y0, y1, y2, y3, y4, y5, y6, y7, yf⟩ := esc_cells (EBox.setRow (e' := e') (P' := .slice F3 f3 q3) xa)
  refine bodyPost_ret (v := .tuple #[escV e' (.slice F3 f3 q3), v3]) (by simp [results, Try.results17, go_sem, escV, y0, y1, y2, y3, y4, y5, y6, y7]) rfl ?_
  exact ⟨_, _, _, _, rfl, ints_box i3 xa _, acts_box a3 xa _, below_setRow es3.below (Nat.le_succ _) _⟩
set_option maxHeartbeats 1000000 in
theorem rst1 (u : U) (par : List Int) (num : Int) (pr sk : Bool) (F : Option Addr) (f q : Nat) (B : Nat) (w : World) (hp : Ints w B (.slice F f q) par) (hB : B ≤ w.heap.size) (b : Int) (e' : E) (l : List A) (h : ∀ wx, Ints wx B (.slice F f q) par → B ≤ wx.heap.size → Calls Try.prog 34 #[escV (⟨1, u, par, num, pr, sk⟩ : E) (.slice F f q), .int .u8 b] wx (RStepP B wx e' l)) : Calls Try.prog 17 #[escV (⟨1, u, par, num, pr, sk⟩ : E) (.slice F f q), .int .u8 b] w (RStepP B w e' l) := by
  have HH := Lib.hid h
  clear h
  have HS := Lib.hid (ES.start w (⟨1, u, par, num, pr, sk⟩ : E) (.slice F f q))
  unfold escV
  go_enter Try.func17, Try.ntmps17
  go_upto_region 1 with fail
  refine wp_world (fun wq => ES w (⟨1, u, par, num, pr, sk⟩ : E) (.slice F f q) wq) HS.out ?_
  clear HS
  intro w2 es
  have x2 := es.box
  have c0 : w2.cell? ⟨w.heap.size, 0, none⟩ = some (.int .i64 1) := (Held.cell x2 0).trans rfl
  go_wp2_with (first
    | (with_reducible refine wpList_loadE' x2 (x := .tmp 2) ?_ ?_ ?_ ?_
       · with_reducible rfl
       · rfl
       · rfl)
    | (go_at_call 34
       refine (HH.out _ (by exact hp.below es.below (Nat.le_refl _)) (by exact Nat.le_trans hB es.below.size)).mono ?_
       rintro x w3 ⟨F3, f3, q3, v3, rfl, i3, a3, b3⟩
       have es3 := es.next b3
       have xa := es3.ans)
    | (with_reducible refine wpList_storeEo xa (x := .tmp 4) (y := .tmp 20) (e' := e') (F := F3) (f := f3) (q := q3) ?_ ?_ ?_ ?_ ?_
       · with_reducible rfl
       · rfl
       · rfl
       · rfl))
  obtain ⟨y0, y1, y2, y3, y4, y5, y6, y7, yf⟩ := esc_cells (EBox.setRow (e' := e') (P' := .slice F3 f3 q3) xa)
  refine bodyPost_ret (v := .tuple #[escV e' (.slice F3 f3 q3), v3]) (by simp [results, Try.results17, go_sem, escV, y0, y1, y2, y3, y4, y5, y6, y7]) rfl ?_
  exact ⟨_, _, _, _, rfl, ints_box i3 xa _, acts_box a3 xa _, below_setRow es3.below (Nat.le_succ _) _⟩
set_option maxHeartbeats 1000000 in
theorem rst2 (u : U) (par : List Int) (num : Int) (pr sk : Bool) (F : Option Addr) (f q : Nat) (B : Nat) (w : World) (hp : Ints w B (.slice F f q) par) (hB : B ≤ w.heap.size) (b : Int) (e' : E) (l : List A) (h : ∀ wx, Ints wx B (.slice F f q) par → B ≤ wx.heap.size → Calls Try.prog 35 #[escV (⟨2, u, par, num, pr, sk⟩ : E) (.slice F f q), .int .u8 b] wx (RStepP B wx e' l)) : Calls Try.prog 17 #[escV (⟨2, u, par, num, pr, sk⟩ : E) (.slice F f q), .int .u8 b] w (RStepP B w e' l) := by
  have HH := Lib.hid h
  clear h
  have HS := Lib.hid (ES.start w (⟨2, u, par, num, pr, sk⟩ : E) (.slice F f q))
  unfold escV
  go_enter Try.func17, Try.ntmps17
  go_upto_region 1 with fail
  refine wp_world (fun wq => ES w (⟨2, u, par, num, pr, sk⟩ : E) (.slice F f q) wq) HS.out ?_
  clear HS
  intro w2 es
  have x2 := es.box
  have c0 : w2.cell? ⟨w.heap.size, 0, none⟩ = some (.int .i64 2) := (Held.cell x2 0).trans rfl
  go_wp2_with (first
    | (with_reducible refine wpList_loadE' x2 (x := .tmp 2) ?_ ?_ ?_ ?_
       · with_reducible rfl
       · rfl
       · rfl)
    | (go_at_call 35
       refine (HH.out _ (by exact hp.below es.below (Nat.le_refl _)) (by exact Nat.le_trans hB es.below.size)).mono ?_
       rintro x w3 ⟨F3, f3, q3, v3, rfl, i3, a3, b3⟩
       have es3 := es.next b3
       have xa := es3.ans)
    | (with_reducible refine wpList_storeEo xa (x := .tmp 4) (y := .tmp 27) (e' := e') (F := F3) (f := f3) (q := q3) ?_ ?_ ?_ ?_ ?_
       · with_reducible rfl
       · rfl
       · rfl
       · rfl))
  obtain ⟨y0, y1, y2, y3, y4, y5, y6, y7, yf⟩ := esc_cells (EBox.setRow (e' := e') (P' := .slice F3 f3 q3) xa)
  refine bodyPost_ret (v := .tuple #[escV e' (.slice F3 f3 q3), v3]) (by simp [results, Try.results17, go_sem, escV, y0, y1, y2, y3, y4, y5, y6, y7]) rfl ?_
  exact ⟨_, _, _, _, rfl, ints_box i3 xa _, acts_box a3 xa _, below_setRow es3.below (Nat.le_succ _) _⟩

/-- What steps make from nothing: what is not of the mode is nothing. -/
structure E.Cl (e : E) : Prop where
  par : ¬ e.mode = 2 → e.par = [] ∧ e.num = 0 ∧ e.priv = false ∧ e.skip = false
  u : ¬ e.mode = 0 → e.u = U.zero
theorem E.zero_cl : E.zero.Cl := ⟨fun _ => ⟨rfl, rfl, rfl, rfl⟩, fun _ => rfl⟩
theorem cl_emode (m : Int) : (emode m).Cl := ⟨fun _ => ⟨rfl, rfl, rfl, rfl⟩, fun _ => rfl⟩
theorem prints_low (b : Int) (h : b < 32 ∨ b = 127) : prints [b] = [] := by
  have : prt b = false := prt_no b (by omega)
  simp [prints, this]
theorem prints_bad (l : List Int) : prints (65533 :: l) = prints [65533] ++ prints l := by simp [prints, List.filter_cons]; split <;> simp
theorem nx_low (u : U) (b : Int) (h0 : 0 ≤ b) (h : b < 128) : nx u b = U.zero := by
  unfold nx
  rw [if_neg (by omega)]
  unfold stN stM stG
  simp only [if_pos (show b ≤ 191 by omega)]
  rfl
theorem nxR_low (u : U) (b : Int) (h : b < 32 ∨ b = 127) : prints (nxR u b) = prints (enR u.n) := by
  have e1 : stR b = [b] := by unfold stR; rw [if_pos (by omega)]
  have e2 : prints (stR b) = [] := by rw [e1]; exact prints_low b h
  unfold nxR enR
  by_cases hn : 0 < u.n
  · rw [if_pos hn, if_neg (by omega), if_pos hn, prints_bad, e2, List.append_nil]
  · rw [if_neg hn, if_neg hn, e2]
    rfl
end Go.Proofs.Ytpcpmeihebgncaa.Esca

/-
  The document's own Step answers what the project's does. Conditions: a byte, a place that steps make from nothing.
-/
namespace Go.Proofs.Ytpcpmeihebgncaa.Esca
open Go.RowKit
set_option maxRecDepth 100000
set_option linter.unusedSimpArgs false
set_option linter.unusedVariables false

theorem ints_len {w : World} {B : Nat} {F : Option Addr} {f q : Nat} {l : List Int} (h : Ints w B (.slice F f q) l) : f = l.length := by
  obtain ⟨D, c, e⟩ := ints_form h
  cases e
  rfl
theorem ctl_no (b : Int) (h : b < 7 ∨ 13 < b) : ctl b = [] := by unfold ctl; rw [if_pos h]
theorem rstepG (u : U) (F : Option Addr) (f q : Nat) (b : Int) (B : Nat) (w : World) (hp : Ints w B (.slice F f q) []) (hB : B ≤ w.heap.size) (hu : u.Ok) (h0 : 0 ≤ b) (h1 : b ≤ 255) :
    Calls Try.prog 33 #[escV ⟨0, u, [], 0, false, false⟩ (.slice F f q), .int .u8 b] w (RStepP B w ⟨if b = 27 then 1 else 0, nx u b, [], 0, false, false⟩ (prints (nxR u b) ++ ctl b)) := by
  by_cases c1 : b = 27
  · subst c1
    have := rground_27 ⟨0, u, [], 0, false, false⟩ F f q B w hp hB
    rw [if_pos rfl, nx_low u 27 (by omega) (by omega), nxR_low u 27 (.inl (by omega)), ctl_no 27 (.inr (by omega)), List.append_nil]
    exact this
  · rw [if_neg c1]
    by_cases c2 : b < 32
    · rw [nx_low u b h0 (by omega), nxR_low u b (.inl c2)]
      exact rground_low ⟨0, u, [], 0, false, false⟩ F f q B w hp hB b h0 c2 c1
    · by_cases c3 : b = 127
      · subst c3
        rw [nx_low u 127 (by omega) (by omega), nxR_low u 127 (.inr rfl)]
        exact rground_127 ⟨0, u, [], 0, false, false⟩ F f q B w hp hB
      · rw [ctl_no b (.inr (by omega)), List.append_nil]
        exact rground_a ⟨0, u, [], 0, false, false⟩ F f q B w hp hB b (by omega) h1 c3 hu
theorem rstepE (F : Option Addr) (f q : Nat) (b : Int) (B : Nat) (w : World) (hp : Ints w B (.slice F f q) []) (hB : B ≤ w.heap.size) (h0 : 0 ≤ b) (h1 : b ≤ 255) :
    Calls Try.prog 34 #[escV (emode 1) (.slice F f q), .int .u8 b] w (RStepP B w (escE (emode 1) b).1 (escE (emode 1) b).2) := by
  unfold escE
  by_cases c1 : b = 91
  · subst c1; exact resc_91 (emode 1) F f q B w hp hB
  rw [if_neg c1]
  by_cases c2 : b = 93 ∨ b = 80 ∨ b = 88 ∨ b = 94 ∨ b = 95
  · rw [if_pos c2]
    rcases c2 with rfl | rfl | rfl | rfl | rfl
    · exact resc_93 (emode 1) F f q B w hp hB
    · exact resc_80 (emode 1) F f q B w hp hB
    · exact resc_88 (emode 1) F f q B w hp hB
    · exact resc_94 (emode 1) F f q B w hp hB
    · exact resc_95 (emode 1) F f q B w hp hB
  rw [if_neg c2]
  by_cases c3 : b = 27
  · subst c3; exact resc_27 (emode 1) F f q B w hp hB
  rw [if_neg c3]
  by_cases c4 : b = 24 ∨ b = 26
  · rw [if_pos c4]
    rcases c4 with rfl | rfl
    · exact resc_24 (emode 1) F f q B w hp hB
    · exact resc_26 (emode 1) F f q B w hp hB
  rw [if_neg c4]
  by_cases c5 : b ≤ 31
  · rw [if_pos c5]
    exact resc_low (emode 1) F f q B w hp hB b h0 (by omega) c3 (by omega) (by omega)
  rw [if_neg c5]
  by_cases c6 : b ≤ 47
  · rw [if_pos c6]
    exact resc_mid (emode 1) F f q B w hp hB b (by omega) c6
  rw [if_neg c6]
  by_cases c7 : b ≤ 126
  · rw [if_pos c7]
    exact resc_act (emode 1) F f q B w hp hB b (by omega) c7 c1 (by omega) (by omega) (by omega) (by omega) (by omega)
  rw [if_neg c7]
  exact resc_high (emode 1) F f q B w hp hB b (by omega) h1
theorem rstepF (par : List Int) (num : Int) (pr sk : Bool) (F : Option Addr) (q : Nat) (b : Int) (B : Nat) (w : World) (hp : Ints w B (.slice F par.length q) par) (hB : B ≤ w.heap.size) (hl : par.length ≤ 16) (h0 : 64 ≤ b) (h1 : b ≤ 126) :
    Calls Try.prog 35 #[escV ⟨2, U.zero, par, num, pr, sk⟩ (.slice F par.length q), .int .u8 b] w (RStepP B w (emode 0) (fin ⟨2, U.zero, par, num, pr, sk⟩ b)) := by
  unfold fin finPar
  dsimp only
  by_cases hn : num = -1
  · subst hn
    by_cases hpar : par = []
    · subst hpar
      rw [if_neg (show ¬ ((-1 : Int) ≠ -1 ∨ ([] : List Int) ≠ []) by simp)]
      cases sk with
      | true => exact rfin_no_s 2 U.zero pr b h0 h1 F q B w hp hB
      | false =>
        cases pr with
        | true => exact rfin_no_p 2 U.zero b h0 h1 F q B w hp hB
        | false => exact rfin_no_n 2 U.zero b h0 h1 F q B w hp hB
    · have hf : 0 < par.length := List.length_pos_iff.2 hpar
      rw [if_pos (show (-1 : Int) ≠ -1 ∨ par ≠ [] from .inr hpar)]
      cases sk with
      | true => exact rfin_b_s 2 U.zero par hf (by omega) pr b h0 h1 F q B w hp hB
      | false =>
        cases pr with
        | true => exact rfin_b_p 2 U.zero par hf (by omega) b h0 h1 F q B w hp hB
        | false => exact rfin_b_n 2 U.zero par hf (by omega) b h0 h1 F q B w hp hB
  · rw [if_pos (show num ≠ -1 ∨ par ≠ [] from .inl hn)]
    cases sk with
    | true => exact rfin_a_s 2 U.zero par num hn (by omega) pr b h0 h1 F q B w hp hB
    | false =>
      cases pr with
      | true => exact rfin_a_p 2 U.zero par num hn (by omega) b h0 h1 F q B w hp hB
      | false => exact rfin_a_n 2 U.zero par num hn (by omega) b h0 h1 F q B w hp hB
theorem rstepC (par : List Int) (num : Int) (pr sk : Bool) (F : Option Addr) (q : Nat) (b : Int) (B : Nat) (w : World) (hp : Ints w B (.slice F par.length q) par) (hB : B ≤ w.heap.size) (hl : par.length ≤ 16) (hnum : num ≤ 65535) (h0 : 0 ≤ b) (h1 : b ≤ 255) :
    Calls Try.prog 35 #[escV ⟨2, U.zero, par, num, pr, sk⟩ (.slice F par.length q), .int .u8 b] w (RStepP B w (csiE ⟨2, U.zero, par, num, pr, sk⟩ b).1 (csiE ⟨2, U.zero, par, num, pr, sk⟩ b).2) := by
  unfold csiE
  dsimp only
  by_cases c1 : b = 27
  · subst c1; exact rcsi_27 _ F _ q B w hp hB
  rw [if_neg c1]
  by_cases c2 : b = 24 ∨ b = 26
  · rw [if_pos c2]
    rcases c2 with rfl | rfl
    · exact rcsi_24 _ F _ q B w hp hB
    · exact rcsi_26 _ F _ q B w hp hB
  rw [if_neg c2]
  by_cases c3 : b ≤ 31
  · rw [if_pos c3]
    exact rcsi_low _ F _ q B w hp hB b h0 (by omega) c1 (by omega) (by omega)
  rw [if_neg c3]
  by_cases c4 : 48 ≤ b ∧ b ≤ 57
  · rw [if_pos c4]
    exact rcsi_digit ⟨2, U.zero, par, num, pr, sk⟩ F _ q B w hp hB b c4.1 c4.2 hnum
  rw [if_neg c4]
  by_cases c5 : b = 59
  · subst c5
    exact rcsi_semi ⟨2, U.zero, par, num, pr, sk⟩ F q B w hp hB (show par.length ≤ 1000 by omega)
  rw [if_neg c5]
  by_cases c6 : b = 63
  · subst c6
    rw [if_pos rfl]
    unfold fresh
    dsimp only
    by_cases hf : par = []
    · subst hf
      by_cases hn : num = -1
      · subst hn
        cases pr with
        | false => 
          have := rcsi_63f 2 U.zero [] sk F q B w hp hB
          simpa using this
        | true => 
          have := rcsi_63c 2 U.zero [] sk F q B w hp hB
          simpa using this
      · have := rcsi_63b 2 U.zero [] sk F q B w num pr hn hp hB
        simpa [hn] using this
    · have hfl : ¬ par.length = 0 := fun h => hf (List.eq_nil_of_length_eq_zero h)
      have := rcsi_63a 2 U.zero par sk F q B w num pr par.length hfl hp hB
      simpa [hf] using this
  rw [if_neg c6]
  by_cases c7 : b ≤ 63
  · rw [if_pos c7]
    exact rcsi_skip ⟨2, U.zero, par, num, pr, sk⟩ F _ q B w hp hB b (by omega) (by omega) (by omega) c5
  rw [if_neg c7]
  by_cases c8 : b ≤ 126
  · rw [if_pos c8]
    exact rstepF par num pr sk F q b B w hp hB hl (by omega) c8
  rw [if_neg c8]
  exact rcsi_high ⟨2, U.zero, par, num, pr, sk⟩ F _ q B w hp hB b (by omega) h1
theorem rstep_any (e : E) (F : Option Addr) (f q : Nat) (b : Int) (B : Nat) (w : World) (hp : Ints w B (.slice F f q) e.par) (hB : B ≤ w.heap.size) (ok : e.Ok) (cl : e.Cl) (h0 : 0 ≤ b) (h1 : b ≤ 255) :
    Calls Try.prog 17 #[escV e (.slice F f q), .int .u8 b] w (RStepP B w (nxE e b).1 (nxE e b).2) := by
  obtain ⟨mo, u, par, num, pr, sk⟩ := e
  obtain ⟨o1, o2, o3, o4, o5⟩ := ok
  obtain ⟨l1, l2⟩ := cl
  dsimp only at *
  unfold nxE
  dsimp only
  by_cases m0 : mo = 0
  · subst m0
    obtain ⟨rfl, rfl, rfl, rfl⟩ := l1 (by decide)
    rw [if_pos rfl]
    exact rst0 u [] 0 false false F f q B w hp hB b _ _ fun wx hx hBx => rstepG u F f q b B wx hx hBx o1 h0 h1
  rw [if_neg m0]
  obtain rfl := l2 m0
  by_cases m1 : mo = 1
  · subst m1
    obtain ⟨rfl, rfl, rfl, rfl⟩ := l1 (by decide)
    rw [if_pos rfl]
    exact rst1 U.zero [] 0 false false F f q B w hp hB b _ _ fun wx hx hBx => rstepE F f q b B wx hx hBx h0 h1
  rw [if_neg m1]
  by_cases m2 : mo = 2
  · subst m2
    rw [if_pos rfl]
    have hf := ints_len hp
    subst hf
    exact rst2 U.zero par num pr sk F par.length q B w hp hB b _ _ fun wx hx hBx => rstepC par num pr sk F q b B wx hx hBx o5 o4 h0 h1
  rw [if_neg m2]
  obtain ⟨rfl, rfl, rfl, rfl⟩ := l1 m2
  by_cases m3 : mo = 3
  · subst m3
    rw [if_pos rfl]
    unfold inStr
    by_cases c1 : b = 7 ∨ b = 24 ∨ b = 26
    · rw [if_pos c1]
      rcases c1 with rfl | rfl | rfl
      · exact rst3_7 U.zero [] 0 false false F f q B w hp hB
      · exact rst3_24 U.zero [] 0 false false F f q B w hp hB
      · exact rst3_26 U.zero [] 0 false false F f q B w hp hB
    rw [if_neg c1]
    by_cases c2 : b = 27
    · subst c2
      exact rst3_27 U.zero [] 0 false false F f q B w hp hB
    rw [if_neg c2]
    exact rst3_no U.zero [] 0 false false F f q B w hp hB b (by omega) (by omega) (by omega) c2
  rw [if_neg m3]
  by_cases m5 : mo = 5
  · subst m5
    rw [if_pos rfl]
    unfold inEn
    by_cases c1 : b = 92
    · subst c1
      exact rst5_92 U.zero [] 0 false false F f q B w hp hB
    rw [if_neg c1]
    by_cases c2 : b = 27
    · subst c2
      exact rst5_27 U.zero [] 0 false false F f q B w hp hB
    rw [if_neg c2]
    exact rst5_no U.zero [] 0 false false F f q B w hp hB b c1 c2
  rw [if_neg m5]
  obtain rfl : mo = 4 := by omega
  rw [if_pos rfl]
  unfold inSk
  by_cases c1 : b = 24 ∨ b = 26 ∨ (48 ≤ b ∧ b ≤ 126)
  · rw [if_pos c1]
    rcases c1 with rfl | rfl | c1
    · exact rst4_24 U.zero [] 0 false false F f q B w hp hB
    · exact rst4_26 U.zero [] 0 false false F f q B w hp hB
    · exact rst4_in U.zero [] 0 false false F f q B w hp hB b c1.1 c1.2
  rw [if_neg c1]
  by_cases c2 : b = 27
  · subst c2
    exact rst4_27 U.zero [] 0 false false F f q B w hp hB
  rw [if_neg c2]
  by_cases c3 : b < 48
  · exact rst4_lo U.zero [] 0 false false F f q B w hp hB b c3 (by omega) (by omega) c2
  · exact rst4_hi U.zero [] 0 false false F f q B w hp hB b (by omega)

/-- Steps make clean places of clean ones. -/
theorem nxE_cl (e : E) (b : Int) (ok : e.Ok) (cl : e.Cl) (h0 : 0 ≤ b) : (nxE e b).1.Cl := by
  obtain ⟨mo, u, par, num, pr, sk⟩ := e
  obtain ⟨o1, o2, o3, o4, o5⟩ := ok
  obtain ⟨l1, l2⟩ := cl
  dsimp only at *
  unfold nxE
  dsimp only
  by_cases m0 : mo = 0
  · subst m0
    obtain ⟨rfl, rfl, rfl, rfl⟩ := l1 (by decide)
    rw [if_pos rfl]
    refine ⟨fun _ => ⟨rfl, rfl, rfl, rfl⟩, fun h => ?_⟩
    dsimp only at h ⊢
    by_cases c : b = 27
    · exact nx_low u b h0 (by omega)
    · rw [if_neg c] at h; exact absurd rfl h
  rw [if_neg m0]
  obtain rfl := l2 m0
  by_cases m1 : mo = 1
  · subst m1
    obtain ⟨rfl, rfl, rfl, rfl⟩ := l1 (by decide)
    rw [if_pos rfl]
    unfold escE
    repeat' split
    all_goals exact ⟨fun h => by first | exact absurd rfl h | exact ⟨rfl, rfl, rfl, rfl⟩, fun _ => rfl⟩
  rw [if_neg m1]
  by_cases m2 : mo = 2
  · subst m2
    rw [if_pos rfl]
    unfold csiE
    repeat' split
    all_goals exact ⟨fun h => by first | exact absurd rfl h | exact ⟨rfl, rfl, rfl, rfl⟩, fun _ => rfl⟩
  rw [if_neg m2]
  obtain ⟨rfl, rfl, rfl, rfl⟩ := l1 m2
  repeat' split
  all_goals exact ⟨fun _ => ⟨rfl, rfl, rfl, rfl⟩, fun _ => rfl⟩
end Go.Proofs.Ytpcpmeihebgncaa.Esca
