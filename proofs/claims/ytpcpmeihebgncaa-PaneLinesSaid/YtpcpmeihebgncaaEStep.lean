/-
  What Step and End of package utfd do to the world. Conditions: a byte is 0 to 255; what is begun is within what steps from nothing make.
-/
import Derived.Test.YtpcpmeihebgncaaEUtfd
import Derived.Deep.RegionHeld3
namespace Go.Proofs.Ytpcpmeihebgncaa.Esca
open Go.RowKit
set_option maxRecDepth 100000

set_option maxHeartbeats 400000 in
theorem goOn_more (n m g b : Int) (w : World) (hn : 1 < n) (hn3 : n ≤ 3) (hg : 0 ≤ g) (hg2 : g ≤ 32767) (h0 : 128 ≤ b) (h1 : b ≤ 191) :
    Calls Try.prog 147 #[.agg #[.int .i64 n, .int .i64 m, .int .i64 g], .int .u8 b] w (StepPost w (n - 1) m (g * 64 + b % 64) []) := by
  go_enter Try.func147, Try.ntmps147
  go_wp2
  exact bodyPost_ret (v := .tuple #[.agg #[.int .i64 (n - 1), .int .i64 m, .int .i64 (g * 64 + b % 64)], .slice none 0 0]) (by simp [results, Try.results147, go_sem]) rfl ⟨_, rfl, runes_nil _ _, ((Below.refl _ _).alloc (Nat.le_refl _) _).alloc (by simp) _⟩

set_option maxHeartbeats 400000 in
theorem goOn_last (n m g b : Int) (w : World) (hn : n ≤ 1) (hg : 0 ≤ g) (hg2 : g ≤ 32767) (h0 : 128 ≤ b) (h1 : b ≤ 191) :
    Calls Try.prog 147 #[.agg #[.int .i64 n, .int .i64 m, .int .i64 g], .int .u8 b] w (StepPost w 0 0 0 [endR (g * 64 + b % 64) m]) := by
  go_enter Try.func147, Try.ntmps147
  go_wp2_with (go_at_call 154; refine (ended_any _ _ _ (by omega) (by omega)).mono ?_; rintro e w' ⟨rfl, rfl⟩)
  refine bodyPost_ret (v := .tuple #[.agg #[.int .i64 0, .int .i64 0, .int .i64 0], .slice (some ⟨w.heap.size + 1 + 1, 0, none⟩) 1 1]) (by simp [results, Try.results147, go_sem]) rfl ⟨_, rfl, ?_, ?_⟩
  · have := runes_one ((w.alloc (.cells #[.int .i64 n, .int .i64 m, .int .i64 g] 30)).alloc (.cells #[.int .i64 0, .int .i64 0, .int .i64 0] 30)) w.heap.size (endR (g * 64 + b % 64) m) (by simp; omega)
    simpa using this
  · exact (((Below.refl _ _).alloc (Nat.le_refl _) _).alloc (by simp) _).alloc (by simp; omega) _

theorem own_ne {w : World} {B k : Nat} {e : TypeId} {v : Value} {sz n : Nat} {xs : List Value} (h : w.ownsRow B e sz v n xs) (hk : k < B) : v.ownBlock ≠ some k := fun he => by have := (h.lt k he).1; omega

/-- Three cells of one block far below a row are set: the row stays. -/
theorem runes_set3 {w : World} {B k : Nat} {v : Value} {rs : List Int} (h : Runes w B v rs) (hk : k < B) (x y z : Value) : Runes (((w.setCell ⟨k, 0, none⟩ x).setCell ⟨k, 1, none⟩ y).setCell ⟨k, 2, none⟩ z) B v rs :=
  own_set (own_set (own_set h (own_ne h hk) x) (own_ne h hk) y) (own_ne h hk) z
theorem below_set3 {a w : World} {B k : Nat} (h : Below B a w) (hk : B ≤ k) (x y z : Value) : Below B a (((w.setCell ⟨k, 0, none⟩ x).setCell ⟨k, 1, none⟩ y).setCell ⟨k, 2, none⟩ z) :=
  ((h.setCell (p := ⟨k, 0, none⟩) hk x).setCell (p := ⟨k, 1, none⟩) hk y).setCell (p := ⟨k, 2, none⟩) hk z
theorem below_alloc2 (w : World) (a b : Obj) : Below w.heap.size w ((w.alloc a).alloc b) := ((Below.refl _ _).alloc (Nat.le_refl _) _).alloc (by simp) _
theorem below_alloc3 (w : World) (a b c : Obj) : Below w.heap.size w (((w.alloc a).alloc b).alloc c) := (below_alloc2 w a b).alloc (by simp; omega) _

set_option maxHeartbeats 400000 in
theorem step_fresh (n m g b : Int) (w : World) (hn : n ≤ 0) (h0 : 0 ≤ b) (h1 : b ≤ 255) :
    Calls Try.prog 119 #[.agg #[.int .i64 n, .int .i64 m, .int .i64 g], .int .u8 b] w (StepPost w (stN b) (stM b) (stG b) (stR b)) := by
  have hd : decide (0 < n) = false := by simp; omega
  go_enter Try.func119, Try.ntmps119
  go_wp2_with (first
    | (go_at_call 144; go_in)
    | (go_at_call 145; refine (start_any b _ h0 h1).mono ?_; rintro e w2 ⟨v, rfl, hr, hb2⟩; obtain ⟨hc2, hf2⟩ := bcell hb2))
  refine bodyPost_ret (v := .tuple #[.agg #[.int .i64 (stN b), .int .i64 (stM b), .int .i64 (stG b)], v]) (by simp [results, Try.results119, go_sem, hc2]) rfl ⟨v, rfl, ?_, ?_⟩
  · exact own_base (runes_set3 hr (by simp) _ _ _) (by simp; omega)
  · exact below_set3 ((below_alloc3 _ _ _ _).trans (hb2.mono (by simp; omega))) (by omega) _ _ _

set_option maxHeartbeats 400000 in
theorem step_on (n m g b : Int) (w : World) (hn : 0 < n) (h0 : 128 ≤ b) (h1 : b ≤ 191) (n' m' g' : Int) (rs : List Int)
   (h : ∀ w, Calls Try.prog 147 #[.agg #[.int .i64 n, .int .i64 m, .int .i64 g], .int .u8 b] w (StepPost w n' m' g' rs)) :
    Calls Try.prog 119 #[.agg #[.int .i64 n, .int .i64 m, .int .i64 g], .int .u8 b] w (StepPost w n' m' g' rs) := by
  have H := Lib.hid h; clear h
  have hd : decide (0 < n) = true := by simp; omega
  go_enter Try.func119, Try.ntmps119
  go_wp2_with (first
    | (go_at_call 144; go_in)
    | (go_at_call 147; refine (H.out _).mono ?_; rintro e w2 ⟨v, rfl, hr, hb2⟩; obtain ⟨hc2, hf2⟩ := bcell hb2)
    | (go_at_call 146; go_in))
  refine bodyPost_ret (v := .tuple #[.agg #[.int .i64 n', .int .i64 m', .int .i64 g'], v]) (by simp [results, Try.results119, go_sem, hc2]) rfl ⟨v, rfl, ?_, ?_⟩
  · exact own_base (runes_set3 hr (by simp) _ _ _) (by simp; omega)
  · exact below_set3 ((below_alloc3 _ _ _ _).trans (hb2.mono (by simp; omega))) (by omega) _ _ _

set_option maxHeartbeats 400000 in
theorem isNext_no (b : Int) (w : World) (hx : b < 128 ∨ 191 < b) : Calls Try.prog 146 #[.int .u8 b] w fun e w' => e = .returned (.bool false) ∧ w = w' := by
  rcases hx with hx | hx
  · go_enter Try.func146, Try.ntmps146
    go_wp2
    all_goals (go_ret; exact ⟨by first | rfl | simp; omega, rfl⟩)
  · go_enter Try.func146, Try.ntmps146
    go_wp2
    all_goals (go_ret; exact ⟨by first | rfl | simp; omega, rfl⟩)

theorem block_cells {w w' : World} {k : Nat} (h : w'.heap[k]? = w.heap[k]?) : (∀ o, w'.cell? ⟨k, o, none⟩ = w.cell? ⟨k, o, none⟩) ∧ (∀ o, w'.frozen? ⟨k, o, none⟩ = w.frozen? ⟨k, o, none⟩) :=
  ⟨fun _ => World.cell?_of_block h, fun _ => World.frozen?_of_block h⟩
theorem kept2 {w w' : World} {o1 o2 : Obj} {base k : Nat} {e : TypeId} {v v' : Value} {sz n : Nat} {xs : List Value} (h : Appended ((w.alloc o1).alloc o2).drew w' base e sz v v' n xs) (hv : v.ownBlock = some (w.heap.size + 1)) (hk : k < w.heap.size) :
    (∀ o, w'.cell? ⟨k, o, none⟩ = w.cell? ⟨k, o, none⟩) ∧ (∀ o, w'.frozen? ⟨k, o, none⟩ = w.frozen? ⟨k, o, none⟩) := by
  refine block_cells ?_
  rw [h.grown.block k (by simp; omega) (by rw [hv]; simp; omega)]
  exact (Below.heap_alloc (w.alloc o1) o2 k (by simp; omega)).trans (Below.heap_alloc w o1 k hk)

theorem kept2_new {w w' : World} {cs : Array Value} {t : TypeId} {o2 : Obj} {base : Nat} {e : TypeId} {v v' : Value} {sz n : Nat} {xs : List Value} (h : Appended ((w.alloc (.cells cs t)).alloc o2).drew w' base e sz v v' n xs) (hv : v.ownBlock = some (w.heap.size + 1)) (o : Nat) :
    w'.cell? ⟨w.heap.size, o, none⟩ = cs[o]? := by
  refine cell_of_row w' _ _ cs t (0, 0) ?_
  rw [h.grown.block _ (by simp; omega) (by rw [hv]; simp)]
  exact (Below.heap_alloc (w.alloc (.cells cs t)) o2 _ (by simp)).trans (heap_alloc_new w _)
theorem cell_set3 {w : World} {k j o : Nat} {x y z : Value} (h : j ≠ k) : (((w.setCell ⟨k, 0, none⟩ x).setCell ⟨k, 1, none⟩ y).setCell ⟨k, 2, none⟩ z).cell? ⟨j, o, none⟩ = w.cell? ⟨j, o, none⟩ := by
  have hk : ∀ i, (⟨k, i, none⟩ : Addr) ≠ ⟨j, o, none⟩ := fun i e => h (by injection e with e1; exact e1.symm)
  rw [World.cell?_setCell_other _ _ _ _ (hk 2), World.cell?_setCell_other _ _ _ _ (hk 1), World.cell?_setCell_other _ _ _ _ (hk 0)]

set_option maxHeartbeats 800000 in
theorem step_bad (n m g b : Int) (w : World) (hn : 0 < n) (h0 : 0 ≤ b) (h1 : b ≤ 255) (hx : b < 128 ∨ 191 < b) (hl : (stR b).length ≤ 1) :
    Calls Try.prog 119 #[.agg #[.int .i64 n, .int .i64 m, .int .i64 g], .int .u8 b] w (StepPost w (stN b) (stM b) (stG b) (65533 :: stR b)) := by
  have hd : decide (0 < n) = true := by simp; omega
  have HX := Lib.hid hx; clear hx
  go_enter Try.func119, Try.ntmps119
  go_wp2_with (first
    | (go_at_call 144; go_in)
    | (go_at_call 146; refine (isNext_no b _ HX.out).mono ?_; rintro e w' ⟨rfl, rfl⟩)
    | (go_at_call 145; refine (start_any b _ h0 h1).mono ?_; rintro e w2 ⟨v, rfl, hr, hb2⟩; obtain ⟨hc2, hf2⟩ := bcell hb2))
  have hz2 : w.heap.size + 3 ≤ w2.heap.size := by have := hb2.size; simp at this; omega
  have k0 : w2.cell? ⟨w.heap.size + 1, 0, none⟩ = some (.int .i64 0) := (hc2 _ _ (by simp)).trans (by simp [go_sem])
  have k1 : w2.cell? ⟨w.heap.size + 1, 1, none⟩ = some (.int .i64 0) := (hc2 _ _ (by simp)).trans (by simp [go_sem])
  have k2 : w2.cell? ⟨w.heap.size + 1, 2, none⟩ = some (.int .i64 0) := (hc2 _ _ (by simp)).trans (by simp [go_sem])
  have f0 : ∀ o, w2.frozen? ⟨w.heap.size + 1, o, none⟩ = false := fun o => (hf2 _ _ (by simp)).trans (by simp [go_sem])
  clear hc2 hf2
  have hbw : Below w.heap.size w w2 := (below_alloc3 _ _ _ _).trans (hb2.mono (by simp; omega))
  have hr' : Runes w2 (w.heap.size + 2) v (stR b) := own_base hr (by simp)
  clear hb2 hr
  have hlt : w.heap.size + 1 < w2.heap.size := by omega
  have hrow := World.ownsRow_lit (base := w2.heap.size + 1) (e := 21) (size := 1) (w2.alloc (.cells #[.int .i64 (stN b), .int .i64 (stM b), .int .i64 (stG b)] 30)) #[.int .i32 65533] 1 (by simp) (by simp [maxLen]) rfl
  rw [World.size_alloc] at hrow
  go_region_held3 (fun w' => w'.cell? ⟨w2.heap.size, 0, none⟩ = some (.int .i64 (stN b)) ∧ w'.cell? ⟨w2.heap.size, 1, none⟩ = some (.int .i64 (stM b)) ∧ w'.cell? ⟨w2.heap.size, 2, none⟩ = some (.int .i64 (stG b)))
    (first
      | go_keep
      | exact ⟨r0, r1, r2⟩
      | exact ⟨(cell_set3 (by omega)).trans r0, (cell_set3 (by omega)).trans r1, (cell_set3 (by omega)).trans r2⟩)
    ((refine step_append_rows _ (by rfl) _ _ _ (by rfl) rowRune (w2.heap.size + 1) (w.heap.size + 2) 1 (stR b).length (.slice (some ⟨w2.heap.size + 1, 0, none⟩) 1 1) v [.int .i32 65533] (i32s (stR b)) (by rfl) (by rfl)
        (by exact hrow) (by exact (World.ownsRow.alloc (World.ownsRow.alloc hr' _) _)) (i32s_one _) (by omega) (by simp) ?_; intro v3 w3 hap
      obtain ⟨p0, g0⟩ := kept2 hap rfl hlt
      have q0 := (p0 0).trans k0
      have q1 := (p0 1).trans k1
      have q2 := (p0 2).trans k2
      have g0 := fun o => (g0 o).trans (f0 o)
      have r0 : w3.cell? ⟨w2.heap.size, 0, none⟩ = some (.int .i64 (stN b)) := (kept2_new hap rfl 0).trans rfl
      have r1 : w3.cell? ⟨w2.heap.size, 1, none⟩ = some (.int .i64 (stM b)) := (kept2_new hap rfl 1).trans rfl
      have r2 : w3.cell? ⟨w2.heap.size, 2, none⟩ = some (.int .i64 (stG b)) := (kept2_new hap rfl 2).trans rfl
      clear p0))
  go_wp2
  refine bodyPost_ret (v := .tuple #[.agg #[.int .i64 (stN b), .int .i64 (stM b), .int .i64 (stG b)], v3]) (by simp [results, Try.results119, go_sem, q0, q1, q2]) rfl ⟨v3, rfl, ?_, ?_⟩
  · have h3 : Runes w3 (w2.heap.size + 1) v3 (65533 :: stR b) := by
      have := hap.own
      unfold Runes
      rw [show (65533 :: stR b).length = 1 + (stR b).length by simp; omega]
      exact this
    exact own_base (runes_set3 h3 (by omega) _ _ _) (by omega)
  · refine below_set3 (hbw.trans ?_) (by omega) _ _ _
    refine Below.trans ((((Below.refl _ w2).alloc (by omega) _).alloc (by simp; omega) _).drew) ((hap.below hrow (by simp)).mono (by omega))

end Go.Proofs.Ytpcpmeihebgncaa.Esca
