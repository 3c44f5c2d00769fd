/-
  What lookOf and behind of package attr answer: the plain functions; they make memory of their own, and no old block turns. Conditions: none.
-/
import Derived.Test.YthjpfljklbfeeaaLeaf
namespace Go.Proofs.Ythjpfljklbfeeaa
open Go.RowKit

def LookPost (w : World) (l : L) (e : Ending) (w' : World) : Prop := e = .returned (lookV l) ∧ Below w.heap.size w w'
theorem below_alloc2 (w : World) (a b : Obj) : Below w.heap.size w ((w.alloc a).alloc b) := ((Below.refl _ _).alloc (Nat.le_refl _) _).alloc (by simp) _

set_option maxHeartbeats 400000 in
theorem lookOf_any (a : Int) (w : World) : Calls Try.prog 11 #[.int .i64 a] w (LookPost w (partsF a)) := by
  have H : ∀ w, Calls Try.prog 9 #[.int .i64 a] w fun e w' => e = .returned (partsV (partsF a)) ∧ w = w' := fun w => parts_any a w
  obtain ⟨l, hl⟩ : ∃ l, l = partsF a := ⟨_, rfl⟩
  rw [← hl] at H ⊢
  clear hl
  obtain ⟨b, u, t, f, k⟩ := l
  have HH := Lib.hid H
  clear H
  go_enter Try.func11, Try.ntmps11
  go_wp2_with fail
  refine (HH.out _).mono ?_
  rintro e w' ⟨rfl, rfl⟩
  unfold partsV
  dsimp only
  go_wp2_with fail
  exact bodyPost_ret (v := .agg #[.bool b, .bool u, .bool t, .int .i64 f, .int .i64 k]) (by simp [results, Try.results11, go_sem]) rfl ⟨rfl, below_alloc2 w _ _⟩

set_option maxHeartbeats 400000 in
theorem behind_m1 (l : L) (w : World) : Calls Try.prog 12 #[lookV l, .int .i64 (-1)] w (LookPost w ⟨false, false, false, 0, 0⟩) := by
  obtain ⟨b, u, t, f, k⟩ := l
  unfold lookV
  dsimp only
  go_enter Try.func12, Try.ntmps12
  go_wp2_with fail
  exact bodyPost_ret (v := .agg #[.bool false, .bool false, .bool false, .int .i64 0, .int .i64 0]) (by simp [results, Try.results12, go_sem]) rfl ⟨rfl, below_alloc2 w _ _⟩
set_option maxHeartbeats 400000 in
theorem behind_0 (l : L) (w : World) : Calls Try.prog 12 #[lookV l, .int .i64 0] w (LookPost w ⟨false, false, false, 0, 0⟩) := by
  obtain ⟨b, u, t, f, k⟩ := l
  unfold lookV
  dsimp only
  go_enter Try.func12, Try.ntmps12
  go_wp2_with fail
  exact bodyPost_ret (v := .agg #[.bool false, .bool false, .bool false, .int .i64 0, .int .i64 0]) (by simp [results, Try.results12, go_sem]) rfl ⟨rfl, below_alloc2 w _ _⟩
set_option maxHeartbeats 400000 in
theorem behind_1 (l : L) (w : World) : Calls Try.prog 12 #[lookV l, .int .i64 1] w (LookPost w ⟨true, l.u, l.t, l.f, l.k⟩) := by
  obtain ⟨b, u, t, f, k⟩ := l
  unfold lookV
  dsimp only
  go_enter Try.func12, Try.ntmps12
  go_wp2_with fail
  exact bodyPost_ret (v := .agg #[.bool true, .bool u, .bool t, .int .i64 f, .int .i64 k]) (by simp [results, Try.results12, go_sem]) rfl ⟨rfl, below_alloc2 w _ _⟩
set_option maxHeartbeats 400000 in
theorem behind_22 (l : L) (w : World) : Calls Try.prog 12 #[lookV l, .int .i64 22] w (LookPost w ⟨false, l.u, l.t, l.f, l.k⟩) := by
  obtain ⟨b, u, t, f, k⟩ := l
  unfold lookV
  dsimp only
  go_enter Try.func12, Try.ntmps12
  go_wp2_with fail
  exact bodyPost_ret (v := .agg #[.bool false, .bool u, .bool t, .int .i64 f, .int .i64 k]) (by simp [results, Try.results12, go_sem]) rfl ⟨rfl, below_alloc2 w _ _⟩
set_option maxHeartbeats 400000 in
theorem behind_4 (l : L) (w : World) : Calls Try.prog 12 #[lookV l, .int .i64 4] w (LookPost w ⟨l.b, true, l.t, l.f, l.k⟩) := by
  obtain ⟨b, u, t, f, k⟩ := l
  unfold lookV
  dsimp only
  go_enter Try.func12, Try.ntmps12
  go_wp2_with fail
  exact bodyPost_ret (v := .agg #[.bool b, .bool true, .bool t, .int .i64 f, .int .i64 k]) (by simp [results, Try.results12, go_sem]) rfl ⟨rfl, below_alloc2 w _ _⟩
set_option maxHeartbeats 400000 in
theorem behind_24 (l : L) (w : World) : Calls Try.prog 12 #[lookV l, .int .i64 24] w (LookPost w ⟨l.b, false, l.t, l.f, l.k⟩) := by
  obtain ⟨b, u, t, f, k⟩ := l
  unfold lookV
  dsimp only
  go_enter Try.func12, Try.ntmps12
  go_wp2_with fail
  exact bodyPost_ret (v := .agg #[.bool b, .bool false, .bool t, .int .i64 f, .int .i64 k]) (by simp [results, Try.results12, go_sem]) rfl ⟨rfl, below_alloc2 w _ _⟩
set_option maxHeartbeats 400000 in
theorem behind_7 (l : L) (w : World) : Calls Try.prog 12 #[lookV l, .int .i64 7] w (LookPost w ⟨l.b, l.u, true, l.f, l.k⟩) := by
  obtain ⟨b, u, t, f, k⟩ := l
  unfold lookV
  dsimp only
  go_enter Try.func12, Try.ntmps12
  go_wp2_with fail
  exact bodyPost_ret (v := .agg #[.bool b, .bool u, .bool true, .int .i64 f, .int .i64 k]) (by simp [results, Try.results12, go_sem]) rfl ⟨rfl, below_alloc2 w _ _⟩
set_option maxHeartbeats 400000 in
theorem behind_27 (l : L) (w : World) : Calls Try.prog 12 #[lookV l, .int .i64 27] w (LookPost w ⟨l.b, l.u, false, l.f, l.k⟩) := by
  obtain ⟨b, u, t, f, k⟩ := l
  unfold lookV
  dsimp only
  go_enter Try.func12, Try.ntmps12
  go_wp2_with fail
  exact bodyPost_ret (v := .agg #[.bool b, .bool u, .bool false, .int .i64 f, .int .i64 k]) (by simp [results, Try.results12, go_sem]) rfl ⟨rfl, below_alloc2 w _ _⟩
set_option maxHeartbeats 400000 in
theorem behind_39 (l : L) (w : World) : Calls Try.prog 12 #[lookV l, .int .i64 39] w (LookPost w ⟨l.b, l.u, l.t, 0, l.k⟩) := by
  obtain ⟨b, u, t, f, k⟩ := l
  unfold lookV
  dsimp only
  go_enter Try.func12, Try.ntmps12
  go_wp2_with fail
  exact bodyPost_ret (v := .agg #[.bool b, .bool u, .bool t, .int .i64 0, .int .i64 k]) (by simp [results, Try.results12, go_sem]) rfl ⟨rfl, below_alloc2 w _ _⟩
set_option maxHeartbeats 400000 in
theorem behind_49 (l : L) (w : World) : Calls Try.prog 12 #[lookV l, .int .i64 49] w (LookPost w ⟨l.b, l.u, l.t, l.f, 0⟩) := by
  obtain ⟨b, u, t, f, k⟩ := l
  unfold lookV
  dsimp only
  go_enter Try.func12, Try.ntmps12
  go_wp2_with fail
  exact bodyPost_ret (v := .agg #[.bool b, .bool u, .bool t, .int .i64 f, .int .i64 0]) (by simp [results, Try.results12, go_sem]) rfl ⟨rfl, below_alloc2 w _ _⟩
set_option maxHeartbeats 400000 in
theorem behind_fore (l : L) (p : Int) (h0 : 30 ≤ p) (h1 : p ≤ 37) (w : World) : Calls Try.prog 12 #[lookV l, .int .i64 p] w (LookPost w ⟨l.b, l.u, l.t, p - 29, l.k⟩) := by
  obtain ⟨b, u, t, f, k⟩ := l
  unfold lookV
  dsimp only
  have nm1 : (p == -1) = false := by simp; omega
  have n0 : (p == 0) = false := by simp; omega
  have n1 : (p == 1) = false := by simp; omega
  have n22 : (p == 22) = false := by simp; omega
  have n4 : (p == 4) = false := by simp; omega
  have n24 : (p == 24) = false := by simp; omega
  have n7 : (p == 7) = false := by simp; omega
  have n27 : (p == 27) = false := by simp; omega
  go_enter Try.func12, Try.ntmps12
  go_wp2_with fail
  exact bodyPost_ret (v := .agg #[.bool b, .bool u, .bool t, .int .i64 (p - 29), .int .i64 k]) (by simp [results, Try.results12, go_sem]) rfl ⟨rfl, below_alloc2 w _ _⟩
set_option maxHeartbeats 400000 in
theorem behind_back (l : L) (p : Int) (h0 : 40 ≤ p) (h1 : p ≤ 47) (w : World) : Calls Try.prog 12 #[lookV l, .int .i64 p] w (LookPost w ⟨l.b, l.u, l.t, l.f, p - 39⟩) := by
  obtain ⟨b, u, t, f, k⟩ := l
  unfold lookV
  dsimp only
  have nm1 : (p == -1) = false := by simp; omega
  have n0 : (p == 0) = false := by simp; omega
  have n1 : (p == 1) = false := by simp; omega
  have n22 : (p == 22) = false := by simp; omega
  have n4 : (p == 4) = false := by simp; omega
  have n24 : (p == 24) = false := by simp; omega
  have n7 : (p == 7) = false := by simp; omega
  have n27 : (p == 27) = false := by simp; omega
  have n39 : (p == 39) = false := by simp; omega
  have h2 : ¬ p ≤ 37 := by omega
  have h3 : 30 ≤ p := by omega
  go_enter Try.func12, Try.ntmps12
  go_wp2_with fail
  exact bodyPost_ret (v := .agg #[.bool b, .bool u, .bool t, .int .i64 f, .int .i64 (p - 39)]) (by simp [results, Try.results12, go_sem]) rfl ⟨rfl, below_alloc2 w _ _⟩
set_option maxHeartbeats 400000 in
theorem behind_o1 (l : L) (p : Int) (hp : p ≠ -1 ∧ p ≠ 0 ∧ p ≠ 1 ∧ p ≠ 22 ∧ p ≠ 4 ∧ p ≠ 24 ∧ p ≠ 7 ∧ p ≠ 27 ∧ p ≠ 39 ∧ p ≠ 49) (h : p < 30) (w : World) : Calls Try.prog 12 #[lookV l, .int .i64 p] w (LookPost w ⟨l.b, l.u, l.t, l.f, l.k⟩) := by
  obtain ⟨b, u, t, f, k⟩ := l
  unfold lookV
  dsimp only
  have nm1 : (p == -1) = false := by simp; omega
  have n0 : (p == 0) = false := by simp; omega
  have n1 : (p == 1) = false := by simp; omega
  have n22 : (p == 22) = false := by simp; omega
  have n4 : (p == 4) = false := by simp; omega
  have n24 : (p == 24) = false := by simp; omega
  have n7 : (p == 7) = false := by simp; omega
  have n27 : (p == 27) = false := by simp; omega
  have n39 : (p == 39) = false := by simp; omega
  have n49 : (p == 49) = false := by simp; omega
  clear hp
  have c1 : decide (30 ≤ p) = false := by simp; omega
  have c2 : decide (40 ≤ p) = false := by simp; omega
  go_enter Try.func12, Try.ntmps12
  go_wp2_with fail
  exact bodyPost_ret (v := .agg #[.bool b, .bool u, .bool t, .int .i64 f, .int .i64 k]) (by simp [results, Try.results12, go_sem]) rfl ⟨rfl, below_alloc2 w _ _⟩
set_option maxHeartbeats 400000 in
theorem behind_o2 (l : L) (p : Int) (hp : p ≠ -1 ∧ p ≠ 0 ∧ p ≠ 1 ∧ p ≠ 22 ∧ p ≠ 4 ∧ p ≠ 24 ∧ p ≠ 7 ∧ p ≠ 27 ∧ p ≠ 39 ∧ p ≠ 49) (h : 37 < p) (h' : p < 40) (w : World) : Calls Try.prog 12 #[lookV l, .int .i64 p] w (LookPost w ⟨l.b, l.u, l.t, l.f, l.k⟩) := by
  obtain ⟨b, u, t, f, k⟩ := l
  unfold lookV
  dsimp only
  have nm1 : (p == -1) = false := by simp; omega
  have n0 : (p == 0) = false := by simp; omega
  have n1 : (p == 1) = false := by simp; omega
  have n22 : (p == 22) = false := by simp; omega
  have n4 : (p == 4) = false := by simp; omega
  have n24 : (p == 24) = false := by simp; omega
  have n7 : (p == 7) = false := by simp; omega
  have n27 : (p == 27) = false := by simp; omega
  have n39 : (p == 39) = false := by simp; omega
  have n49 : (p == 49) = false := by simp; omega
  clear hp
  have c1 : decide (30 ≤ p) = true := by simp; omega
  have c2 : decide (p ≤ 37) = false := by simp; omega
  have c3 : decide (40 ≤ p) = false := by simp; omega
  go_enter Try.func12, Try.ntmps12
  go_wp2_with fail
  exact bodyPost_ret (v := .agg #[.bool b, .bool u, .bool t, .int .i64 f, .int .i64 k]) (by simp [results, Try.results12, go_sem]) rfl ⟨rfl, below_alloc2 w _ _⟩
set_option maxHeartbeats 400000 in
theorem behind_o3 (l : L) (p : Int) (hp : p ≠ -1 ∧ p ≠ 0 ∧ p ≠ 1 ∧ p ≠ 22 ∧ p ≠ 4 ∧ p ≠ 24 ∧ p ≠ 7 ∧ p ≠ 27 ∧ p ≠ 39 ∧ p ≠ 49) (h : 47 < p) (w : World) : Calls Try.prog 12 #[lookV l, .int .i64 p] w (LookPost w ⟨l.b, l.u, l.t, l.f, l.k⟩) := by
  obtain ⟨b, u, t, f, k⟩ := l
  unfold lookV
  dsimp only
  have nm1 : (p == -1) = false := by simp; omega
  have n0 : (p == 0) = false := by simp; omega
  have n1 : (p == 1) = false := by simp; omega
  have n22 : (p == 22) = false := by simp; omega
  have n4 : (p == 4) = false := by simp; omega
  have n24 : (p == 24) = false := by simp; omega
  have n7 : (p == 7) = false := by simp; omega
  have n27 : (p == 27) = false := by simp; omega
  have n39 : (p == 39) = false := by simp; omega
  have n49 : (p == 49) = false := by simp; omega
  clear hp
  have c1 : decide (30 ≤ p) = true := by simp; omega
  have c2 : decide (p ≤ 37) = false := by simp; omega
  have c3 : decide (40 ≤ p) = true := by simp; omega
  have c4 : decide (p ≤ 47) = false := by simp; omega
  go_enter Try.func12, Try.ntmps12
  go_wp2_with fail
  exact bodyPost_ret (v := .agg #[.bool b, .bool u, .bool t, .int .i64 f, .int .i64 k]) (by simp [results, Try.results12, go_sem]) rfl ⟨rfl, below_alloc2 w _ _⟩

theorem behind_any (l : L) (p : Int) (w : World) : Calls Try.prog 12 #[lookV l, .int .i64 p] w (LookPost w (behindF l p)) := by
  by_cases c : p = -1
  · subst c; exact behind_m1 l w
  by_cases c0 : p = 0
  · subst c0; exact behind_0 l w
  by_cases c1 : p = 1
  · subst c1; exact behind_1 l w
  by_cases c22 : p = 22
  · subst c22; exact behind_22 l w
  by_cases c4 : p = 4
  · subst c4; exact behind_4 l w
  by_cases c24 : p = 24
  · subst c24; exact behind_24 l w
  by_cases c7 : p = 7
  · subst c7; exact behind_7 l w
  by_cases c27 : p = 27
  · subst c27; exact behind_27 l w
  by_cases c39 : p = 39
  · subst c39; exact behind_39 l w
  by_cases c49 : p = 49
  · subst c49; exact behind_49 l w
  have hp : p ≠ -1 ∧ p ≠ 0 ∧ p ≠ 1 ∧ p ≠ 22 ∧ p ≠ 4 ∧ p ≠ 24 ∧ p ≠ 7 ∧ p ≠ 27 ∧ p ≠ 39 ∧ p ≠ 49 := ⟨c, c0, c1, c22, c4, c24, c7, c27, c39, c49⟩
  unfold behindF
  rw [if_neg (by omega), if_neg c1, if_neg c22, if_neg c4, if_neg c24, if_neg c7, if_neg c27]
  by_cases d : 30 ≤ p ∧ p ≤ 37
  · rw [if_pos d]; exact behind_fore l p d.1 d.2 w
  rw [if_neg d, if_neg c39]
  by_cases d2 : 40 ≤ p ∧ p ≤ 47
  · rw [if_pos d2]; exact behind_back l p d2.1 d2.2 w
  rw [if_neg d2, if_neg c49]
  by_cases q : p < 30
  · exact behind_o1 l p hp q w
  by_cases q2 : p < 40
  · exact behind_o2 l p hp (by omega) q2 w
  exact behind_o3 l p hp (by omega) w
end Go.Proofs.Ythjpfljklbfeeaa
