/-
  That equal rows of numbers, of rectangles, and equal trees are found the same. Conditions: rows of at most a thousand elements.
-/
import Derived.Test.YtojgmofpgefonaaB2
namespace Go.Proofs.Ytojgmofpgefonaa
open Go.RowKit
set_option linter.unusedSimpArgs false
set_option maxRecDepth 100000

def TrueQ (w : World) (e : Ending) (w' : World) : Prop := e = .returned (.bool true) ∧ ∃ m, w' = w.drewN m
theorem TrueQ.below {w : World} {e : Ending} {w' : World} (h : TrueQ w e w') : Below w.heap.size w w' := by
  obtain ⟨_, m, rfl⟩ := h
  exact below_drewN (Below.refl _ _) m
def SmRel (w : World) (n : Nat) (i : Value) (wr : World) : Prop := ∃ k m : Nat, i = .int .i64 k ∧ k ≤ n ∧ wr = w.drewN m
set_option maxHeartbeats 1000000 in
theorem sameInts_any (l : List Int) (D D' : Option Addr) (c c' B B' : Nat) (w : World) (ha : TabAt B w D (EI.flat l)) (hb : TabAt B' w D' (EI.flat l)) (hn : l.length ≤ 1000) :
    Calls Try.prog 24 #[.slice D l.length c, .slice D' l.length c'] w (TrueQ w) := by
  have HA := Lib.hid (fun m => ha.below (w' := w.drewN m) (C := w.heap.size) (below_drewN (Below.refl _ _) m) (Nat.le_refl _))
  have HB := Lib.hid (fun m => hb.below (w' := w.drewN m) (C := w.heap.size) (below_drewN (Below.refl _ _) m) (Nat.le_refl _))
  clear ha hb
  go_enter Try.func24, Try.ntmps24
  go_wp2_with fail
  go_loopw [5] (SmRel w l.length) (fun i _ => l.length - (intOf i).toNat)
  case atStart => exact ⟨0, 0, rfl, Nat.zero_le _, rfl⟩
  case round =>
    obtain ⟨k, m, rfl, hle, hw⟩ := hrel
    have HW := Lib.hid hw
    by_cases hlt : k < l.length
    · have hki : (k : Int) < (l.length : Int) := by omega
      have hkk := List.getElem?_eq_getElem hlt
      have h1 := HA.out m
      have h2 := HB.out m
      rw [← hw] at h1 h2
      obtain ⟨b, off, rfl, _, _, _, c0⟩ := int_at h1 k _ hkk
      obtain ⟨b', off', rfl, _, _, _, d0⟩ := int_at h2 k _ hkk
      clear hkk h1 h2 hw
      generalize l[k] = x at *
      go_wp2_with fail
      go_quiet (fail)
      go_wp2_with fail
      go_roundw
      case rel => exact ⟨k + 1, m + nq, by go_num, by omega, by rw [HW.out, World.drewN_drewN]⟩
      case measure => simp [intOf]; omega
    · have ek : k = l.length := by omega
      subst ek
      go_wp2_with fail
      go_ret
      exact ⟨rfl, m, by first | rfl | exact hw⟩
set_option maxHeartbeats 1000000 in
theorem sameInts_nil (n : Nat) (D' : Option Addr) (c' : Nat) (w : World) (hn : 0 < n) : Calls Try.prog 24 #[.slice none 0 0, .slice D' n c'] w (Ans (.bool false) w) := by
  have h : ((0 : Int) != (n : Int)) = true := by simp; omega
  go_enter Try.func24, Try.ntmps24
  go_wp2_with fail
  go_ret
  exact ⟨rfl, rfl⟩
set_option maxHeartbeats 1000000 in
theorem rects_any (l : List R) (D D' : Option Addr) (c c' B B' : Nat) (w : World) (ha : TabAt B w D (ER.flat l)) (hb : TabAt B' w D' (ER.flat l)) (hn : l.length ≤ 1000) :
    Calls Try.prog 23 #[.slice D l.length c, .slice D' l.length c'] w (TrueQ w) := by
  have HA := Lib.hid (fun m => ha.below (w' := w.drewN m) (C := w.heap.size) (below_drewN (Below.refl _ _) m) (Nat.le_refl _))
  have HB := Lib.hid (fun m => hb.below (w' := w.drewN m) (C := w.heap.size) (below_drewN (Below.refl _ _) m) (Nat.le_refl _))
  clear ha hb
  go_enter Try.func23, Try.ntmps23
  go_wp2_with fail
  go_loopw [13] (SmRel w l.length) (fun i _ => l.length - (intOf i).toNat)
  case atStart => exact ⟨0, 0, rfl, Nat.zero_le _, rfl⟩
  case round =>
    obtain ⟨k, m, rfl, hle, hw⟩ := hrel
    have HW := Lib.hid hw
    by_cases hlt : k < l.length
    · have hki : (k : Int) < (l.length : Int) := by omega
      have hkk := List.getElem?_eq_getElem hlt
      have h1 := HA.out m
      have h2 := HB.out m
      rw [← hw] at h1 h2
      obtain ⟨b, off, rfl, _, _, _, c0, c1, c2, c3⟩ := rect_at h1 k _ hkk
      obtain ⟨b', off', rfl, _, _, _, d0, d1, d2, d3⟩ := rect_at h2 k _ hkk
      clear hkk h1 h2 hw
      generalize l[k] = x at *
      obtain ⟨X, Y, W, H⟩ := x
      dsimp only at c0 c1 c2 c3 d0 d1 d2 d3
      go_wp2_with fail
      go_quiet (fail)
      go_wp2_with fail
      go_roundw
      case rel => exact ⟨k + 1, m + nq, by go_num, by omega, by rw [HW.out, World.drewN_drewN]⟩
      case measure => simp [intOf]; omega
    · have ek : k = l.length := by omega
      subst ek
      go_wp2_with fail
      go_ret
      exact ⟨rfl, m, by first | rfl | exact hw⟩
def TrueB (w : World) (e : Ending) (w' : World) : Prop := e = .returned (.bool true) ∧ Below w.heap.size w w'
set_option maxHeartbeats 1000000 in
theorem sameTree_any (l : List N) (D D' : Option Addr) (c c' B B' : Nat) (w : World) (ha : TabAt B w D (EN.flat l)) (hb : TabAt B' w D' (EN.flat l)) (hn : l.length ≤ 1000) :
    Calls Try.prog 20 #[.agg #[.slice D l.length c], .agg #[.slice D' l.length c']] w (TrueB w) := by
  have M0 := Lib.hid (TB.alloc (TB.new w (.slice D l.length c)) (.cells #[.slice D' l.length c'] 30))
  have M1 := Lib.hid (TB.new (w.alloc (.cells #[.slice D l.length c] 30)) (.slice D' l.length c'))
  have B0 := Lib.hid ((below_new w (.cells #[.slice D l.length c] 30)).alloc (by simp) (.cells #[.slice D' l.length c'] 30))
  have HA := Lib.hid (fun w' h => ha.below (w' := w') (C := w.heap.size) h (Nat.le_refl _))
  have HB := Lib.hid (fun w' h => hb.below (w' := w') (C := w.heap.size) h (Nat.le_refl _))
  clear ha hb
  have q0 := M0.out.cell
  have q1 := M1.out.cell
  simp only [World.size_alloc] at q1
  go_enter Try.func20, Try.ntmps20
  go_wp2_with fail
  have N0 := M0.out
  have N1 := M1.out
  simp only [World.size_alloc] at N1
  have P0 := Lib.hid N0
  have P1 := Lib.hid N1
  clear N0 N1 q0 q1 M0 M1
  generalize ((w.alloc (.cells #[.slice D l.length c] 30)).alloc (.cells #[.slice D' l.length c'] 30)) = w1 at *
  go_loopw [5] (SmRel w1 l.length) (fun i _ => l.length - (intOf i).toNat)
  case atStart => exact ⟨0, 0, rfl, Nat.zero_le _, rfl⟩
  case round =>
    obtain ⟨k, m, rfl, hle, hw⟩ := hrel
    have HW := Lib.hid hw
    have z0 : TB wr w.heap.size (.slice D l.length c) := by rw [hw]; exact P0.out
    have z1 : TB wr (w.heap.size + 1) (.slice D' l.length c') := by rw [hw]; exact P1.out
    have q0 := z0.cell
    have q1 := z1.cell
    have hbw : Below w.heap.size w wr := by rw [hw]; exact below_drewN B0.out m
    clear z0 z1 hw
    by_cases hlt : k < l.length
    · have hki : (k : Int) < (l.length : Int) := by omega
      have hkk := List.getElem?_eq_getElem hlt
      obtain ⟨b, off, rfl, _, _, _, c0, c1, c2, c3, c4⟩ := node_at (HA.out _ hbw) k _ hkk
      obtain ⟨b', off', rfl, _, _, _, d0, d1, d2, d3, d4⟩ := node_at (HB.out _ hbw) k _ hkk
      clear hkk
      generalize l[k] = x at *
      obtain ⟨p, d, f, a, e⟩ := x
      dsimp only at c0 c1 c2 c3 c4 d0 d1 d2 d3 d4
      go_wp2_with fail
      go_quiet (fail)
      go_wp2_with fail
      go_roundw
      case rel => exact ⟨k + 1, m + nq, by go_num, by omega, by rw [HW.out, World.drewN_drewN]⟩
      case measure => simp [intOf]; omega
    · have ek : k = l.length := by omega
      subst ek
      go_wp2_with fail
      go_ret
      exact ⟨rfl, hbw⟩
end Go.Proofs.Ytojgmofpgefonaa
