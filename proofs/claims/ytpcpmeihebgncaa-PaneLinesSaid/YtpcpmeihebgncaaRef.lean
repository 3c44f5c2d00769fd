/-
  What the document's Blank, SameRow, SameRows and Fit answer, and slices.Equal and EqualFunc of rows and lines. Conditions: rows and tables of at most a hundred thousand; SameRow, SameRows and Equal of equals; Equal of rows whose first signs differ.
-/
import Derived.Test.YtpcpmeihebgncaaFill
import Derived.Deep.QuietTactic
import Derived.BigQuiet
namespace Go.Proofs.Ytpcpmeihebgncaa
open Go.RowKit
set_option maxRecDepth 100000

theorem held_within (x : Int) : heldF x 0 1000 = withinF x 1000 := by unfold heldF withinF; omega

set_option maxHeartbeats 400000 in
theorem rblank_any (x : Int) (w : World) : Calls Try.prog 48 #[.int .i64 x] w (RowPost w (blankF x)) := by
  obtain ⟨n, hn⟩ : ∃ n : Nat, withinF x 1000 = n := ⟨(withinF x 1000).toNat, by unfold withinF; omega⟩
  have hn1 : n ≤ 1000 := by have : withinF x 1000 ≤ 1000 := by unfold withinF; omega
                            omega
  have HC : Hid (∀ w, Calls Try.prog 47 #[.int .i64 x, .int .i64 0, .int .i64 1000] w fun e w' => e = .returned (.int .i64 n) ∧ w = w') := fun w => by rw [← hn, ← held_within]; exact held_any x 0 1000 w
  have e : blankF x = blanksF n := by unfold blankF; rw [hn]; rfl
  rw [e]
  clear e hn
  have hm := run_makeC w n (by omega)
  have hR : Row (w.alloc (.cells (cvs (zeros n)).toArray 48)) w.heap.size (zeros n) := Held.new _ _ _
  have HR := Lib.hid hR
  clear hR
  go_enter Try.func48, Try.ntmps48
  go_wp2_with (go_at_call 47; refine (HC.out _).mono ?_; rintro e w' ⟨rfl, rfl⟩)
  go_loopw [4] (BlanksRel w w.heap.size n) (fun i _ => n - (intOf i).toNat)
  case atStart => exact ⟨0, rfl, Nat.zero_le _, HR.out, (Below.refl _ _).alloc (Nat.le_refl _) _⟩
  case round =>
    obtain ⟨k, rfl, hle, hrow, hb⟩ := hrel
    have hz := hrow.lt
    by_cases hlt : k < n
    · have hki : (k : Int) < (n : Int) := by omega
      have hpl := part_len n k hle
      obtain ⟨c0, c1⟩ := hrow.cells k (by omega)
      have cf := hrow.frozen
      go_wp2_with fail
      go_roundw
      case rel =>
        refine ⟨k + 1, by go_num, by omega, ?_, ?_⟩
        · rw [← part_next n k hlt]
          exact hrow.set k C.blank
        · exact below_set2 hb (Nat.le_refl _) _ _ _ _
      case measure => simp [intOf]; omega
    · have ek : k = n := by omega
      subst ek
      go_wp2_with fail
      go_ret
      refine ⟨w.heap.size, ?_, Nat.le_refl _, ?_, hb⟩
      · rw [blanksF_len]
        rfl
      · have e : part k k = blanksF k := by simp [part, zeros]
        rw [← e]
        exact hrow

/-- It answers so, and only draws. -/
def Quiet (b : Bool) (w : World) (e : Ending) (w' : World) : Prop := e = .returned (.bool b) ∧ ∃ m, w' = w.drewN m
def QRel (w : World) (n : Nat) (i : Value) (wr : World) : Prop := ∃ k : Nat, i = .int .i64 (k : Int) ∧ k ≤ n ∧ ∃ m, wr = w.drewN m
theorem RowAt.drewN {B : Nat} {w : World} {D : Option Addr} {l : List C} (h : RowAt B w D l) (m : Nat) : RowAt B (w.drewN m) D l := h.below (below_drewN (Below.refl _ _) m) (Nat.le_refl _)
theorem Lines.drewN {B : Nat} {w : World} {D : Option Addr} {L : List (List C)} (h : Lines B w D L) (m : Nat) : Lines B (w.drewN m) D L := h.below (below_drewN (Below.refl _ _) m) (Nat.le_refl _)

set_option maxHeartbeats 400000 in
theorem sameRow_any (D E : Option Addr) (c d : Nat) (l : List C) (w : World) (h1 : RowAt 0 w D l) (h2 : RowAt 0 w E l) (hn : l.length ≤ 100000) : Calls Try.prog 45 #[.slice D l.length c, .slice E l.length d] w (Quiet true w) := by
  have H1 := Lib.hid h1
  have H2 := Lib.hid h2
  clear h1 h2
  go_enter Try.func45, Try.ntmps45
  go_wp2_with fail
  go_loopw [5] (QRel w l.length) (fun i _ => l.length - (intOf i).toNat)
  case atStart => exact ⟨0, rfl, Nat.zero_le _, 0, rfl⟩
  case round =>
    obtain ⟨k, rfl, hle, m, hm⟩ := hrel
    by_cases hlt : k < l.length
    · have hki : (k : Int) < (l.length : Int) := by omega
      obtain ⟨rb, ro, rfl, _, _, _, y0, y1⟩ := (H1.out.drewN m) k hlt
      obtain ⟨wb, wo, rfl, _, _, _, z0, z1⟩ := (H2.out.drewN m) k hlt
      rw [← hm] at y0 y1 z0 z1
      have HM := Lib.hid hm
      clear hm
      generalize l[k] = z at y0 y1 z0 z1
      obtain ⟨zr, za⟩ := z
      go_wp2_with fail
      go_quiet (fail)
      go_wp2_with fail
      go_roundw
      case rel => exact ⟨k + 1, by go_num, by omega, _, by rw [HM.out, World.drewN_drewN]⟩
      case measure => simp [intOf]; omega
    · have hki : ¬ (k : Int) < (l.length : Int) := by omega
      have HM := Lib.hid hm
      clear hm
      go_wp2_with fail
      go_ret
      exact ⟨rfl, m, HM.out⟩
set_option maxHeartbeats 400000 in
theorem sameRows_any (D E : Option Addr) (c d : Nat) (L : List (List C)) (w : World) (h1 : Lines 0 w D L) (h2 : Lines 0 w E L) (hn : L.length ≤ 100000) (hl : ∀ r ∈ L, r.length ≤ 1000) : Calls Try.prog 23 #[.slice D L.length c, .slice E L.length d] w (Quiet true w) := by
  have H1 := Lib.hid h1
  have H2 := Lib.hid h2
  clear h1 h2
  go_enter Try.func23, Try.ntmps23
  go_wp2_with fail
  go_loopw [5] (QRel w L.length) (fun i _ => L.length - (intOf i).toNat)
  case atStart => exact ⟨0, rfl, Nat.zero_le _, 0, rfl⟩
  case round =>
    obtain ⟨k, rfl, hle, m, hm⟩ := hrel
    by_cases hlt : k < L.length
    · have hki : (k : Int) < (L.length : Int) := by omega
      obtain ⟨rb, ro, R, rc, rfl, _, _, _, y0, _, hr1⟩ := (H1.out.drewN m).at k hlt
      obtain ⟨wb, wo, S, sc, rfl, _, _, _, z0, _, hr2⟩ := (H2.out.drewN m).at k hlt
      rw [← hm] at y0 z0 hr1 hr2
      have HM := Lib.hid hm
      have HQ := Lib.hid (fun j => sameRow_any R S rc sc L[k] (wr.drewN j) (hr1.drewN j) (hr2.drewN j) (by have := hl _ (List.getElem_mem hlt); omega))
      clear hm hr1 hr2
      generalize L[k] = z at *
      go_wp2_with fail
      go_quiet ((go_at_call 45; exact Calls.quiet_of (HQ.out _)))
      go_wp2_with fail
      go_roundw
      case rel => exact ⟨k + 1, by go_num, by omega, _, by rw [HM.out, World.drewN_drewN]⟩
      case measure => simp [intOf]; omega
    · have hki : ¬ (k : Int) < (L.length : Int) := by omega
      have HM := Lib.hid hm
      clear hm
      go_wp2_with fail
      go_ret
      exact ⟨rfl, m, HM.out⟩

end Go.Proofs.Ytpcpmeihebgncaa
