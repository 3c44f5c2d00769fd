/-
  That equal rows of numbers, equal rows of actions, and equal places are found the same.
-/
import Derived.Test.YtgpjphecgcfikaaFeed
import Derived.Deep.RegionHeldLaw
import Derived.BigQuiet
namespace Go.Proofs.Ytgpjphecgcfikaa
open Go.RowKit

def TruePost (w : World) (e : Ending) (w' : World) : Prop := e = .returned (.bool true) ∧ ∃ m, w' = w.drewN m
theorem TruePost.below {w w' : World} (h : ∃ m, w' = w.drewN m) : Below w.heap.size w w' := by
  obtain ⟨m, rfl⟩ := h
  exact below_drewN (Below.refl _ _) m
def SameRel (w : World) (n : Nat) (i : Value) (wr : World) : Prop := ∃ k m : Nat, i = .int .i64 k ∧ k ≤ n ∧ wr = w.drewN m

set_option maxHeartbeats 1000000 in
theorem sameInts_any (va vb : Value) (l : List Int) (B B' : Nat) (w : World) (ha : Ints w B va l) (hb : Ints w B' vb l) (hn : l.length ≤ 1000) :
    Calls Try.prog 19 #[va, vb] w (TruePost w) := by
  have RA := Lib.hid (fun m => (ha.below (below_drewN (Below.refl w.heap.size w) m) (Nat.le_refl _)).read)
  have RB := Lib.hid (fun m => (hb.below (below_drewN (Below.refl w.heap.size w) m) (Nat.le_refl _)).read)
  obtain ⟨A, c, rfl⟩ := ints_form ha
  obtain ⟨A', c', rfl⟩ := ints_form hb
  clear ha hb
  go_enter Try.func19, Try.ntmps19
  go_wp2_with fail
  go_loopw [5] (SameRel w l.length) (fun i _ => l.length - (intOf i).toNat)
  case atStart => exact ⟨0, 0, rfl, Nat.zero_le _, rfl⟩
  case round =>
    obtain ⟨k, nd, rfl, hle, hwr⟩ := hrel
    by_cases hlt : k < l.length
    · have hki : (k : Int) < (l.length : Int) := by omega
      have ra := RA.out nd
      have rb := RB.out nd
      rw [← hwr] at ra rb
      obtain ⟨D1, c1, e1, r1⟩ := ra
      obtain ⟨D2, c2, e2, r2⟩ := rb
      have HW := Lib.hid hwr
      clear hwr
      obtain ⟨b1, z1, rfl, q1, x1⟩ := r1 k hlt
      obtain ⟨b2, z2, rfl, q2, x2⟩ := r2 k hlt
      obtain rfl : z1 = z2 := by rw [q1] at q2; simpa using q2
      simp only [Value.slice.injEq] at e1 e2
      obtain ⟨rfl, _, rfl⟩ := e1
      obtain ⟨rfl, _, rfl⟩ := e2
      clear r1 r2 q1 q2 RA RB
      go_wp2_with fail
      go_quiet (fail)
      go_wp2_with fail
      go_roundw
      case rel => exact ⟨k + 1, nd + nq, by go_num, by omega, by rw [HW.out, World.drewN_drewN]⟩
      case measure => simp [intOf]; omega
    · have ek : k = l.length := by omega
      subst ek
      go_wp2
      go_ret
      exact ⟨rfl, nd, rfl⟩

set_option maxHeartbeats 2000000 in
theorem sameActions_any (va vb : Value) (l : List A) (B B' : Nat) (w : World) (ha : Acts w B va l) (hb : Acts w B' vb l) (hn : l.length ≤ 1000000) (hpl : ∀ x ∈ l, x.par.length ≤ 1000) :
    Calls Try.prog 12 #[va, vb] w (TruePost w) := by
  have RA := Lib.hid (fun m => (ha.below (below_drewN (Below.refl w.heap.size w) m) (Nat.le_refl _)).read)
  have RB := Lib.hid (fun m => (hb.below (below_drewN (Below.refl w.heap.size w) m) (Nat.le_refl _)).read)
  obtain ⟨D, c, rfl⟩ := acts_form ha
  obtain ⟨D', c', rfl⟩ := acts_form hb
  clear ha hb
  go_enter Try.func12, Try.ntmps12
  go_wp2_with fail
  go_loopw [5] (SameRel w l.length) (fun i _ => l.length - (intOf i).toNat)
  case atStart => exact ⟨0, 0, rfl, Nat.zero_le _, rfl⟩
  case round =>
    obtain ⟨k, nd, rfl, hle, hwr⟩ := hrel
    by_cases hlt : k < l.length
    · have hki : (k : Int) < (l.length : Int) := by omega
      have ra := RA.out nd
      have rb := RB.out nd
      rw [← hwr] at ra rb
      obtain ⟨D1, c1, e1, r1⟩ := ra
      obtain ⟨D2, c2, e2, r2⟩ := rb
      have HW := Lib.hid hwr
      clear hwr
      obtain ⟨b1, z1, p1, rfl, q1, x0, x1, x2, ip⟩ := r1 k hlt
      obtain ⟨b2, z2, p2, rfl, q2, y0, y1, y2, iq⟩ := r2 k hlt
      obtain rfl : z1 = z2 := by rw [q1] at q2; simpa using q2
      simp only [Value.slice.injEq] at e1 e2
      obtain ⟨rfl, _, rfl⟩ := e1
      obtain ⟨rfl, _, rfl⟩ := e2
      have hzl : z1.par.length ≤ 1000 := hpl z1 (List.mem_of_getElem? q1)
      clear r1 r2 q1 q2 RA RB
      obtain ⟨P, cp, rfl⟩ := ints_form ip
      obtain ⟨Q, cq, rfl⟩ := ints_form iq
      go_wp2_with fail
      go_quiet (first | (go_at_call 19; refine Calls.quiet_of (sameInts_any _ _ z1.par B B' _ (by exact Ints.below ip (below_drewN (Below.refl _ _) _) (Nat.le_refl _)) (by exact Ints.below iq (below_drewN (Below.refl _ _) _) (Nat.le_refl _)) hzl)))
      go_wp2_with fail
      go_roundw
      case rel => exact ⟨k + 1, nd + nq, by go_num, by omega, by rw [HW.out, World.drewN_drewN]⟩
      case measure => simp [intOf]; omega
    · have ek : k = l.length := by omega
      subst ek
      go_wp2
      go_ret
      exact ⟨rfl, nd, rfl⟩

def TrueBelow (w : World) (e : Ending) (w' : World) : Prop := e = .returned (.bool true) ∧ Below w.heap.size w w'

set_option maxHeartbeats 1000000 in
theorem sameEsc_any (e : E) (p q : Value) (B B' : Nat) (w : World) (hp : Ints w B p e.par) (hq : Ints w B' q e.par) (hn : e.par.length ≤ 1000) :
    Calls Try.prog 15 #[escV e p, escV e q] w (TrueBelow w) := by
  have SI : Hid (∀ w, Ints w B p e.par → Ints w B' q e.par → Calls Try.prog 19 #[p, q] w (TruePost w)) := fun w h1 h2 => sameInts_any p q e.par B B' w h1 h2 hn
  have hp2 : ∀ o o', Ints ((w.alloc o).alloc o') B p e.par := fun o o' => (hp.alloc o).alloc o'
  have hq2 : ∀ o o', Ints ((w.alloc o).alloc o') B' q e.par := fun o o' => (hq.alloc o).alloc o'
  obtain ⟨D, c, rfl⟩ := ints_form hp
  obtain ⟨D', c', rfl⟩ := ints_form hq
  unfold escV
  go_enter Try.func15, Try.ntmps15
  go_wp2_with (
    go_at_call 19
    refine (SI.out _ (by exact hp2 _ _) (by exact hq2 _ _)).mono ?_
    rintro x w3 ⟨rfl, hw3⟩
    obtain ⟨H1, H2⟩ := two_new (TruePost.below hw3)
    have hb3 := TruePost.below hw3
    clear hw3
    have hz1 := H1.lt
    have hz2 := H2.lt
    obtain ⟨x0, x1, x2, x3, x4, x5, x6, x7, xf⟩ := esc_cells H1
    obtain ⟨y0, y1, y2, y3, y4, y5, y6, y7, yf⟩ := esc_cells H2)
  go_ret
  exact ⟨rfl, (below_alloc2 w _ _).trans (hb3.mono (by simp; omega))⟩
end Go.Proofs.Ytgpjphecgcfikaa
