/-
  The walk of RatiTells. Conditions: the bits are those of uint64s.
-/
import Derived.Test.YtmnpialffhglhaaNum
import Derived.Test.YtmnpialffhglhaaSame
namespace Go.Proofs.Ytmnpialffhglhaa
open Go.RowKit Ieee

def TrueBelow (w : World) (e : Ending) (w' : World) : Prop := e = .returned (.bool true) ∧ Below w.heap.size w w'

theorem same_is' (a b : Nat) (x y z : Bool) (hx : ((a : Int) == b) = x) (hy : (od a a != some .eq) = y) (hz : (od b b != some .eq) = z) : sameF a b = (x || (y && z)) := by
  by_cases hab : a = b
  · subst hab
    rw [same_self]
    have : x = true := by rw [← hx]; exact beq_self_eq_true _
    rw [this]; rfl
  · have hx' : x = false := by
      rw [← hx]
      exact beq_eq_false_iff_ne.2 (by omega)
    unfold sameF
    rw [show (FloatKind.f64.format.order a a != some .eq) = y from hy, show (FloatKind.f64.format.order b b != some .eq) = z from hz]
    rw [hx, hx']
    cases y <;> cases z <;> rfl

set_option maxHeartbeats 4000000 in
theorem tells_walk (n r s lo hi : Int) (hr : 0 ≤ r) (hr1 : r < 18446744073709551616) (hs : 0 ≤ s) (hs1 : s < 18446744073709551616) (w : World) :
    Calls Try.prog 5 #[.int .i64 n, .int .u64 r, .int .u64 s, .int .i64 lo, .int .i64 hi] w (TrueBelow w) := by
  go_enter Try.func5, Try.ntmps5
  go_wp2_with fail
  refine (number_any r hr hr1 _).mono ?_
  rintro e w1 ⟨a, rfl, b1⟩
  go_wp2_with fail
  refine (number_any s hs hs1 _).mono ?_
  rintro e w2 ⟨b, rfl, b2⟩
  have b3 : Below w.heap.size w w2 := b1.trans (b2.mono b1.size)
  clear b1 b2
  obtain ⟨x, hx⟩ : ∃ x, ((a : Int) == b) = x := ⟨_, rfl⟩
  obtain ⟨y, hy⟩ : ∃ y, (od a a != some .eq) = y := ⟨_, rfl⟩
  obtain ⟨z, hz⟩ : ∃ z, (od b b != some .eq) = z := ⟨_, rfl⟩
  have hS1 := same_is' a b x y z hx hy hz
  have hS2 : sameF b a = (x || (y && z)) := by rw [same_sym]; exact hS1
  have hy' : (FloatKind.f64.format.order a a != some .eq) = y := hy
  have hz' : (FloatKind.f64.format.order b b != some .eq) = z := hz
  clear hy hz
  have p1 : (partF n a == partF n a) = true := beq_self_eq_true _
  have p2 : (partF (bits .and .i64 n 255) b == partF (bits .and .i64 n 255) b) = true := beq_self_eq_true _
  have p3 : (heldF n lo hi == heldF n lo hi) = true := beq_self_eq_true _
  have hk : (x = true) ∨ (x = false ∧ y = true ∧ z = true) ∨ (x = false ∧ y = true ∧ z = false) ∨ (x = false ∧ y = false) := by
    cases x <;> cases y <;> cases z <;> simp
  have H1 : ∀ w, Calls Try.prog 13 #[.float .f64 a, .float .f64 b] w (Ans (.bool (x || (y && z))) w) := same_is hS1
  have H2 : ∀ w, Calls Try.prog 13 #[.float .f64 b, .float .f64 a] w (Ans (.bool (x || (y && z))) w) := same_is hS2
  clear hS1 hS2
  rcases hk with rfl | ⟨rfl, rfl, rfl⟩ | ⟨rfl, rfl, rfl⟩ | ⟨rfl, rfl⟩
  · replace H1 : ∀ w, Calls Try.prog 13 #[.float .f64 a, .float .f64 b] w (Ans (.bool true) w) := H1
    replace H2 : ∀ w, Calls Try.prog 13 #[.float .f64 b, .float .f64 a] w (Ans (.bool true) w) := H2
    go_wp2_with fail
    refine (part_any _ _ _).mono ?_
    rintro e w' ⟨rfl, rfl⟩
    go_wp2_with fail
    refine (rpart_any _ _ _).mono ?_
    rintro e w' ⟨rfl, rfl⟩
    go_wp2_with fail
    refine (part_any _ _ _).mono ?_
    rintro e w' ⟨rfl, rfl⟩
    go_wp2_with fail
    refine (rpart_any _ _ _).mono ?_
    rintro e w' ⟨rfl, rfl⟩
    go_wp2_with fail
    refine (held_any _ _ _ _).mono ?_
    rintro e w' ⟨rfl, rfl⟩
    go_wp2_with fail
    refine (rheld_any _ _ _ _).mono ?_
    rintro e w' ⟨rfl, rfl⟩
    go_wp2_with fail
    refine (H1 _).mono ?_
    rintro e w' ⟨rfl, rfl⟩
    go_wp2_with fail
    refine (H2 _).mono ?_
    rintro e w' ⟨rfl, rfl⟩
    go_wp2_with fail
    refine (awake_any _).mono ?_
    rintro e w' ⟨rfl, rfl⟩
    go_wp2_with fail
    go_ret
    exact ⟨rfl, b3⟩
  · replace H1 : ∀ w, Calls Try.prog 13 #[.float .f64 a, .float .f64 b] w (Ans (.bool true) w) := H1
    replace H2 : ∀ w, Calls Try.prog 13 #[.float .f64 b, .float .f64 a] w (Ans (.bool true) w) := H2
    go_wp2_with fail
    refine (part_any _ _ _).mono ?_
    rintro e w' ⟨rfl, rfl⟩
    go_wp2_with fail
    refine (rpart_any _ _ _).mono ?_
    rintro e w' ⟨rfl, rfl⟩
    go_wp2_with fail
    refine (part_any _ _ _).mono ?_
    rintro e w' ⟨rfl, rfl⟩
    go_wp2_with fail
    refine (rpart_any _ _ _).mono ?_
    rintro e w' ⟨rfl, rfl⟩
    go_wp2_with fail
    refine (held_any _ _ _ _).mono ?_
    rintro e w' ⟨rfl, rfl⟩
    go_wp2_with fail
    refine (rheld_any _ _ _ _).mono ?_
    rintro e w' ⟨rfl, rfl⟩
    go_wp2_with fail
    refine (H1 _).mono ?_
    rintro e w' ⟨rfl, rfl⟩
    go_wp2_with fail
    refine (H2 _).mono ?_
    rintro e w' ⟨rfl, rfl⟩
    go_wp2_with fail
    refine (awake_any _).mono ?_
    rintro e w' ⟨rfl, rfl⟩
    go_wp2_with fail
    go_ret
    exact ⟨rfl, b3⟩
  · replace H1 : ∀ w, Calls Try.prog 13 #[.float .f64 a, .float .f64 b] w (Ans (.bool false) w) := H1
    replace H2 : ∀ w, Calls Try.prog 13 #[.float .f64 b, .float .f64 a] w (Ans (.bool false) w) := H2
    go_wp2_with fail
    refine (part_any _ _ _).mono ?_
    rintro e w' ⟨rfl, rfl⟩
    go_wp2_with fail
    refine (rpart_any _ _ _).mono ?_
    rintro e w' ⟨rfl, rfl⟩
    go_wp2_with fail
    refine (part_any _ _ _).mono ?_
    rintro e w' ⟨rfl, rfl⟩
    go_wp2_with fail
    refine (rpart_any _ _ _).mono ?_
    rintro e w' ⟨rfl, rfl⟩
    go_wp2_with fail
    refine (held_any _ _ _ _).mono ?_
    rintro e w' ⟨rfl, rfl⟩
    go_wp2_with fail
    refine (rheld_any _ _ _ _).mono ?_
    rintro e w' ⟨rfl, rfl⟩
    go_wp2_with fail
    refine (H1 _).mono ?_
    rintro e w' ⟨rfl, rfl⟩
    go_wp2_with fail
    refine (H2 _).mono ?_
    rintro e w' ⟨rfl, rfl⟩
    go_wp2_with fail
    refine (awake_any _).mono ?_
    rintro e w' ⟨rfl, rfl⟩
    go_wp2_with fail
    go_ret
    exact ⟨rfl, b3⟩
  · replace H1 : ∀ w, Calls Try.prog 13 #[.float .f64 a, .float .f64 b] w (Ans (.bool false) w) := H1
    replace H2 : ∀ w, Calls Try.prog 13 #[.float .f64 b, .float .f64 a] w (Ans (.bool false) w) := H2
    go_wp2_with fail
    refine (part_any _ _ _).mono ?_
    rintro e w' ⟨rfl, rfl⟩
    go_wp2_with fail
    refine (rpart_any _ _ _).mono ?_
    rintro e w' ⟨rfl, rfl⟩
    go_wp2_with fail
    refine (part_any _ _ _).mono ?_
    rintro e w' ⟨rfl, rfl⟩
    go_wp2_with fail
    refine (rpart_any _ _ _).mono ?_
    rintro e w' ⟨rfl, rfl⟩
    go_wp2_with fail
    refine (held_any _ _ _ _).mono ?_
    rintro e w' ⟨rfl, rfl⟩
    go_wp2_with fail
    refine (rheld_any _ _ _ _).mono ?_
    rintro e w' ⟨rfl, rfl⟩
    go_wp2_with fail
    refine (H1 _).mono ?_
    rintro e w' ⟨rfl, rfl⟩
    go_wp2_with fail
    refine (H2 _).mono ?_
    rintro e w' ⟨rfl, rfl⟩
    go_wp2_with fail
    refine (awake_any _).mono ?_
    rintro e w' ⟨rfl, rfl⟩
    go_wp2_with fail
    go_ret
    exact ⟨rfl, b3⟩

end Go.Proofs.Ytmnpialffhglhaa
