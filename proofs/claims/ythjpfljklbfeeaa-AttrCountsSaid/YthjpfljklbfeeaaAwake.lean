/-
  Rows of numbers that the call itself wrote; that the small check 'awake' at the end of every statement of this seat answers true. Conditions: none.
-/
import Derived.Test.YthjpfljklbfeeaaApply
namespace Go.Proofs.Ythjpfljklbfeeaa
open Go.RowKit

def i64s (l : List Int) : List Value := l.map (Value.int .i64)
/-- A row of numbers that was just laid. -/
theorem readI_lit (w : World) (xs : List Int) (n c : Nat) (hn : xs.length = n) : ReadI (w.alloc (.cells (i64s xs).toArray 3)) (.slice (some ⟨w.heap.size, 0, none⟩) n c) xs := by
  subst hn
  refine ⟨_, _, rfl, fun k hk => ⟨w.heap.size, 0, xs[k], rfl, by simp, by simp [hk], ?_⟩⟩
  rw [Nat.zero_add, (Held.new w 3 _).cell]
  simp [i64s, hk]
def TrueBelow (w : World) (e : Ending) (w' : World) : Prop := e = .returned (.bool true) ∧ Below w.heap.size w w'
/-- Apply of a row that was just laid. -/
theorem apply_lit (a : Int) (xs : List Int) (n : Nat) (w : World) (hn : xs.length = n) (h1 : n ≤ 1000) :
    Calls Try.prog 7 #[.int .i64 a, .slice (some ⟨w.heap.size, 0, none⟩) n n] (w.alloc (.cells (i64s xs).toArray 3)) (ApplyPost w (applyF a xs)) :=
  (apply_any a xs _ _ (readI_lit w xs n n hn) (by omega)).mono fun _ _ ⟨he, hb⟩ => ⟨he, ((Below.refl _ w).alloc (Nat.le_refl _) _).trans (hb.mono (by simp))⟩
theorem apply_nil (a : Int) (w : World) : Calls Try.prog 7 #[.int .i64 a, .slice none 0 0] w (ApplyPost w 0) := apply_any a [] _ w (readI_nil w) (by decide)
theorem apply_of {a r : Int} {xs : List Int} (h : applyF a xs = r) {n : Nat} {w : World} (hn : xs.length = n) (h1 : n ≤ 1000) :
    Calls Try.prog 7 #[.int .i64 a, .slice (some ⟨w.heap.size, 0, none⟩) n n] (w.alloc (.cells (i64s xs).toArray 3)) (ApplyPost w r) := by
  subst h
  exact apply_lit a xs n w hn h1

theorem aw1 : applyF 0 [1, 7, 31, 44] = 1317 := by decide
theorem aw2 : partsF 1317 = ⟨true, false, true, 2, 5⟩ := by kernel_rfl
theorem aw3 : makeF ⟨false, true, false, 9, -1⟩ = 130 := by decide
theorem aw4 : applyF 7 [22, 99] = 6 := by decide

set_option maxHeartbeats 400000 in
theorem awake_any (w : World) : Calls Try.prog 8 #[] w (TrueBelow w) := by
  go_enter Try.func8, Try.ntmps8
  go_wp2_with fail
  refine (apply_of aw1 rfl (by decide)).mono ?_
  rintro e w1 ⟨rfl, hb1⟩
  go_wp2_with fail
  refine (parts_any _ _).mono ?_
  rintro e w' ⟨rfl, rfl⟩
  rw [aw2]
  unfold partsV
  dsimp only
  go_wp2_with fail
  refine (apply_nil _ _).mono ?_
  rintro e w2 ⟨rfl, hb2⟩
  go_wp2_with fail
  refine (make_any _ _ _ _ _ _).mono ?_
  rintro e w' ⟨rfl, rfl⟩
  rw [aw3]
  go_wp2_with fail
  refine (apply_of aw4 rfl (by decide)).mono ?_
  rintro e w3 ⟨rfl, hb3⟩
  go_wp2_with fail
  go_ret
  exact ⟨rfl, hb1.trans ((hb2.mono hb1.size).trans (hb3.mono (Nat.le_trans hb1.size hb2.size)))⟩
end Go.Proofs.Ythjpfljklbfeeaa
