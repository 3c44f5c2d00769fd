/-
  That the small check 'awake' at the end of every statement of this seat answers true. Conditions: none.
-/
import Derived.Test.YtpmioibgbknphaaInsert
namespace Go.Proofs.Ytpmioibgbknphaa
open Go.RowKit

def TrueBelow (w : World) (e : Ending) (w' : World) : Prop := e = .returned (.bool true) ∧ Below w.heap.size w w'
/-- A row that was just laid. -/
theorem row_new (w : World) (l : List C) : Row (w.alloc (.cells (cvs l).toArray 23)) w.heap.size l := Held.new _ _ _

/-- A row of n cells, of the call's own, that is known. -/
def RowN (w : World) (n : Nat) (l : List C) (e : Ending) (w' : World) : Prop := ∃ g, e = .returned (.slice (some ⟨g, 0, none⟩) n n) ∧ w.heap.size ≤ g ∧ Row w' g l ∧ Below w.heap.size w w'
theorem RowPost.lit {w : World} {l r : List C} (n : Nat) (h : l = r) (hn : r.length = n) (e : Ending) (w' : World) (hp : RowPost w l e w') : RowN w n r e w' := by subst h; subst hn; exact hp

theorem aw1 : fitF [⟨97, 0⟩, ⟨98, 0⟩, ⟨99, 0⟩] 4 = [⟨97, 0⟩, ⟨98, 0⟩, ⟨99, 0⟩, ⟨32, 0⟩] := rfl
theorem aw2 : insertF [⟨97, 0⟩, ⟨98, 0⟩, ⟨99, 0⟩, ⟨32, 0⟩] 1 2 = [⟨97, 0⟩, ⟨32, 0⟩, ⟨32, 0⟩, ⟨98, 0⟩] := rfl
theorem aw3 : deleteF [⟨97, 0⟩, ⟨98, 0⟩, ⟨99, 0⟩, ⟨32, 0⟩] 1 1 = [⟨97, 0⟩, ⟨99, 0⟩, ⟨32, 0⟩, ⟨32, 0⟩] := rfl
theorem aw4 : clearF [⟨97, 0⟩, ⟨98, 0⟩, ⟨99, 0⟩, ⟨32, 0⟩] (-1) 2 = [⟨32, 0⟩, ⟨32, 0⟩, ⟨99, 0⟩, ⟨32, 0⟩] := rfl
theorem aw5 : putF [⟨97, 0⟩, ⟨98, 0⟩, ⟨99, 0⟩, ⟨32, 0⟩] 3 ⟨122, 5⟩ = [⟨97, 0⟩, ⟨98, 0⟩, ⟨99, 0⟩, ⟨122, 5⟩] := rfl

theorem aw6 : blankF (-1) = [] := rfl
theorem aw7 : (blankF 2000).length = 1000 := by rw [blankF_len]; rfl

set_option maxHeartbeats 1000000 in
theorem awake_any (w : World) : Calls Try.prog 12 #[] w (TrueBelow w) := by
  have W1 : Hid (∀ w, Calls Try.prog 11 #[.int .i64 (-1)] w (RowN w 0 [])) := fun w => (blankR_any (-1) w).mono (RowPost.lit 0 aw6 rfl)
  have W2 : Hid (∀ w, Calls Try.prog 11 #[.int .i64 2000] w (RowN w 1000 (blankF 2000))) := fun w => (blankR_any 2000 w).mono (RowPost.lit 1000 rfl aw7)
  generalize blankF 2000 = q at W2
  go_enter Try.func12, Try.ntmps12
  go_wp2_with fail
  refine ((fit_any _ 3 [⟨97, 0⟩, ⟨98, 0⟩, ⟨99, 0⟩] 4 _ (row_new w [⟨97, 0⟩, ⟨98, 0⟩, ⟨99, 0⟩]).read).mono (RowPost.lit 4 aw1 rfl)).mono ?_
  rintro e w1 ⟨g1, rfl, hg1, h1, hb1⟩
  go_wp2_with fail
  refine ((insert_any _ 4 [⟨97, 0⟩, ⟨98, 0⟩, ⟨99, 0⟩, ⟨32, 0⟩] 1 2 _ h1.read (by decide) (by decide)).mono (RowPost.lit 4 aw2 rfl)).mono ?_
  rintro e w2 ⟨g2, rfl, hg2, h2, hb2⟩
  have h12 := h1.below hb2 h1.lt
  clear h1
  go_wp2_with fail
  refine ((delete_any _ 4 [⟨97, 0⟩, ⟨98, 0⟩, ⟨99, 0⟩, ⟨32, 0⟩] 1 1 _ h12.read (by decide) (by decide)).mono (RowPost.lit 4 aw3 rfl)).mono ?_
  rintro e w3 ⟨g3, rfl, hg3, h3, hb3⟩
  have h13 := h12.below hb3 h12.lt
  have h23 := h2.below hb3 h2.lt
  clear h12 h2
  go_wp2_with fail
  refine ((clear_any _ 4 [⟨97, 0⟩, ⟨98, 0⟩, ⟨99, 0⟩, ⟨32, 0⟩] (-1) 2 _ h13.read (by decide)).mono (RowPost.lit 4 aw4 rfl)).mono ?_
  rintro e w4 ⟨g4, rfl, hg4, h4, hb4⟩
  have h14 := h13.below hb4 h13.lt
  have h24 := h23.below hb4 h23.lt
  have h34 := h3.below hb4 h3.lt
  clear h13 h23 h3
  go_wp2_with fail
  refine ((put_any _ 4 [⟨97, 0⟩, ⟨98, 0⟩, ⟨99, 0⟩, ⟨32, 0⟩] 3 ⟨122, 5⟩ _ h14.read (by decide)).mono (RowPost.lit 4 aw5 rfl)).mono ?_
  rintro e w5 ⟨g5, rfl, hg5, h5, hb5⟩
  have h15 := h14.below hb5 h14.lt
  have h25 := h24.below hb5 h24.lt
  have h35 := h34.below hb5 h34.lt
  have h45 := h4.below hb5 h4.lt
  clear h14 h24 h34 h4
  have x1 : w5.cell? ⟨g1, 6, none⟩ = some (.int .i32 32) := Held.cell h15 6
  have x2 : w5.cell? ⟨g2, 0, none⟩ = some (.int .i32 97) := Held.cell h25 0
  have x3 : w5.cell? ⟨g2, 2, none⟩ = some (.int .i32 32) := Held.cell h25 2
  have x4 : w5.cell? ⟨g2, 6, none⟩ = some (.int .i32 98) := Held.cell h25 6
  have x5 : w5.cell? ⟨g3, 2, none⟩ = some (.int .i32 99) := Held.cell h35 2
  have x6 : w5.cell? ⟨g3, 6, none⟩ = some (.int .i32 32) := Held.cell h35 6
  have x7 : w5.cell? ⟨g4, 2, none⟩ = some (.int .i32 32) := Held.cell h45 2
  have x8 : w5.cell? ⟨g4, 4, none⟩ = some (.int .i32 99) := Held.cell h45 4
  have x9 : w5.cell? ⟨g5, 6, none⟩ = some (.int .i32 122) := Held.cell h5 6
  have x10 : w5.cell? ⟨g5, 7, none⟩ = some (.int .i64 5) := Held.cell h5 7
  clear h15 h25 h35 h45 h5
  go_wp2_with fail
  refine (W1.out _).mono ?_
  rintro e w6 ⟨g6, rfl, hg6, h6, hb6⟩
  clear h6
  go_wp2_with fail
  refine (W2.out _).mono ?_
  rintro e w7 ⟨g7, rfl, hg7, h7, hb7⟩
  clear h7
  go_wp2_with fail
  go_ret
  refine ⟨rfl, ?_⟩
  have b0 : Below w.heap.size w w1 := ((Below.refl _ w).alloc (Nat.le_refl _) _).trans (hb1.mono (by simp))
  exact below_next (below_next (below_next (below_next (below_next (below_next b0 hb2) hb3) hb4) hb5) hb6) hb7
end Go.Proofs.Ytpmioibgbknphaa
