/-
  That the document's Same answers true of a screen and its equal. Conditions: at most a thousand rows, and fifty lines that went, of at most a thousand cells.
-/
import Derived.Test.YtpcpmeihebgncaaApply
import Derived.Test.YtpcpmeihebgncaaRef
namespace Go.Proofs.Ytpcpmeihebgncaa
open Go.RowKit
set_option maxRecDepth 100000

theorem Quiet.below {b : Bool} {w : World} {e : Ending} {w' : World} (h : Quiet b w e w') : e = .returned (.bool b) ∧ Below w.heap.size w w' := by
  obtain ⟨rfl, m, rfl⟩ := h
  exact ⟨rfl, below_drewN (Below.refl _ _) m⟩
def TrueBelow (w : World) (e : Ending) (w' : World) : Prop := e = .returned (.bool true) ∧ Below w.heap.size w w'

set_option maxHeartbeats 4000000 in
theorem rsame_any (p : Nm) (D E D' E' : Option Addr) (n c m d c' d' : Nat) (L Bk : List (List C)) (w : World) (h1 : Scr 0 w D E n c m d L Bk) (h2 : Scr 0 w D' E' n c' m d' L Bk) (hn : n ≤ 1000) (hm : m ≤ 1000) (hl : ∀ r ∈ L, r.length ≤ 1000) (hlb : ∀ r ∈ Bk, r.length ≤ 1000) :
    Calls Try.prog 15 #[gv p (.slice D n c) (.slice E m d), gv p (.slice D' n c') (.slice E' m d')] w (TrueBelow w) := by
  have HS := Lib.hid (show Box ((w.alloc (.cells (gcs p (.slice D n c) (.slice E m d)) 35)).alloc (.cells (gcs p (.slice D' n c') (.slice E' m d')) 35)) w.heap.size p (.slice D n c) (.slice E m d) ∧ Box ((w.alloc (.cells (gcs p (.slice D n c) (.slice E m d)) 35)).alloc (.cells (gcs p (.slice D' n c') (.slice E' m d')) 35)) (w.heap.size + 1) p (.slice D' n c') (.slice E' m d') ∧ Below w.heap.size w ((w.alloc (.cells (gcs p (.slice D n c) (.slice E m d)) 35)).alloc (.cells (gcs p (.slice D' n c') (.slice E' m d')) 35)) from
    ⟨(Box.new w p _ _).alloc _, by have := Box.new (w.alloc (.cells (gcs p (.slice D n c) (.slice E m d)) 35)) p (.slice D' n c') (.slice E' m d'); simpa using this, ((Below.refl _ _).alloc (Nat.le_refl _) _).alloc (by simp) _⟩)
  have HA : Hid (∀ wx, Below w.heap.size w wx → Calls Try.prog 23 #[.slice D n c, .slice D' n c'] wx (Quiet true wx)) := fun wx hb => by
    have := sameRows_any D D' c c' L wx (h1.rows.below hb (Nat.le_refl _)) (h2.rows.below hb (Nat.le_refl _)) (by rw [h1.nr]; omega) hl
    rwa [h1.nr] at this
  have HB : Hid (∀ wx, Below w.heap.size w wx → Calls Try.prog 23 #[.slice E m d, .slice E' m d'] wx (Quiet true wx)) := fun wx hb => by
    have := sameRows_any E E' d d' Bk wx (h1.back.below hb (Nat.le_refl _)) (h2.back.below hb (Nat.le_refl _)) (by rw [h1.nb]; omega) hlb
    rwa [h1.nb] at this
  clear h1 h2 hl hlb
  unfold gv gcs
  go_enter Try.func15, Try.ntmps15
  go_wp2_with (first
    | (go_at_call 23
       refine (HA.out _ HS.out.2.2).mono ?_
       clear HA
       rintro e w3 hq3
       obtain ⟨rfl, b3⟩ := hq3.below
       have x3 := HS.out.1.below b3 HS.out.1.lt
       have z3 := HS.out.2.1.below b3 HS.out.2.1.lt
       have u14 := x3.cells.c14
       have v14 := z3.cells.c14
       have b4 := HS.out.2.2.trans (b3.mono HS.out.2.2.size)
       clear b3 x3 z3 hq3)
    | (go_at_call 23
       refine (HB.out _ b4).mono ?_
       rintro e w5 hq5
       obtain ⟨rfl, b50⟩ := hq5.below
       have b5 := b4.trans (b50.mono b4.size)
       clear hq5))
  go_ret
  exact ⟨rfl, b5⟩
end Go.Proofs.Ytpcpmeihebgncaa
