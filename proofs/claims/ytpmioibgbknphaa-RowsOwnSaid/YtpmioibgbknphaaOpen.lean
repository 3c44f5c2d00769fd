/-
  A row of cells that came in, opened: it reads as a list of cells, and is no longer than its room. No condition.
-/
import Derived.Test.YtpmioibgbknphaaLeaf
import Derived.Deep.SlicePairs
import Derived.ChangeArms
import Derived.OpenShut
namespace Go.Proofs.Ytpmioibgbknphaa
open Go.RowKit Go.ChangeShapes Go.WideShapes Go.Deep

theorem open_cells {H : Type} {enc : TypeId × Value → H} {w : World} {base : Nat} {spare : Nat → Bool} {held : Bool} {fuel : Nat} {a : Option Addr} {len cap : Nat} {x : DataW H × List MemPlace}
    (h : DataW.trod enc Try.prog w base spare held fuel 24 [.slice a len cap] = some x) : ∃ l : List C, l.length = len ∧ ReadC w a l ∧ len ≤ cap := by
  rcases open_slice_pairs Try.underlying24 Try.underlying23 (by kernel_rfl) rfl rfl (by kernel_rfl) (by kernel_rfl) h with ⟨hcs, _⟩ | ⟨b, l, c, m, n, V0, V1, D0, D1, P0, P1, hcs, _, hl, _, hm, _, hcell⟩
  · simp at hcs
    obtain ⟨rfl, rfl, rfl⟩ := hcs
    exact ⟨[], rfl, readC_nil _ _, Nat.le_refl _⟩
  · simp at hcs
    obtain ⟨rfl, rfl, rfl⟩ := hcs
    refine ⟨(List.range len).map fun i => ⟨intOf (V0 i), intOf (V1 i)⟩, by simp, fun k hk => ?_, hl⟩
    have hk' : k < len := by simpa using hk
    have hkm : k < m := by rw [hm]; split <;> omega
    obtain ⟨c0, c1, t0, t1⟩ := hcell k hkm
    obtain ⟨n0, e0, _⟩ := DataW.trod_int Try.underlying21 t0
    obtain ⟨n1, e1, _⟩ := DataW.trod_int Try.underlying3 t1
    simp only [List.cons.injEq, and_true] at e0 e1
    obtain ⟨b, off, spot⟩ := b
    have hspot : spot = none := by simpa [Addr.add] using World.cell?_spot (hcell 0 (by omega)).1
    subst hspot
    rw [add_plain] at c0 c1
    refine ⟨b, off, rfl, World.block_lt_of_cell? w _ c0, ?_, ?_⟩
    · rw [c0, e0]
      simp [e0, intOf]
    · rw [Nat.add_assoc, c1, e1]
      simp [e1, intOf]
end Go.Proofs.Ytpmioibgbknphaa
