/-
  What Apply of package attr answers for any row of numbers that reads as such. Conditions: a row of at most a million numbers.
-/
import Derived.Test.YthjpfljklbfeeaaLook
namespace Go.Proofs.Ythjpfljklbfeeaa
open Go.RowKit

/-! ### blocks that are known whole; rows that are read -/
/-- Block g of world w is the cells cs. -/
def Held (w : World) (g : Nat) (t : TypeId) (cs : Array Value) : Prop := w.heap[g]? = some (.cells cs t (0, 0))
theorem Held.new (w : World) (t : TypeId) (cs : Array Value) : Held (w.alloc (.cells cs t)) w.heap.size t cs := heap_alloc_new w _
theorem Held.lt {w : World} {g : Nat} {t : TypeId} {cs : Array Value} (h : Held w g t cs) : g < w.heap.size := (Array.getElem?_eq_some_iff.1 h).1
theorem Held.below {w w' : World} {g B : Nat} {t : TypeId} {cs : Array Value} (h : Held w g t cs) (hb : Below B w w') (hg : g < B) : Held w' g t cs := (hb.block g hg).trans h
theorem Held.alloc {w : World} {g : Nat} {t : TypeId} {cs : Array Value} (h : Held w g t cs) (o : Obj) : Held (w.alloc o) g t cs := (Below.heap_alloc w o g h.lt).trans h
theorem Held.cell {w : World} {g : Nat} {t : TypeId} {cs : Array Value} (h : Held w g t cs) (o : Nat) : w.cell? ⟨g, o, none⟩ = cs[o]? := cell_of_row w g o cs t (0, 0) h
theorem Held.frozen {w : World} {g : Nat} {t : TypeId} {cs : Array Value} (h : Held w g t cs) (o : Nat) : w.frozen? ⟨g, o, none⟩ = false := frozen_of_row w g o cs t h
theorem Held.set1 {w : World} {g : Nat} {t : TypeId} {cs : Array Value} (h : Held w g t cs) (i : Nat) (x : Value) : Held (w.setCell ⟨g, i, none⟩ x) g t (cs.setIfInBounds i x) := heap_setCell_same w g i cs t x h
theorem Held.set5 {w : World} {g : Nat} {t : TypeId} {a b c d e : Value} (h : Held w g t #[a, b, c, d, e]) (x y z u v : Value) :
    Held (((((w.setCell ⟨g, 0, none⟩ x).setCell ⟨g, 1, none⟩ y).setCell ⟨g, 2, none⟩ z).setCell ⟨g, 3, none⟩ u).setCell ⟨g, 4, none⟩ v) g t #[x, y, z, u, v] := ((((h.set1 0 x).set1 1 y).set1 2 z).set1 3 u).set1 4 v
theorem below_set5 {a w : World} {B k : Nat} (h : Below B a w) (hk : B ≤ k) (x y z u v : Value) : Below B a (((((w.setCell ⟨k, 0, none⟩ x).setCell ⟨k, 1, none⟩ y).setCell ⟨k, 2, none⟩ z).setCell ⟨k, 3, none⟩ u).setCell ⟨k, 4, none⟩ v) :=
  ((((h.setCell (p := ⟨k, 0, none⟩) hk x).setCell (p := ⟨k, 1, none⟩) hk y).setCell (p := ⟨k, 2, none⟩) hk z).setCell (p := ⟨k, 3, none⟩) hk u).setCell (p := ⟨k, 4, none⟩) hk v
theorem look_cells {w : World} {g : Nat} {a b c d e : Value} (h : Held w g 35 #[a, b, c, d, e]) : w.cell? ⟨g, 0, none⟩ = some a ∧ w.cell? ⟨g, 1, none⟩ = some b ∧ w.cell? ⟨g, 2, none⟩ = some c ∧ w.cell? ⟨g, 3, none⟩ = some d ∧ w.cell? ⟨g, 4, none⟩ = some e ∧ ∀ o, w.frozen? ⟨g, o, none⟩ = false :=
  ⟨h.cell 0, h.cell 1, h.cell 2, h.cell 3, h.cell 4, h.frozen⟩

/-- A slice value v that reads as the numbers xs. -/
def ReadI (w : World) (v : Value) (xs : List Int) : Prop := ∃ D c, v = .slice D xs.length c ∧ ∀ k : Nat, k < xs.length → ∃ (b off : Nat) (z : Int), D = some ⟨b, off, none⟩ ∧ b < w.heap.size ∧ xs[k]? = some z ∧ w.cell? ⟨b, off + k, none⟩ = some (.int .i64 z)
theorem ReadI.below {w w' : World} {B : Nat} {v : Value} {xs : List Int} (h : ReadI w v xs) (hb : Below B w w') (hB : w.heap.size ≤ B) : ReadI w' v xs := by
  obtain ⟨D, c, rfl, h⟩ := h
  refine ⟨D, c, rfl, fun k hk => ?_⟩
  obtain ⟨b, off, z, e1, e2, e3, e4⟩ := h k hk
  exact ⟨b, off, z, e1, Nat.lt_of_lt_of_le e2 hb.size, e3, (hb.cell (p := ⟨b, off + k, none⟩) (Nat.lt_of_lt_of_le e2 hB)).trans e4⟩
theorem readI_nil (w : World) : ReadI w (.slice none 0 0) [] := ⟨none, 0, rfl, fun k hk => by simp at hk⟩

def ApplyPost (w : World) (r : Int) (e : Ending) (w' : World) : Prop := e = .returned (.int .i64 r) ∧ Below w.heap.size w w'
/-- Behind k numbers: the look lies in block B. -/
def ApplyRel (w : World) (B : Nat) (l : L) (xs : List Int) (i : Value) (wr : World) : Prop :=
  ∃ k : Nat, i = .int .i64 k ∧ k ≤ xs.length ∧ Held wr B 35 (lookC (lookF l (xs.take k))) ∧ Below w.heap.size w wr

theorem applyF_ne (a : Int) (xs : List Int) (h : xs ≠ []) : applyF a xs = makeF (lookF (partsF a) xs) := by
  cases xs with
  | nil => exact absurd rfl h
  | cons x xs => rfl

set_option maxHeartbeats 1000000 in
theorem apply_any (a : Int) (xs : List Int) (v : Value) (w : World) (hv : ReadI w v xs) (hn : xs.length ≤ 1000000) :
    Calls Try.prog 7 #[.int .i64 a, v] w (ApplyPost w (applyF a xs)) := by
  obtain ⟨V, cv, rfl, hv⟩ := hv
  by_cases h0 : xs = []
  · subst h0
    show Calls Try.prog 7 #[.int .i64 a, .slice V 0 cv] w (ApplyPost w 0)
    go_enter Try.func7, Try.ntmps7
    go_wp2_with fail
    go_ret
    exact ⟨rfl, Below.refl _ _⟩
  · rw [applyF_ne a xs h0]
    have hpos : 0 < xs.length := List.length_pos_iff.2 h0
    clear h0
    have HV := Lib.hid hv
    clear hv
    have HL : ∀ w, Calls Try.prog 11 #[.int .i64 a] w (LookPost w (partsF a)) := fun w => lookOf_any a w
    obtain ⟨l, hl⟩ : ∃ l, l = partsF a := ⟨_, rfl⟩
    rw [← hl] at HL ⊢
    clear hl
    have H1 := Lib.hid HL
    clear HL
    have hne : ((xs.length : Int) == 0) = false := beq_eq_false_iff_ne.2 (by omega)
    go_enter Try.func7, Try.ntmps7
    go_wp2_with (
      go_at_call 11
      refine (H1.out _).mono ?_
      rintro e w1 ⟨rfl, hb1⟩
      unfold lookV)
    go_loopw [15] (ApplyRel w w1.heap.size l xs) (fun i _ => xs.length - (intOf i).toNat)
    case atStart => exact ⟨0, rfl, Nat.zero_le _, Held.new _ _ _, hb1.alloc hb1.size _⟩
    case round =>
      obtain ⟨k, rfl, hle, hQ, hbr⟩ := hrel
      have hz := hbr.size
      have hz1 := hQ.lt
      have hz2 := hb1.size
      by_cases hlt : k < xs.length
      · have hki : (k : Int) < (xs.length : Int) := by omega
        obtain ⟨vb, vo, z, rfl, hvb, hzk, hcell⟩ := HV.out k hlt
        have hcell' : wr.cell? ⟨vb, vo + k, none⟩ = some (.int .i64 z) := (hbr.cell (p := ⟨vb, vo + k, none⟩) hvb).trans hcell
        clear hcell
        have hsn : Hid (lookF l (xs.take (k + 1)) = behindF (lookF l (xs.take k)) z) := by
          show lookF l (xs.take (k + 1)) = _
          rw [List.take_add_one, hzk, lookF_app]
          rfl
        obtain ⟨s, hs⟩ : ∃ s, s = lookF l (xs.take k) := ⟨_, rfl⟩
        rw [← hs] at hQ hsn
        clear hs
        have HS : Hid (∀ w, Calls Try.prog 12 #[lookV s, .int .i64 z] w (LookPost w (behindF s z))) := fun w => behind_any s z w
        obtain ⟨s', hs'⟩ : ∃ s', s' = behindF s z := ⟨_, rfl⟩
        rw [← hs'] at hsn HS
        clear hs' hzk
        unfold lookC at hQ
        obtain ⟨x0, x1, x2, x3, x4, xf⟩ := look_cells hQ
        go_wp2_with (
          go_at_call 12
          refine (HS.out _).mono ?_
          rintro e w3 ⟨rfl, hb3⟩
          unfold lookV
          have hQ3 := hQ.below hb3 hz1
          obtain ⟨y0, y1, y2, y3, y4, yf⟩ := look_cells hQ3)
        go_roundw
        case rel =>
          refine ⟨k + 1, by go_num, by omega, ?_, ?_⟩
          · rw [hsn.out]
            exact Held.set5 hQ3 _ _ _ _ _
          · exact below_set5 (hbr.trans (hb3.mono hz)) hz2 _ _ _ _ _
        case measure => simp [intOf]; omega
      · have ek : k = xs.length := by omega
        subst ek
        rw [List.take_length] at hQ
        obtain ⟨s, hs⟩ : ∃ s, s = lookF l xs := ⟨_, rfl⟩
        have HS := Lib.hid hs
        rw [← hs] at hQ
        clear hs
        unfold lookC at hQ
        obtain ⟨x0, x1, x2, x3, x4, xf⟩ := look_cells hQ
        go_wp2_with (
          go_at_call 10
          refine (make_any _ _ _ _ _ _).mono ?_
          rintro e w3 ⟨rfl, rfl⟩)
        go_ret
        refine ⟨?_, hbr⟩
        rw [← HS.out]
        rfl
end Go.Proofs.Ythjpfljklbfeeaa
