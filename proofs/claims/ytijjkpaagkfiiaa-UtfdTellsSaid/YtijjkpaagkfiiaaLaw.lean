/-
  What a Step that is laid into new variables leaves; what the walks of the statements of this seat share.
-/
import Derived.Test.YtijjkpaagkfiiaaFeed
import Derived.Deep.DeepCutAuto
import Derived.Deep.RegionLaw
namespace Go.Proofs.Ytijjkpaagkfiiaa
open Go.RowKit

theorem Held.new2 (w : World) (o : Obj) (t : TypeId) (cs : Array Value) : Held ((w.alloc o).alloc (.cells cs t)) (w.heap.size + 1) t cs := by
  have := Held.new (w.alloc o) t cs
  rwa [World.size_alloc] at this
theorem Held.set1 {w : World} {g : Nat} {t : TypeId} {cs : Array Value} (h : Held w g t cs) (i : Nat) (x : Value) : Held (w.setCell ⟨g, i, none⟩ x) g t (cs.setIfInBounds i x) := heap_setCell_same w g i cs t x h
theorem Held.set3 {w : World} {g : Nat} {t : TypeId} {a b c : Value} (h : Held w g t #[a, b, c]) (x y z : Value) :
    Held (((w.setCell ⟨g, 0, none⟩ x).setCell ⟨g, 1, none⟩ y).setCell ⟨g, 2, none⟩ z) g t #[x, y, z] := ((h.set1 0 x).set1 1 y).set1 2 z
theorem Held.far3 {w : World} {g k : Nat} {t : TypeId} {cs : Array Value} (h : Held w g t cs) (hk : g ≠ k) (x y z : Value) :
    Held (((w.setCell ⟨k, 0, none⟩ x).setCell ⟨k, 1, none⟩ y).setCell ⟨k, 2, none⟩ z) g t cs := by
  unfold Held at h ⊢
  rw [Below.heap_setCell _ _ _ g (by simpa using hk), Below.heap_setCell _ _ _ g (by simpa using hk), Below.heap_setCell _ _ _ g (by simpa using hk)]
  exact h
theorem u8_le (c : UInt8) : (c.toNat : Int) ≤ 255 := by have := c.toNat_lt; omega
theorem runes_app {w : World} {B : Nat} {v : Value} {a b : List Int} (h : w.ownsRow B 21 1 v (a.length + b.length) (i32s a ++ i32s b)) : Runes w B v (a ++ b) := by
  unfold Runes
  rw [List.length_append, ← i32s_app]
  exact h
theorem enR_len (n : Int) : (enR n).length ≤ 1 := by unfold enR; split <;> simp
def stateCells (s : U) : Array Value := #[.int .i64 s.n, .int .i64 s.m, .int .i64 s.g]

theorem state_S {w : World} {C : Nat} {s : U} (h : Held w C 25 (stateCells s)) :
    w.cell? ⟨C, 0, none⟩ = some (.int .i64 s.n) ∧ w.cell? ⟨C, 1, none⟩ = some (.int .i64 s.m) ∧ w.cell? ⟨C, 2, none⟩ = some (.int .i64 s.g) := ⟨(h.cell 0).trans rfl, (h.cell 1).trans rfl, (h.cell 2).trans rfl⟩
/-- What a Step leaves that is laid into new variables: the state in block T, the runes in v. -/
structure Stepped (wr wx : World) (T : Nat) (v : Value) (s : U) (rs : List Int) : Prop where
  state : Held wx T 25 (stateCells s)
  runes : Runes wx wr.heap.size v rs
  below : Below wr.heap.size wr wx
  new : wr.heap.size ≤ T
  apart : v.ownBlock ≠ some T
def SteppedAt (wr : World) (s : U) (rs : List Int) (p v : Value) (wx : World) : Prop := ∃ T : Nat, p = .pointer (some ⟨T, 0, none⟩) ∧ Stepped wr wx T v s rs

theorem own_ge_ne {w : World} {B k : Nat} {e : TypeId} {v : Value} {n : Nat} {xs : List Value} (h : w.ownsRow B e 1 v n xs) (hk : w.heap.size ≤ k) : v.ownBlock ≠ some k := fun he => by have := (h.lt k he).2; omega
/-- The variable is made behind the call. -/
theorem stepped_after {wr w1 : World} {v : Value} {s : U} {rs : List Int} (hv : Runes w1 wr.heap.size v rs) (hb : Below wr.heap.size wr w1) :
    SteppedAt wr s rs (.pointer (some ⟨w1.heap.size, 0, none⟩)) v (w1.alloc (.cells (stateCells s) 25)) :=
  ⟨w1.heap.size, rfl, Held.new _ _ _, World.ownsRow.alloc hv _, hb.alloc hb.size _, hb.size, own_ge_ne hv (Nat.le_refl _)⟩
/-- The variable was made ahead of the call. -/
theorem stepped_ahead {wr w1 : World} {v x y z : Value} {s : U} {rs : List Int} {B : Nat} (hB : wr.heap.size < B) (hv : Runes w1 B v rs) (hb : Below wr.heap.size wr w1) (ht : Held w1 wr.heap.size 25 #[x, y, z]) :
    SteppedAt wr s rs (.pointer (some ⟨wr.heap.size, 0, none⟩)) v (((w1.setCell ⟨wr.heap.size, 0, none⟩ (.int .i64 s.n)).setCell ⟨wr.heap.size, 1, none⟩ (.int .i64 s.m)).setCell ⟨wr.heap.size, 2, none⟩ (.int .i64 s.g)) :=
  ⟨wr.heap.size, rfl, ht.set3 _ _ _, own_base (runes_set3 hv hB _ _ _) (by omega), below_set3 hb (Nat.le_refl _) _ _ _, Nat.le_refl _, own_ne hv hB⟩

/-- The bytes that came in: cell by cell, below what the call makes. -/
def ByteArg (w : World) (A : Option Addr) (len : Nat) : Prop := ∀ k, k < len → ∃ (b off : Nat) (z : Int), A = some ⟨b, off, none⟩ ∧ b < w.heap.size ∧ w.cell? ⟨b, off + k, none⟩ = some (.int .u8 z) ∧ 0 ≤ z ∧ z ≤ 255

end Go.Proofs.Ytijjkpaagkfiiaa
