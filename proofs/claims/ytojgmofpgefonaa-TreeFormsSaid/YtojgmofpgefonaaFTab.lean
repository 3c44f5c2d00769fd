/-
  The table of TreeForms in memory: twenty-one rows of nodes, each a tree or none. Conditions: none.
-/
import Derived.Test.YtojgmofpgefonaaC13
namespace Go.Proofs.Ytojgmofpgefonaa
open Go.RowKit
set_option linter.unusedSimpArgs false
set_option maxRecDepth 100000

def allocs (w : World) (os : List Obj) : World := os.foldl World.alloc w
theorem allocs_below (w : World) (os : List Obj) : Below w.heap.size w (allocs w os) := by
  induction os generalizing w with
  | nil => exact Below.refl _ _
  | cons o os ih => exact ((Below.refl _ w).alloc (Nat.le_refl _) o).trans ((ih (w.alloc o)).mono (by simp))
theorem allocs_get (w : World) (os : List Obj) (k : Nat) (o : Obj) (h : os[k]? = some o) : (allocs w os).heap[w.heap.size + k]? = some o := by
  induction os generalizing w k with
  | nil => simp at h
  | cons p os ih =>
    cases k with
    | zero =>
      simp only [List.getElem?_cons_zero, Option.some.injEq] at h
      subst h
      exact ((allocs_below (w.alloc p) os).block w.heap.size (by simp)).trans (heap_alloc_new w p)
    | succ k =>
      have := ih (w.alloc p) k (by simpa using h)
      rw [World.size_alloc] at this
      rw [show w.heap.size + (k + 1) = w.heap.size + 1 + k by omega]
      exact this
/-- What the two closures make. -/
theorem cl_leaf (p : Int) (w : World) : Calls Try.prog 9 #[.int .i64 p] w (fun e w' => e = .returned (.agg #[.int .i64 p, .int .i64 0, .int .i64 0, .int .i64 0, .int .i64 0]) ∧ w' = w.alloc (.cells #[.int .i64 p, .int .i64 0, .int .i64 0, .int .i64 0, .int .i64 0] 23)) := by
  go_enter Try.func9, Try.ntmps9
  go_wp2_with fail
  exact bodyPost_ret (v := .agg #[.int .i64 p, .int .i64 0, .int .i64 0, .int .i64 0, .int .i64 0]) (by simp [results, Try.results9, go_sem]) rfl ⟨rfl, rfl⟩
theorem cl_cut (d f a b : Int) (w : World) : Calls Try.prog 10 #[.int .i64 d, .int .i64 f, .int .i64 a, .int .i64 b] w (fun e w' => e = .returned (.agg #[.int .i64 0, .int .i64 d, .int .i64 f, .int .i64 a, .int .i64 b]) ∧ w' = w.alloc (.cells #[.int .i64 0, .int .i64 d, .int .i64 f, .int .i64 a, .int .i64 b] 23)) := by
  go_enter Try.func10, Try.ntmps10
  go_wp2_with fail
  exact bodyPost_ret (v := .agg #[.int .i64 0, .int .i64 d, .int .i64 f, .int .i64 a, .int .i64 b]) (by simp [results, Try.results10, go_sem]) rfl ⟨rfl, rfl⟩

/-- Row j of a table at block g: a tree, or none. -/
def RowAt (W : World) (g j : Nat) : Prop := ∃ (l : List N) (ok : Bool) (D : Option Addr) (c : Nat), W.cell? ⟨g, j * 2, none⟩ = some (.slice D l.length c) ∧ W.cell? ⟨g, j * 2 + 1, none⟩ = some (.bool ok) ∧ TabAt 0 W D (EN.flat l) ∧ l.length ≤ 100 ∧ ((ok = true ∧ ∃ t, Is l t) ∨ (ok = false ∧ treeF l = false))
def FTabRel (w : World) (v : Value) (W : World) : Prop := ∃ g, v = .slice (some ⟨g, 0, none⟩) 21 21 ∧ Below w.heap.size w W ∧ (∀ j, j < 21 → RowAt W g j) ∧ g < W.heap.size ∧ Free W g
def OS (w : World) : List Obj := [.cells #[.int .i64 1, .int .i64 0, .int .i64 0, .int .i64 0, .int .i64 0] 23, .cells #[.int .i64 1, .int .i64 0, .int .i64 0, .int .i64 0, .int .i64 0] 23, .cells #[.int .i64 0, .int .i64 0, .int .i64 0, .int .i64 0, .int .i64 0] 23, .cells #[.int .i64 0, .int .i64 0, .int .i64 0, .int .i64 0, .int .i64 0] 23, .cells #[.int .i64 (-1), .int .i64 0, .int .i64 0, .int .i64 0, .int .i64 0] 23, .cells #[.int .i64 (-1), .int .i64 0, .int .i64 0, .int .i64 0, .int .i64 0] 23, .cells #[.int .i64 1, .int .i64 0, .int .i64 0, .int .i64 0, .int .i64 0] 23, .cells #[.int .i64 2, .int .i64 0, .int .i64 0, .int .i64 0, .int .i64 0] 23, .cells #[.int .i64 1, .int .i64 0, .int .i64 0, .int .i64 0, .int .i64 0, .int .i64 2, .int .i64 0, .int .i64 0, .int .i64 0, .int .i64 0] 23, .cells #[.int .i64 0, .int .i64 1, .int .i64 2, .int .i64 1, .int .i64 2] 23, .cells #[.int .i64 1, .int .i64 0, .int .i64 0, .int .i64 0, .int .i64 0] 23, .cells #[.int .i64 2, .int .i64 0, .int .i64 0, .int .i64 0, .int .i64 0] 23, .cells #[.int .i64 0, .int .i64 1, .int .i64 2, .int .i64 1, .int .i64 2, .int .i64 1, .int .i64 0, .int .i64 0, .int .i64 0, .int .i64 0, .int .i64 2, .int .i64 0, .int .i64 0, .int .i64 0, .int .i64 0] 23, .cells #[.int .i64 0, .int .i64 2, .int .i64 1000, .int .i64 1, .int .i64 2] 23, .cells #[.int .i64 9, .int .i64 0, .int .i64 0, .int .i64 0, .int .i64 0] 23, .cells #[.int .i64 2, .int .i64 0, .int .i64 0, .int .i64 0, .int .i64 0] 23, .cells #[.int .i64 0, .int .i64 2, .int .i64 1000, .int .i64 1, .int .i64 2, .int .i64 9, .int .i64 0, .int .i64 0, .int .i64 0, .int .i64 0, .int .i64 2, .int .i64 0, .int .i64 0, .int .i64 0, .int .i64 0] 23, .cells #[.int .i64 0, .int .i64 1, .int .i64 1001, .int .i64 1, .int .i64 2] 23, .cells #[.int .i64 1, .int .i64 0, .int .i64 0, .int .i64 0, .int .i64 0] 23, .cells #[.int .i64 2, .int .i64 0, .int .i64 0, .int .i64 0, .int .i64 0] 23, .cells #[.int .i64 0, .int .i64 1, .int .i64 1001, .int .i64 1, .int .i64 2, .int .i64 1, .int .i64 0, .int .i64 0, .int .i64 0, .int .i64 0, .int .i64 2, .int .i64 0, .int .i64 0, .int .i64 0, .int .i64 0] 23, .cells #[.int .i64 0, .int .i64 1, .int .i64 0, .int .i64 1, .int .i64 2] 23, .cells #[.int .i64 1, .int .i64 0, .int .i64 0, .int .i64 0, .int .i64 0] 23, .cells #[.int .i64 2, .int .i64 0, .int .i64 0, .int .i64 0, .int .i64 0] 23, .cells #[.int .i64 0, .int .i64 1, .int .i64 0, .int .i64 1, .int .i64 2, .int .i64 1, .int .i64 0, .int .i64 0, .int .i64 0, .int .i64 0, .int .i64 2, .int .i64 0, .int .i64 0, .int .i64 0, .int .i64 0] 23, .cells #[.int .i64 0, .int .i64 3, .int .i64 1, .int .i64 1, .int .i64 2] 23, .cells #[.int .i64 1, .int .i64 0, .int .i64 0, .int .i64 0, .int .i64 0] 23, .cells #[.int .i64 2, .int .i64 0, .int .i64 0, .int .i64 0, .int .i64 0] 23, .cells #[.int .i64 0, .int .i64 3, .int .i64 1, .int .i64 1, .int .i64 2, .int .i64 1, .int .i64 0, .int .i64 0, .int .i64 0, .int .i64 0, .int .i64 2, .int .i64 0, .int .i64 0, .int .i64 0, .int .i64 0] 23, .cells #[.int .i64 0, .int .i64 1, .int .i64 1, .int .i64 2, .int .i64 1] 23, .cells #[.int .i64 1, .int .i64 0, .int .i64 0, .int .i64 0, .int .i64 0] 23, .cells #[.int .i64 2, .int .i64 0, .int .i64 0, .int .i64 0, .int .i64 0] 23, .cells #[.int .i64 0, .int .i64 1, .int .i64 1, .int .i64 2, .int .i64 1, .int .i64 1, .int .i64 0, .int .i64 0, .int .i64 0, .int .i64 0, .int .i64 2, .int .i64 0, .int .i64 0, .int .i64 0, .int .i64 0] 23, .cells #[.int .i64 0, .int .i64 1, .int .i64 1, .int .i64 1, .int .i64 1] 23, .cells #[.int .i64 1, .int .i64 0, .int .i64 0, .int .i64 0, .int .i64 0] 23, .cells #[.int .i64 2, .int .i64 0, .int .i64 0, .int .i64 0, .int .i64 0] 23, .cells #[.int .i64 0, .int .i64 1, .int .i64 1, .int .i64 1, .int .i64 1, .int .i64 1, .int .i64 0, .int .i64 0, .int .i64 0, .int .i64 0, .int .i64 2, .int .i64 0, .int .i64 0, .int .i64 0, .int .i64 0] 23, .cells #[.int .i64 0, .int .i64 1, .int .i64 1, .int .i64 1, .int .i64 2] 23, .cells #[.int .i64 1, .int .i64 0, .int .i64 0, .int .i64 0, .int .i64 0] 23, .cells #[.int .i64 1, .int .i64 0, .int .i64 0, .int .i64 0, .int .i64 0] 23, .cells #[.int .i64 0, .int .i64 1, .int .i64 1, .int .i64 1, .int .i64 2, .int .i64 1, .int .i64 0, .int .i64 0, .int .i64 0, .int .i64 0, .int .i64 1, .int .i64 0, .int .i64 0, .int .i64 0, .int .i64 0] 23, .cells #[.int .i64 0, .int .i64 1, .int .i64 1, .int .i64 1, .int .i64 3] 23, .cells #[.int .i64 1, .int .i64 0, .int .i64 0, .int .i64 0, .int .i64 0] 23, .cells #[.int .i64 2, .int .i64 0, .int .i64 0, .int .i64 0, .int .i64 0] 23, .cells #[.int .i64 0, .int .i64 1, .int .i64 1, .int .i64 1, .int .i64 3, .int .i64 1, .int .i64 0, .int .i64 0, .int .i64 0, .int .i64 0, .int .i64 2, .int .i64 0, .int .i64 0, .int .i64 0, .int .i64 0] 23, .cells #[.int .i64 0, .int .i64 1, .int .i64 1, .int .i64 0, .int .i64 1] 23, .cells #[.int .i64 1, .int .i64 0, .int .i64 0, .int .i64 0, .int .i64 0] 23, .cells #[.int .i64 0, .int .i64 1, .int .i64 1, .int .i64 0, .int .i64 1, .int .i64 1, .int .i64 0, .int .i64 0, .int .i64 0, .int .i64 0] 23, .cells #[.int .i64 0, .int .i64 1, .int .i64 1, .int .i64 1, .int .i64 4] 23, .cells #[.int .i64 0, .int .i64 2, .int .i64 1, .int .i64 2, .int .i64 3] 23, .cells #[.int .i64 1, .int .i64 0, .int .i64 0, .int .i64 0, .int .i64 0] 23, .cells #[.int .i64 2, .int .i64 0, .int .i64 0, .int .i64 0, .int .i64 0] 23, .cells #[.int .i64 3, .int .i64 0, .int .i64 0, .int .i64 0, .int .i64 0] 23, .cells #[.int .i64 0, .int .i64 1, .int .i64 1, .int .i64 1, .int .i64 4, .int .i64 0, .int .i64 2, .int .i64 1, .int .i64 2, .int .i64 3, .int .i64 1, .int .i64 0, .int .i64 0, .int .i64 0, .int .i64 0, .int .i64 2, .int .i64 0, .int .i64 0, .int .i64 0, .int .i64 0, .int .i64 3, .int .i64 0, .int .i64 0, .int .i64 0, .int .i64 0] 23, .cells #[.int .i64 0, .int .i64 1, .int .i64 1, .int .i64 1, .int .i64 2] 23, .cells #[.int .i64 1, .int .i64 0, .int .i64 0, .int .i64 0, .int .i64 0] 23, .cells #[.int .i64 0, .int .i64 2, .int .i64 1, .int .i64 3, .int .i64 4] 23, .cells #[.int .i64 2, .int .i64 0, .int .i64 0, .int .i64 0, .int .i64 0] 23, .cells #[.int .i64 3, .int .i64 0, .int .i64 0, .int .i64 0, .int .i64 0] 23, .cells #[.int .i64 0, .int .i64 1, .int .i64 1, .int .i64 1, .int .i64 2, .int .i64 1, .int .i64 0, .int .i64 0, .int .i64 0, .int .i64 0, .int .i64 0, .int .i64 2, .int .i64 1, .int .i64 3, .int .i64 4, .int .i64 2, .int .i64 0, .int .i64 0, .int .i64 0, .int .i64 0, .int .i64 3, .int .i64 0, .int .i64 0, .int .i64 0, .int .i64 0] 23, .cells #[.int .i64 0, .int .i64 1, .int .i64 1, .int .i64 1, .int .i64 2] 23, .cells #[.int .i64 1, .int .i64 0, .int .i64 0, .int .i64 0, .int .i64 0] 23, .cells #[.int .i64 0, .int .i64 2, .int .i64 1, .int .i64 3, .int .i64 4] 23, .cells #[.int .i64 2, .int .i64 0, .int .i64 0, .int .i64 0, .int .i64 0] 23, .cells #[.int .i64 0, .int .i64 1, .int .i64 1, .int .i64 1, .int .i64 2, .int .i64 1, .int .i64 0, .int .i64 0, .int .i64 0, .int .i64 0, .int .i64 0, .int .i64 2, .int .i64 1, .int .i64 3, .int .i64 4, .int .i64 2, .int .i64 0, .int .i64 0, .int .i64 0, .int .i64 0] 23, .cells #[.int .i64 1, .int .i64 1, .int .i64 0, .int .i64 0, .int .i64 0] 23, .cells #[.int .i64 1, .int .i64 0, .int .i64 1, .int .i64 0, .int .i64 0] 23, .cells #[.int .i64 0, .int .i64 1, .int .i64 1, .int .i64 3, .int .i64 2] 23, .cells #[.int .i64 1, .int .i64 0, .int .i64 0, .int .i64 0, .int .i64 0] 23, .cells #[.int .i64 2, .int .i64 0, .int .i64 0, .int .i64 0, .int .i64 0] 23, .cells #[.int .i64 3, .int .i64 0, .int .i64 0, .int .i64 0, .int .i64 0] 23, .cells #[.int .i64 0, .int .i64 1, .int .i64 1, .int .i64 3, .int .i64 2, .int .i64 1, .int .i64 0, .int .i64 0, .int .i64 0, .int .i64 0, .int .i64 2, .int .i64 0, .int .i64 0, .int .i64 0, .int .i64 0, .int .i64 3, .int .i64 0, .int .i64 0, .int .i64 0, .int .i64 0] 23, .cells #[.slice none 0 0, .bool false, .slice (some ⟨w.heap.size + 1, 0, none⟩) 1 1, .bool true, .slice (some ⟨w.heap.size + 3, 0, none⟩) 1 1, .bool false, .slice (some ⟨w.heap.size + 5, 0, none⟩) 1 1, .bool false, .slice (some ⟨w.heap.size + 8, 0, none⟩) 2 2, .bool false, .slice (some ⟨w.heap.size + 12, 0, none⟩) 3 3, .bool true, .slice (some ⟨w.heap.size + 16, 0, none⟩) 3 3, .bool true, .slice (some ⟨w.heap.size + 20, 0, none⟩) 3 3, .bool false, .slice (some ⟨w.heap.size + 24, 0, none⟩) 3 3, .bool false, .slice (some ⟨w.heap.size + 28, 0, none⟩) 3 3, .bool false, .slice (some ⟨w.heap.size + 32, 0, none⟩) 3 3, .bool false, .slice (some ⟨w.heap.size + 36, 0, none⟩) 3 3, .bool false, .slice (some ⟨w.heap.size + 40, 0, none⟩) 3 3, .bool false, .slice (some ⟨w.heap.size + 44, 0, none⟩) 3 3, .bool false, .slice (some ⟨w.heap.size + 47, 0, none⟩) 2 2, .bool false, .slice (some ⟨w.heap.size + 53, 0, none⟩) 5 5, .bool true, .slice (some ⟨w.heap.size + 59, 0, none⟩) 5 5, .bool true, .slice (some ⟨w.heap.size + 64, 0, none⟩) 4 4, .bool false, .slice (some ⟨w.heap.size + 65, 0, none⟩) 1 1, .bool false, .slice (some ⟨w.heap.size + 66, 0, none⟩) 1 1, .bool false, .slice (some ⟨w.heap.size + 71, 0, none⟩) 4 4, .bool false] 27]
theorem os_held (w : World) (k : Nat) (cs : Array Value) (t : TypeId) (h : (OS w)[k]? = some (.cells cs t)) : Held (allocs w (OS w)) (w.heap.size + k) t cs := allocs_get w (OS w) k _ h
theorem row_0 (w : World) : RowAt (allocs w (OS w)) (w.heap.size + 72) 0 :=
  ⟨[], false, none, 0, (os_held w 72 _ 27 rfl).cell 0, (os_held w 72 _ 27 rfl).cell 1, TabAt.nil _ _ _, by decide, .inr ⟨rfl, by decide +kernel⟩⟩
theorem row_1 (w : World) : RowAt (allocs w (OS w)) (w.heap.size + 72) 1 :=
  ⟨[⟨1, 0, 0, 0, 0⟩], true, some ⟨w.heap.size + 1, 0, none⟩, 1, (os_held w 72 _ 27 rfl).cell 2, (os_held w 72 _ 27 rfl).cell 3, Held.tab (vs := EN.flat ([⟨1, 0, 0, 0, 0⟩] : List N)) (os_held w 1 _ 23 rfl) (Nat.zero_le _), by decide, .inl ⟨rfl, .leaf 1, rfl, by simp [T.ok], by simp [T.size], by simp [T.panes]⟩⟩
theorem row_2 (w : World) : RowAt (allocs w (OS w)) (w.heap.size + 72) 2 :=
  ⟨[⟨0, 0, 0, 0, 0⟩], false, some ⟨w.heap.size + 3, 0, none⟩, 1, (os_held w 72 _ 27 rfl).cell 4, (os_held w 72 _ 27 rfl).cell 5, Held.tab (vs := EN.flat ([⟨0, 0, 0, 0, 0⟩] : List N)) (os_held w 3 _ 23 rfl) (Nat.zero_le _), by decide, .inr ⟨rfl, by decide +kernel⟩⟩
theorem row_3 (w : World) : RowAt (allocs w (OS w)) (w.heap.size + 72) 3 :=
  ⟨[⟨-1, 0, 0, 0, 0⟩], false, some ⟨w.heap.size + 5, 0, none⟩, 1, (os_held w 72 _ 27 rfl).cell 6, (os_held w 72 _ 27 rfl).cell 7, Held.tab (vs := EN.flat ([⟨-1, 0, 0, 0, 0⟩] : List N)) (os_held w 5 _ 23 rfl) (Nat.zero_le _), by decide, .inr ⟨rfl, by decide +kernel⟩⟩
theorem row_4 (w : World) : RowAt (allocs w (OS w)) (w.heap.size + 72) 4 :=
  ⟨[⟨1, 0, 0, 0, 0⟩, ⟨2, 0, 0, 0, 0⟩], false, some ⟨w.heap.size + 8, 0, none⟩, 2, (os_held w 72 _ 27 rfl).cell 8, (os_held w 72 _ 27 rfl).cell 9, Held.tab (vs := EN.flat ([⟨1, 0, 0, 0, 0⟩, ⟨2, 0, 0, 0, 0⟩] : List N)) (os_held w 8 _ 23 rfl) (Nat.zero_le _), by decide, .inr ⟨rfl, by decide +kernel⟩⟩
theorem row_5 (w : World) : RowAt (allocs w (OS w)) (w.heap.size + 72) 5 :=
  ⟨[⟨0, 1, 2, 1, 2⟩, ⟨1, 0, 0, 0, 0⟩, ⟨2, 0, 0, 0, 0⟩], true, some ⟨w.heap.size + 12, 0, none⟩, 3, (os_held w 72 _ 27 rfl).cell 10, (os_held w 72 _ 27 rfl).cell 11, Held.tab (vs := EN.flat ([⟨0, 1, 2, 1, 2⟩, ⟨1, 0, 0, 0, 0⟩, ⟨2, 0, 0, 0, 0⟩] : List N)) (os_held w 12 _ 23 rfl) (Nat.zero_le _), by decide, .inl ⟨rfl, .fork 1 2 (.leaf 1) (.leaf 2), rfl, by simp [T.ok], by simp [T.size], by simp [T.panes]⟩⟩
theorem row_6 (w : World) : RowAt (allocs w (OS w)) (w.heap.size + 72) 6 :=
  ⟨[⟨0, 2, 1000, 1, 2⟩, ⟨9, 0, 0, 0, 0⟩, ⟨2, 0, 0, 0, 0⟩], true, some ⟨w.heap.size + 16, 0, none⟩, 3, (os_held w 72 _ 27 rfl).cell 12, (os_held w 72 _ 27 rfl).cell 13, Held.tab (vs := EN.flat ([⟨0, 2, 1000, 1, 2⟩, ⟨9, 0, 0, 0, 0⟩, ⟨2, 0, 0, 0, 0⟩] : List N)) (os_held w 16 _ 23 rfl) (Nat.zero_le _), by decide, .inl ⟨rfl, .fork 2 1000 (.leaf 9) (.leaf 2), rfl, by simp [T.ok], by simp [T.size], by simp [T.panes]⟩⟩
theorem row_7 (w : World) : RowAt (allocs w (OS w)) (w.heap.size + 72) 7 :=
  ⟨[⟨0, 1, 1001, 1, 2⟩, ⟨1, 0, 0, 0, 0⟩, ⟨2, 0, 0, 0, 0⟩], false, some ⟨w.heap.size + 20, 0, none⟩, 3, (os_held w 72 _ 27 rfl).cell 14, (os_held w 72 _ 27 rfl).cell 15, Held.tab (vs := EN.flat ([⟨0, 1, 1001, 1, 2⟩, ⟨1, 0, 0, 0, 0⟩, ⟨2, 0, 0, 0, 0⟩] : List N)) (os_held w 20 _ 23 rfl) (Nat.zero_le _), by decide, .inr ⟨rfl, by decide +kernel⟩⟩
theorem row_8 (w : World) : RowAt (allocs w (OS w)) (w.heap.size + 72) 8 :=
  ⟨[⟨0, 1, 0, 1, 2⟩, ⟨1, 0, 0, 0, 0⟩, ⟨2, 0, 0, 0, 0⟩], false, some ⟨w.heap.size + 24, 0, none⟩, 3, (os_held w 72 _ 27 rfl).cell 16, (os_held w 72 _ 27 rfl).cell 17, Held.tab (vs := EN.flat ([⟨0, 1, 0, 1, 2⟩, ⟨1, 0, 0, 0, 0⟩, ⟨2, 0, 0, 0, 0⟩] : List N)) (os_held w 24 _ 23 rfl) (Nat.zero_le _), by decide, .inr ⟨rfl, by decide +kernel⟩⟩
theorem row_9 (w : World) : RowAt (allocs w (OS w)) (w.heap.size + 72) 9 :=
  ⟨[⟨0, 3, 1, 1, 2⟩, ⟨1, 0, 0, 0, 0⟩, ⟨2, 0, 0, 0, 0⟩], false, some ⟨w.heap.size + 28, 0, none⟩, 3, (os_held w 72 _ 27 rfl).cell 18, (os_held w 72 _ 27 rfl).cell 19, Held.tab (vs := EN.flat ([⟨0, 3, 1, 1, 2⟩, ⟨1, 0, 0, 0, 0⟩, ⟨2, 0, 0, 0, 0⟩] : List N)) (os_held w 28 _ 23 rfl) (Nat.zero_le _), by decide, .inr ⟨rfl, by decide +kernel⟩⟩
theorem row_10 (w : World) : RowAt (allocs w (OS w)) (w.heap.size + 72) 10 :=
  ⟨[⟨0, 1, 1, 2, 1⟩, ⟨1, 0, 0, 0, 0⟩, ⟨2, 0, 0, 0, 0⟩], false, some ⟨w.heap.size + 32, 0, none⟩, 3, (os_held w 72 _ 27 rfl).cell 20, (os_held w 72 _ 27 rfl).cell 21, Held.tab (vs := EN.flat ([⟨0, 1, 1, 2, 1⟩, ⟨1, 0, 0, 0, 0⟩, ⟨2, 0, 0, 0, 0⟩] : List N)) (os_held w 32 _ 23 rfl) (Nat.zero_le _), by decide, .inr ⟨rfl, by decide +kernel⟩⟩
theorem row_11 (w : World) : RowAt (allocs w (OS w)) (w.heap.size + 72) 11 :=
  ⟨[⟨0, 1, 1, 1, 1⟩, ⟨1, 0, 0, 0, 0⟩, ⟨2, 0, 0, 0, 0⟩], false, some ⟨w.heap.size + 36, 0, none⟩, 3, (os_held w 72 _ 27 rfl).cell 22, (os_held w 72 _ 27 rfl).cell 23, Held.tab (vs := EN.flat ([⟨0, 1, 1, 1, 1⟩, ⟨1, 0, 0, 0, 0⟩, ⟨2, 0, 0, 0, 0⟩] : List N)) (os_held w 36 _ 23 rfl) (Nat.zero_le _), by decide, .inr ⟨rfl, by decide +kernel⟩⟩
theorem row_12 (w : World) : RowAt (allocs w (OS w)) (w.heap.size + 72) 12 :=
  ⟨[⟨0, 1, 1, 1, 2⟩, ⟨1, 0, 0, 0, 0⟩, ⟨1, 0, 0, 0, 0⟩], false, some ⟨w.heap.size + 40, 0, none⟩, 3, (os_held w 72 _ 27 rfl).cell 24, (os_held w 72 _ 27 rfl).cell 25, Held.tab (vs := EN.flat ([⟨0, 1, 1, 1, 2⟩, ⟨1, 0, 0, 0, 0⟩, ⟨1, 0, 0, 0, 0⟩] : List N)) (os_held w 40 _ 23 rfl) (Nat.zero_le _), by decide, .inr ⟨rfl, by decide +kernel⟩⟩
theorem row_13 (w : World) : RowAt (allocs w (OS w)) (w.heap.size + 72) 13 :=
  ⟨[⟨0, 1, 1, 1, 3⟩, ⟨1, 0, 0, 0, 0⟩, ⟨2, 0, 0, 0, 0⟩], false, some ⟨w.heap.size + 44, 0, none⟩, 3, (os_held w 72 _ 27 rfl).cell 26, (os_held w 72 _ 27 rfl).cell 27, Held.tab (vs := EN.flat ([⟨0, 1, 1, 1, 3⟩, ⟨1, 0, 0, 0, 0⟩, ⟨2, 0, 0, 0, 0⟩] : List N)) (os_held w 44 _ 23 rfl) (Nat.zero_le _), by decide, .inr ⟨rfl, by decide +kernel⟩⟩
theorem row_14 (w : World) : RowAt (allocs w (OS w)) (w.heap.size + 72) 14 :=
  ⟨[⟨0, 1, 1, 0, 1⟩, ⟨1, 0, 0, 0, 0⟩], false, some ⟨w.heap.size + 47, 0, none⟩, 2, (os_held w 72 _ 27 rfl).cell 28, (os_held w 72 _ 27 rfl).cell 29, Held.tab (vs := EN.flat ([⟨0, 1, 1, 0, 1⟩, ⟨1, 0, 0, 0, 0⟩] : List N)) (os_held w 47 _ 23 rfl) (Nat.zero_le _), by decide, .inr ⟨rfl, by decide +kernel⟩⟩
theorem row_15 (w : World) : RowAt (allocs w (OS w)) (w.heap.size + 72) 15 :=
  ⟨[⟨0, 1, 1, 1, 4⟩, ⟨0, 2, 1, 2, 3⟩, ⟨1, 0, 0, 0, 0⟩, ⟨2, 0, 0, 0, 0⟩, ⟨3, 0, 0, 0, 0⟩], true, some ⟨w.heap.size + 53, 0, none⟩, 5, (os_held w 72 _ 27 rfl).cell 30, (os_held w 72 _ 27 rfl).cell 31, Held.tab (vs := EN.flat ([⟨0, 1, 1, 1, 4⟩, ⟨0, 2, 1, 2, 3⟩, ⟨1, 0, 0, 0, 0⟩, ⟨2, 0, 0, 0, 0⟩, ⟨3, 0, 0, 0, 0⟩] : List N)) (os_held w 53 _ 23 rfl) (Nat.zero_le _), by decide, .inl ⟨rfl, .fork 1 1 (.fork 2 1 (.leaf 1) (.leaf 2)) (.leaf 3), rfl, by simp [T.ok], by simp [T.size], by simp [T.panes]⟩⟩
theorem row_16 (w : World) : RowAt (allocs w (OS w)) (w.heap.size + 72) 16 :=
  ⟨[⟨0, 1, 1, 1, 2⟩, ⟨1, 0, 0, 0, 0⟩, ⟨0, 2, 1, 3, 4⟩, ⟨2, 0, 0, 0, 0⟩, ⟨3, 0, 0, 0, 0⟩], true, some ⟨w.heap.size + 59, 0, none⟩, 5, (os_held w 72 _ 27 rfl).cell 32, (os_held w 72 _ 27 rfl).cell 33, Held.tab (vs := EN.flat ([⟨0, 1, 1, 1, 2⟩, ⟨1, 0, 0, 0, 0⟩, ⟨0, 2, 1, 3, 4⟩, ⟨2, 0, 0, 0, 0⟩, ⟨3, 0, 0, 0, 0⟩] : List N)) (os_held w 59 _ 23 rfl) (Nat.zero_le _), by decide, .inl ⟨rfl, .fork 1 1 (.leaf 1) (.fork 2 1 (.leaf 2) (.leaf 3)), rfl, by simp [T.ok], by simp [T.size], by simp [T.panes]⟩⟩
theorem row_17 (w : World) : RowAt (allocs w (OS w)) (w.heap.size + 72) 17 :=
  ⟨[⟨0, 1, 1, 1, 2⟩, ⟨1, 0, 0, 0, 0⟩, ⟨0, 2, 1, 3, 4⟩, ⟨2, 0, 0, 0, 0⟩], false, some ⟨w.heap.size + 64, 0, none⟩, 4, (os_held w 72 _ 27 rfl).cell 34, (os_held w 72 _ 27 rfl).cell 35, Held.tab (vs := EN.flat ([⟨0, 1, 1, 1, 2⟩, ⟨1, 0, 0, 0, 0⟩, ⟨0, 2, 1, 3, 4⟩, ⟨2, 0, 0, 0, 0⟩] : List N)) (os_held w 64 _ 23 rfl) (Nat.zero_le _), by decide, .inr ⟨rfl, by decide +kernel⟩⟩
theorem row_18 (w : World) : RowAt (allocs w (OS w)) (w.heap.size + 72) 18 :=
  ⟨[⟨1, 1, 0, 0, 0⟩], false, some ⟨w.heap.size + 65, 0, none⟩, 1, (os_held w 72 _ 27 rfl).cell 36, (os_held w 72 _ 27 rfl).cell 37, Held.tab (vs := EN.flat ([⟨1, 1, 0, 0, 0⟩] : List N)) (os_held w 65 _ 23 rfl) (Nat.zero_le _), by decide, .inr ⟨rfl, by decide +kernel⟩⟩
theorem row_19 (w : World) : RowAt (allocs w (OS w)) (w.heap.size + 72) 19 :=
  ⟨[⟨1, 0, 1, 0, 0⟩], false, some ⟨w.heap.size + 66, 0, none⟩, 1, (os_held w 72 _ 27 rfl).cell 38, (os_held w 72 _ 27 rfl).cell 39, Held.tab (vs := EN.flat ([⟨1, 0, 1, 0, 0⟩] : List N)) (os_held w 66 _ 23 rfl) (Nat.zero_le _), by decide, .inr ⟨rfl, by decide +kernel⟩⟩
theorem row_20 (w : World) : RowAt (allocs w (OS w)) (w.heap.size + 72) 20 :=
  ⟨[⟨0, 1, 1, 3, 2⟩, ⟨1, 0, 0, 0, 0⟩, ⟨2, 0, 0, 0, 0⟩, ⟨3, 0, 0, 0, 0⟩], false, some ⟨w.heap.size + 71, 0, none⟩, 4, (os_held w 72 _ 27 rfl).cell 40, (os_held w 72 _ 27 rfl).cell 41, Held.tab (vs := EN.flat ([⟨0, 1, 1, 3, 2⟩, ⟨1, 0, 0, 0, 0⟩, ⟨2, 0, 0, 0, 0⟩, ⟨3, 0, 0, 0, 0⟩] : List N)) (os_held w 71 _ 23 rfl) (Nat.zero_le _), by decide, .inr ⟨rfl, by decide +kernel⟩⟩
theorem rows_all (w : World) : ∀ j, j < 21 → RowAt (allocs w (OS w)) (w.heap.size + 72) j
  | 0, _ => row_0 w
  | 1, _ => row_1 w
  | 2, _ => row_2 w
  | 3, _ => row_3 w
  | 4, _ => row_4 w
  | 5, _ => row_5 w
  | 6, _ => row_6 w
  | 7, _ => row_7 w
  | 8, _ => row_8 w
  | 9, _ => row_9 w
  | 10, _ => row_10 w
  | 11, _ => row_11 w
  | 12, _ => row_12 w
  | 13, _ => row_13 w
  | 14, _ => row_14 w
  | 15, _ => row_15 w
  | 16, _ => row_16 w
  | 17, _ => row_17 w
  | 18, _ => row_18 w
  | 19, _ => row_19 w
  | 20, _ => row_20 w
  | n + 21, h => absurd h (by omega)
theorem ftab_mk (w : World) : FTabRel w (.slice (some ⟨w.heap.size + 72, 0, none⟩) 21 21) (allocs w (OS w)) :=
  ⟨_, rfl, allocs_below w _, rows_all w, (os_held w 72 _ 27 rfl).lt, (os_held w 72 _ 27 rfl).free⟩
end Go.Proofs.Ytojgmofpgefonaa
