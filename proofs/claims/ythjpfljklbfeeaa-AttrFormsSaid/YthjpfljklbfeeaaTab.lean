/-
  The table of AttrForms in memory: twenty-two rows, each an attribute, parameters, and what comes of them. Conditions: none.
-/
import Derived.Test.YthjpfljklbfeeaaBack
namespace Go.Proofs.Ythjpfljklbfeeaa
open Go.RowKit

def allocs (w : World) (os : List Obj) : World := os.foldl World.alloc w
theorem allocs_below (w : World) (os : List Obj) : Below w.heap.size w (allocs w os) := by
  induction os generalizing w with
  | nil => exact Below.refl _ _
  | cons o os ih => exact ((Below.refl _ w).alloc (Nat.le_refl _) o).trans ((ih (w.alloc o)).mono (by simp))
theorem allocs_get (w : World) (os : List Obj) (k : Nat) (o : Obj) (h : os[k]? = some o) : (allocs w os).heap[w.heap.size + k]? = some o := by
  induction os generalizing w k with
  | nil => simp at h
  | cons p os ih =>
    cases k with
    | zero =>
      simp only [List.getElem?_cons_zero, Option.some.injEq] at h
      subst h
      exact ((allocs_below (w.alloc p) os).block w.heap.size (by simp)).trans (heap_alloc_new w p)
    | succ k =>
      have := ih (w.alloc p) k (by simpa using h)
      rw [World.size_alloc] at this
      rw [show w.heap.size + (k + 1) = w.heap.size + 1 + k by omega]
      exact this
theorem readI_held {w : World} {g : Nat} {xs : List Int} {cs : Array Value} (h : Held w g 3 cs) (n c : Nat) (hn : xs.length = n) (hc : cs = (i64s xs).toArray) : ReadI w (.slice (some ⟨g, 0, none⟩) n c) xs := by
  subst hn hc
  refine ⟨_, _, rfl, fun k hk => ⟨g, 0, xs[k], rfl, h.lt, by simp [hk], ?_⟩⟩
  rw [Nat.zero_add, h.cell]
  simp [i64s, hk]

/-- Row j of a table at block g. -/
def RowAt (W : World) (g j : Nat) : Prop := ∃ (a r : Int) (ps : List Int) (D : Option Addr) (c : Nat), W.cell? ⟨g, j * 3, none⟩ = some (.int .i64 a) ∧ W.cell? ⟨g, j * 3 + 1, none⟩ = some (.slice D ps.length c) ∧ W.cell? ⟨g, j * 3 + 2, none⟩ = some (.int .i64 r) ∧ ReadI W (.slice D ps.length c) ps ∧ applyF a ps = r ∧ ps.length ≤ 10
def TabRel (w : World) (v : Value) (W : World) : Prop := ∃ g, v = .slice (some ⟨g, 0, none⟩) 22 22 ∧ Below w.heap.size w W ∧ (∀ j, j < 22 → RowAt W g j) ∧ g < W.heap.size

def OS (w : World) : List Obj := [.cells #[.int .i64 0] 3, .cells #[.int .i64 (-1)] 3, .cells #[.int .i64 1] 3, .cells #[.int .i64 4] 3, .cells #[.int .i64 7] 3, .cells #[.int .i64 22] 3, .cells #[.int .i64 24] 3, .cells #[.int .i64 27] 3, .cells #[.int .i64 30] 3, .cells #[.int .i64 37] 3, .cells #[.int .i64 40] 3, .cells #[.int .i64 47] 3, .cells #[.int .i64 39] 3, .cells #[.int .i64 49] 3, .cells #[.int .i64 38] 3, .cells #[.int .i64 48, .int .i64 5, .int .i64 3] 3, .cells #[.int .i64 1, .int .i64 0, .int .i64 4] 3, .cells #[.int .i64 31, .int .i64 1, .int .i64 44] 3, .cells #[.int .i64 2, .int .i64 3, .int .i64 5, .int .i64 6, .int .i64 8, .int .i64 9] 3, .cells #[.int .i64 90, .int .i64 100, .int .i64 65535] 3, .cells #[.int .i64 31] 3, .cells #[.int .i64 7, .slice none 0 0, .int .i64 0, .int .i64 7, .slice (some ⟨w.heap.size, 0, none⟩) 1 1, .int .i64 0, .int .i64 7, .slice (some ⟨w.heap.size + 1, 0, none⟩) 1 1, .int .i64 0, .int .i64 0, .slice (some ⟨w.heap.size + 1 + 1, 0, none⟩) 1 1, .int .i64 1, .int .i64 0, .slice (some ⟨w.heap.size + 1 + 1 + 1, 0, none⟩) 1 1, .int .i64 2, .int .i64 0, .slice (some ⟨w.heap.size + 1 + 1 + 1 + 1, 0, none⟩) 1 1, .int .i64 4, .int .i64 7, .slice (some ⟨w.heap.size + 1 + 1 + 1 + 1 + 1, 0, none⟩) 1 1, .int .i64 6, .int .i64 7, .slice (some ⟨w.heap.size + 1 + 1 + 1 + 1 + 1 + 1, 0, none⟩) 1 1, .int .i64 5, .int .i64 7, .slice (some ⟨w.heap.size + 1 + 1 + 1 + 1 + 1 + 1 + 1, 0, none⟩) 1 1, .int .i64 3, .int .i64 0, .slice (some ⟨w.heap.size + 1 + 1 + 1 + 1 + 1 + 1 + 1 + 1, 0, none⟩) 1 1, .int .i64 16, .int .i64 0, .slice (some ⟨w.heap.size + 1 + 1 + 1 + 1 + 1 + 1 + 1 + 1 + 1, 0, none⟩) 1 1, .int .i64 128, .int .i64 0, .slice (some ⟨w.heap.size + 1 + 1 + 1 + 1 + 1 + 1 + 1 + 1 + 1 + 1, 0, none⟩) 1 1, .int .i64 256, .int .i64 0, .slice (some ⟨w.heap.size + 1 + 1 + 1 + 1 + 1 + 1 + 1 + 1 + 1 + 1 + 1, 0, none⟩) 1 1, .int .i64 2048, .int .i64 255, .slice (some ⟨w.heap.size + 1 + 1 + 1 + 1 + 1 + 1 + 1 + 1 + 1 + 1 + 1 + 1, 0, none⟩) 1 1, .int .i64 7, .int .i64 2048, .slice (some ⟨w.heap.size + 1 + 1 + 1 + 1 + 1 + 1 + 1 + 1 + 1 + 1 + 1 + 1 + 1, 0, none⟩) 1 1, .int .i64 0, .int .i64 0, .slice (some ⟨w.heap.size + 1 + 1 + 1 + 1 + 1 + 1 + 1 + 1 + 1 + 1 + 1 + 1 + 1 + 1, 0, none⟩) 1 1, .int .i64 0, .int .i64 0, .slice (some ⟨w.heap.size + 1 + 1 + 1 + 1 + 1 + 1 + 1 + 1 + 1 + 1 + 1 + 1 + 1 + 1 + 1, 0, none⟩) 3 3, .int .i64 0, .int .i64 0, .slice (some ⟨w.heap.size + 1 + 1 + 1 + 1 + 1 + 1 + 1 + 1 + 1 + 1 + 1 + 1 + 1 + 1 + 1 + 1, 0, none⟩) 3 3, .int .i64 2, .int .i64 0, .slice (some ⟨w.heap.size + 1 + 1 + 1 + 1 + 1 + 1 + 1 + 1 + 1 + 1 + 1 + 1 + 1 + 1 + 1 + 1 + 1, 0, none⟩) 3 3, .int .i64 1313, .int .i64 3, .slice (some ⟨w.heap.size + 1 + 1 + 1 + 1 + 1 + 1 + 1 + 1 + 1 + 1 + 1 + 1 + 1 + 1 + 1 + 1 + 1 + 1, 0, none⟩) 6 6, .int .i64 3, .int .i64 0, .slice (some ⟨w.heap.size + 1 + 1 + 1 + 1 + 1 + 1 + 1 + 1 + 1 + 1 + 1 + 1 + 1 + 1 + 1 + 1 + 1 + 1 + 1, 0, none⟩) 3 3, .int .i64 0, .int .i64 16, .slice (some ⟨w.heap.size + 1 + 1 + 1 + 1 + 1 + 1 + 1 + 1 + 1 + 1 + 1 + 1 + 1 + 1 + 1 + 1 + 1 + 1 + 1 + 1, 0, none⟩) 1 1, .int .i64 32] 23]
theorem os_held (w : World) (k : Nat) (cs : Array Value) (t : TypeId) (h : (OS w)[k]? = some (.cells cs t)) : Held (allocs w (OS w)) (w.heap.size + k) t cs := allocs_get w (OS w) k _ h
theorem row_0 (w : World) : RowAt (allocs w (OS w)) (w.heap.size + 21) 0 :=
  ⟨7, 0, [], none, 0, (os_held w 21 _ 23 rfl).cell 0, (os_held w 21 _ 23 rfl).cell 1, (os_held w 21 _ 23 rfl).cell 2, readI_nil _, by decide, by decide⟩
theorem row_1 (w : World) : RowAt (allocs w (OS w)) (w.heap.size + 21) 1 :=
  ⟨7, 0, [0], some ⟨w.heap.size + 0, 0, none⟩, 1, (os_held w 21 _ 23 rfl).cell 3, (os_held w 21 _ 23 rfl).cell 4, (os_held w 21 _ 23 rfl).cell 5, readI_held (os_held w 0 _ 3 rfl) 1 1 rfl rfl, by decide, by decide⟩
theorem row_2 (w : World) : RowAt (allocs w (OS w)) (w.heap.size + 21) 2 :=
  ⟨7, 0, [-1], some ⟨w.heap.size + 1, 0, none⟩, 1, (os_held w 21 _ 23 rfl).cell 6, (os_held w 21 _ 23 rfl).cell 7, (os_held w 21 _ 23 rfl).cell 8, readI_held (os_held w 1 _ 3 rfl) 1 1 rfl rfl, by decide, by decide⟩
theorem row_3 (w : World) : RowAt (allocs w (OS w)) (w.heap.size + 21) 3 :=
  ⟨0, 1, [1], some ⟨w.heap.size + 2, 0, none⟩, 1, (os_held w 21 _ 23 rfl).cell 9, (os_held w 21 _ 23 rfl).cell 10, (os_held w 21 _ 23 rfl).cell 11, readI_held (os_held w 2 _ 3 rfl) 1 1 rfl rfl, by decide, by decide⟩
theorem row_4 (w : World) : RowAt (allocs w (OS w)) (w.heap.size + 21) 4 :=
  ⟨0, 2, [4], some ⟨w.heap.size + 3, 0, none⟩, 1, (os_held w 21 _ 23 rfl).cell 12, (os_held w 21 _ 23 rfl).cell 13, (os_held w 21 _ 23 rfl).cell 14, readI_held (os_held w 3 _ 3 rfl) 1 1 rfl rfl, by decide, by decide⟩
theorem row_5 (w : World) : RowAt (allocs w (OS w)) (w.heap.size + 21) 5 :=
  ⟨0, 4, [7], some ⟨w.heap.size + 4, 0, none⟩, 1, (os_held w 21 _ 23 rfl).cell 15, (os_held w 21 _ 23 rfl).cell 16, (os_held w 21 _ 23 rfl).cell 17, readI_held (os_held w 4 _ 3 rfl) 1 1 rfl rfl, by decide, by decide⟩
theorem row_6 (w : World) : RowAt (allocs w (OS w)) (w.heap.size + 21) 6 :=
  ⟨7, 6, [22], some ⟨w.heap.size + 5, 0, none⟩, 1, (os_held w 21 _ 23 rfl).cell 18, (os_held w 21 _ 23 rfl).cell 19, (os_held w 21 _ 23 rfl).cell 20, readI_held (os_held w 5 _ 3 rfl) 1 1 rfl rfl, by decide, by decide⟩
theorem row_7 (w : World) : RowAt (allocs w (OS w)) (w.heap.size + 21) 7 :=
  ⟨7, 5, [24], some ⟨w.heap.size + 6, 0, none⟩, 1, (os_held w 21 _ 23 rfl).cell 21, (os_held w 21 _ 23 rfl).cell 22, (os_held w 21 _ 23 rfl).cell 23, readI_held (os_held w 6 _ 3 rfl) 1 1 rfl rfl, by decide, by decide⟩
theorem row_8 (w : World) : RowAt (allocs w (OS w)) (w.heap.size + 21) 8 :=
  ⟨7, 3, [27], some ⟨w.heap.size + 7, 0, none⟩, 1, (os_held w 21 _ 23 rfl).cell 24, (os_held w 21 _ 23 rfl).cell 25, (os_held w 21 _ 23 rfl).cell 26, readI_held (os_held w 7 _ 3 rfl) 1 1 rfl rfl, by decide, by decide⟩
theorem row_9 (w : World) : RowAt (allocs w (OS w)) (w.heap.size + 21) 9 :=
  ⟨0, 16, [30], some ⟨w.heap.size + 8, 0, none⟩, 1, (os_held w 21 _ 23 rfl).cell 27, (os_held w 21 _ 23 rfl).cell 28, (os_held w 21 _ 23 rfl).cell 29, readI_held (os_held w 8 _ 3 rfl) 1 1 rfl rfl, by decide, by decide⟩
theorem row_10 (w : World) : RowAt (allocs w (OS w)) (w.heap.size + 21) 10 :=
  ⟨0, 128, [37], some ⟨w.heap.size + 9, 0, none⟩, 1, (os_held w 21 _ 23 rfl).cell 30, (os_held w 21 _ 23 rfl).cell 31, (os_held w 21 _ 23 rfl).cell 32, readI_held (os_held w 9 _ 3 rfl) 1 1 rfl rfl, by decide, by decide⟩
theorem row_11 (w : World) : RowAt (allocs w (OS w)) (w.heap.size + 21) 11 :=
  ⟨0, 256, [40], some ⟨w.heap.size + 10, 0, none⟩, 1, (os_held w 21 _ 23 rfl).cell 33, (os_held w 21 _ 23 rfl).cell 34, (os_held w 21 _ 23 rfl).cell 35, readI_held (os_held w 10 _ 3 rfl) 1 1 rfl rfl, by decide, by decide⟩
theorem row_12 (w : World) : RowAt (allocs w (OS w)) (w.heap.size + 21) 12 :=
  ⟨0, 2048, [47], some ⟨w.heap.size + 11, 0, none⟩, 1, (os_held w 21 _ 23 rfl).cell 36, (os_held w 21 _ 23 rfl).cell 37, (os_held w 21 _ 23 rfl).cell 38, readI_held (os_held w 11 _ 3 rfl) 1 1 rfl rfl, by decide, by decide⟩
theorem row_13 (w : World) : RowAt (allocs w (OS w)) (w.heap.size + 21) 13 :=
  ⟨255, 7, [39], some ⟨w.heap.size + 12, 0, none⟩, 1, (os_held w 21 _ 23 rfl).cell 39, (os_held w 21 _ 23 rfl).cell 40, (os_held w 21 _ 23 rfl).cell 41, readI_held (os_held w 12 _ 3 rfl) 1 1 rfl rfl, by decide, by decide⟩
theorem row_14 (w : World) : RowAt (allocs w (OS w)) (w.heap.size + 21) 14 :=
  ⟨2048, 0, [49], some ⟨w.heap.size + 13, 0, none⟩, 1, (os_held w 21 _ 23 rfl).cell 42, (os_held w 21 _ 23 rfl).cell 43, (os_held w 21 _ 23 rfl).cell 44, readI_held (os_held w 13 _ 3 rfl) 1 1 rfl rfl, by decide, by decide⟩
theorem row_15 (w : World) : RowAt (allocs w (OS w)) (w.heap.size + 21) 15 :=
  ⟨0, 0, [38], some ⟨w.heap.size + 14, 0, none⟩, 1, (os_held w 21 _ 23 rfl).cell 45, (os_held w 21 _ 23 rfl).cell 46, (os_held w 21 _ 23 rfl).cell 47, readI_held (os_held w 14 _ 3 rfl) 1 1 rfl rfl, by decide, by decide⟩
theorem row_16 (w : World) : RowAt (allocs w (OS w)) (w.heap.size + 21) 16 :=
  ⟨0, 0, [48, 5, 3], some ⟨w.heap.size + 15, 0, none⟩, 3, (os_held w 21 _ 23 rfl).cell 48, (os_held w 21 _ 23 rfl).cell 49, (os_held w 21 _ 23 rfl).cell 50, readI_held (os_held w 15 _ 3 rfl) 3 3 rfl rfl, by decide, by decide⟩
theorem row_17 (w : World) : RowAt (allocs w (OS w)) (w.heap.size + 21) 17 :=
  ⟨0, 2, [1, 0, 4], some ⟨w.heap.size + 16, 0, none⟩, 3, (os_held w 21 _ 23 rfl).cell 51, (os_held w 21 _ 23 rfl).cell 52, (os_held w 21 _ 23 rfl).cell 53, readI_held (os_held w 16 _ 3 rfl) 3 3 rfl rfl, by decide, by decide⟩
theorem row_18 (w : World) : RowAt (allocs w (OS w)) (w.heap.size + 21) 18 :=
  ⟨0, 1313, [31, 1, 44], some ⟨w.heap.size + 17, 0, none⟩, 3, (os_held w 21 _ 23 rfl).cell 54, (os_held w 21 _ 23 rfl).cell 55, (os_held w 21 _ 23 rfl).cell 56, readI_held (os_held w 17 _ 3 rfl) 3 3 rfl rfl, by decide, by decide⟩
theorem row_19 (w : World) : RowAt (allocs w (OS w)) (w.heap.size + 21) 19 :=
  ⟨3, 3, [2, 3, 5, 6, 8, 9], some ⟨w.heap.size + 18, 0, none⟩, 6, (os_held w 21 _ 23 rfl).cell 57, (os_held w 21 _ 23 rfl).cell 58, (os_held w 21 _ 23 rfl).cell 59, readI_held (os_held w 18 _ 3 rfl) 6 6 rfl rfl, by decide, by decide⟩
theorem row_20 (w : World) : RowAt (allocs w (OS w)) (w.heap.size + 21) 20 :=
  ⟨0, 0, [90, 100, 65535], some ⟨w.heap.size + 19, 0, none⟩, 3, (os_held w 21 _ 23 rfl).cell 60, (os_held w 21 _ 23 rfl).cell 61, (os_held w 21 _ 23 rfl).cell 62, readI_held (os_held w 19 _ 3 rfl) 3 3 rfl rfl, by decide, by decide⟩
theorem row_21 (w : World) : RowAt (allocs w (OS w)) (w.heap.size + 21) 21 :=
  ⟨16, 32, [31], some ⟨w.heap.size + 20, 0, none⟩, 1, (os_held w 21 _ 23 rfl).cell 63, (os_held w 21 _ 23 rfl).cell 64, (os_held w 21 _ 23 rfl).cell 65, readI_held (os_held w 20 _ 3 rfl) 1 1 rfl rfl, by decide, by decide⟩
theorem rows_all (w : World) : ∀ j, j < 22 → RowAt (allocs w (OS w)) (w.heap.size + 21) j
  | 0, _ => row_0 w
  | 1, _ => row_1 w
  | 2, _ => row_2 w
  | 3, _ => row_3 w
  | 4, _ => row_4 w
  | 5, _ => row_5 w
  | 6, _ => row_6 w
  | 7, _ => row_7 w
  | 8, _ => row_8 w
  | 9, _ => row_9 w
  | 10, _ => row_10 w
  | 11, _ => row_11 w
  | 12, _ => row_12 w
  | 13, _ => row_13 w
  | 14, _ => row_14 w
  | 15, _ => row_15 w
  | 16, _ => row_16 w
  | 17, _ => row_17 w
  | 18, _ => row_18 w
  | 19, _ => row_19 w
  | 20, _ => row_20 w
  | 21, _ => row_21 w
  | k + 22, h => absurd h (by omega)
theorem tab_mk (w : World) : TabRel w (.slice (some ⟨w.heap.size + 21, 0, none⟩) 22 22) (allocs w (OS w)) :=
  ⟨_, rfl, allocs_below w _, rows_all w, (os_held w 21 _ 23 rfl).lt⟩
end Go.Proofs.Ythjpfljklbfeeaa
