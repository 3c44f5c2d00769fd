/-
  Step of package utfd as one plain function of what is begun and a byte; blocks that are known whole; what a row of numbers and a row of actions are in memory. Conditions: what is begun is what steps from nothing make.
-/
import Derived.Test.YtpcpmeihebgncaaEStep
namespace Go.Proofs.Ytpcpmeihebgncaa.Esca
open Go.RowKit
set_option maxRecDepth 100000

/-- What is begun. -/
structure U where
  n : Int
  m : Int
  g : Int

def U.zero : U := ⟨0, 0, 0⟩
/-- What steps from nothing make. -/
def U.Ok (s : U) : Prop := 0 ≤ s.n ∧ s.n ≤ 3 ∧ 0 ≤ s.g ∧ s.g ≤ 32767 ∧ (s.n = 2 → s.g ≤ 511) ∧ (s.n = 3 → s.g ≤ 7)
theorem U.zero_ok : U.zero.Ok := ⟨by decide, by decide, by decide, by decide, by decide, by decide⟩

def nx (s : U) (b : Int) : U :=
  if 0 < s.n ∧ 128 ≤ b ∧ b ≤ 191 then (if 1 < s.n then ⟨s.n - 1, s.m, s.g * 64 + b % 64⟩ else U.zero) else ⟨stN b, stM b, stG b⟩
def nxR (s : U) (b : Int) : List Int :=
  if 0 < s.n then (if 128 ≤ b ∧ b ≤ 191 then (if 1 < s.n then [] else [endR (s.g * 64 + b % 64) s.m]) else 65533 :: stR b) else stR b

theorem stR_len (b : Int) : (stR b).length ≤ 1 := by unfold stR; repeat' split
                                                     all_goals simp
theorem nxR_len (s : U) (b : Int) : (nxR s b).length ≤ 2 := by
  have := stR_len b
  unfold nxR
  repeat' split
  all_goals (simp <;> omega)

theorem st_ok (b : Int) : U.Ok ⟨stN b, stM b, stG b⟩ := by
  unfold U.Ok stN stG
  dsimp only
  repeat' split
  all_goals omega

theorem nx_ok (s : U) (b : Int) (hs : s.Ok) : (nx s b).Ok := by
  obtain ⟨a1, a2, a3, a4, a5, a6⟩ := hs
  unfold nx
  split
  · split
    · unfold U.Ok
      dsimp only
      omega
    · exact U.zero_ok
  · exact st_ok b

theorem step_any (s : U) (b : Int) (w : World) (hs : s.Ok) (h0 : 0 ≤ b) (h1 : b ≤ 255) :
    Calls Try.prog 119 #[.agg #[.int .i64 s.n, .int .i64 s.m, .int .i64 s.g], .int .u8 b] w (StepPost w (nx s b).n (nx s b).m (nx s b).g (nxR s b)) := by
  obtain ⟨a1, a2, a3, a4, a5, a6⟩ := hs
  by_cases c : 0 < s.n
  · by_cases d : 128 ≤ b ∧ b ≤ 191
    · by_cases f : 1 < s.n
      · have e1 : nx s b = ⟨s.n - 1, s.m, s.g * 64 + b % 64⟩ := by unfold nx; rw [if_pos ⟨c, d⟩, if_pos f]
        have e2 : nxR s b = [] := by unfold nxR; rw [if_pos c, if_pos d, if_pos f]
        rw [e1, e2]
        exact step_on s.n s.m s.g b w c d.1 d.2 _ _ _ _ fun w => goOn_more s.n s.m s.g b w f a2 a3 a4 d.1 d.2
      · have e1 : nx s b = U.zero := by unfold nx; rw [if_pos ⟨c, d⟩, if_neg f]
        have e2 : nxR s b = [endR (s.g * 64 + b % 64) s.m] := by unfold nxR; rw [if_pos c, if_pos d, if_neg f]
        rw [e1, e2]
        exact step_on s.n s.m s.g b w c d.1 d.2 _ _ _ _ fun w => goOn_last s.n s.m s.g b w (by omega) a3 a4 d.1 d.2
    · have e1 : nx s b = ⟨stN b, stM b, stG b⟩ := by unfold nx; rw [if_neg (fun h => d h.2)]
      have e2 : nxR s b = 65533 :: stR b := by unfold nxR; rw [if_pos c, if_neg d]
      rw [e1, e2]
      exact step_bad s.n s.m s.g b w c h0 h1 (by omega) (stR_len b)
  · have e1 : nx s b = ⟨stN b, stM b, stG b⟩ := by unfold nx; rw [if_neg (fun h => c h.1)]
    have e2 : nxR s b = stR b := by unfold nxR; rw [if_neg c]
    rw [e1, e2]
    exact step_fresh s.n s.m s.g b w (by omega) h0 h1

/-! ### blocks that are known whole -/
/-- Block g of world w is the cells cs. -/
def Held (w : World) (g : Nat) (t : TypeId) (cs : Array Value) : Prop := w.heap[g]? = some (.cells cs t (0, 0))
theorem Held.new (w : World) (t : TypeId) (cs : Array Value) : Held (w.alloc (.cells cs t)) w.heap.size t cs := heap_alloc_new w _
theorem Held.lt {w : World} {g : Nat} {t : TypeId} {cs : Array Value} (h : Held w g t cs) : g < w.heap.size := (Array.getElem?_eq_some_iff.1 h).1
theorem Held.below {w w' : World} {g B : Nat} {t : TypeId} {cs : Array Value} (h : Held w g t cs) (hb : Below B w w') (hg : g < B) : Held w' g t cs := (hb.block g hg).trans h
theorem Held.alloc {w : World} {g : Nat} {t : TypeId} {cs : Array Value} (h : Held w g t cs) (o : Obj) : Held (w.alloc o) g t cs := (Below.heap_alloc w o g h.lt).trans h
theorem Held.cell {w : World} {g : Nat} {t : TypeId} {cs : Array Value} (h : Held w g t cs) (o : Nat) : w.cell? ⟨g, o, none⟩ = cs[o]? := cell_of_row w g o cs t (0, 0) h
theorem Held.frozen {w : World} {g : Nat} {t : TypeId} {cs : Array Value} (h : Held w g t cs) (o : Nat) : w.frozen? ⟨g, o, none⟩ = false := frozen_of_row w g o cs t h

theorem Held.new2 (w : World) (o : Obj) (t : TypeId) (cs : Array Value) : Held ((w.alloc o).alloc (.cells cs t)) (w.heap.size + 1) t cs := by
  have := Held.new (w.alloc o) t cs
  rwa [World.size_alloc] at this
theorem Held.set1 {w : World} {g : Nat} {t : TypeId} {cs : Array Value} (h : Held w g t cs) (i : Nat) (x : Value) : Held (w.setCell ⟨g, i, none⟩ x) g t (cs.setIfInBounds i x) := heap_setCell_same w g i cs t x h
theorem Held.set3 {w : World} {g : Nat} {t : TypeId} {a b c : Value} (h : Held w g t #[a, b, c]) (x y z : Value) :
    Held (((w.setCell ⟨g, 0, none⟩ x).setCell ⟨g, 1, none⟩ y).setCell ⟨g, 2, none⟩ z) g t #[x, y, z] := ((h.set1 0 x).set1 1 y).set1 2 z
theorem Held.far3 {w : World} {g k : Nat} {t : TypeId} {cs : Array Value} (h : Held w g t cs) (hk : g ≠ k) (x y z : Value) :
    Held (((w.setCell ⟨k, 0, none⟩ x).setCell ⟨k, 1, none⟩ y).setCell ⟨k, 2, none⟩ z) g t cs := by
  unfold Held at h ⊢
  rw [Below.heap_setCell _ _ _ g (by simpa using hk), Below.heap_setCell _ _ _ g (by simpa using hk), Below.heap_setCell _ _ _ g (by simpa using hk)]
  exact h
theorem own_ge_ne {w : World} {B k : Nat} {e : TypeId} {v : Value} {sz n : Nat} {xs : List Value} (h : w.ownsRow B e sz v n xs) (hk : w.heap.size ≤ k) : v.ownBlock ≠ some k := fun he => by have := (h.lt k he).2; omega
theorem u8_le (c : UInt8) : (c.toNat : Int) ≤ 255 := by have := c.toNat_lt; omega

/-! ### rows of numbers -/
def i64s (l : List Int) : List Value := l.map (Value.int .i64)
theorem i64s_one (l : List Int) : ∀ y ∈ i64s l, y.oneCell' = true := by
  intro y hy
  simp only [i64s, List.mem_map] at hy
  obtain ⟨r, _, rfl⟩ := hy
  rfl
theorem i64s_len (a : List Int) : (i64s a).length = a.length := by simp [i64s]
theorem i64s_app (a b : List Int) : i64s a ++ i64s b = i64s (a ++ b) := by simp [i64s]
/-- A slice value v whose elements are the numbers l, in memory at or above block B. -/
def Ints (w : World) (B : Nat) (v : Value) (l : List Int) : Prop := w.ownsRow B 3 1 v l.length (i64s l)
theorem ints_nil (w : World) (B : Nat) : Ints w B (.slice none 0 0) [] := World.ownsRow_nil w B 3 1
theorem ints_form {w : World} {B : Nat} {v : Value} {rs : List Int} (h : Ints w B v rs) : ∃ D c, v = .slice D rs.length c := by
  rcases h.2 with ⟨rfl, h0⟩ | ⟨g, cap, cur, rfl, _⟩
  · exact ⟨none, 0, by rw [h0]⟩
  · exact ⟨_, _, rfl⟩
theorem Ints.below {w w' : World} {B C : Nat} {v : Value} {l : List Int} (h : Ints w B v l) (hb : Below C w w') (hC : w.heap.size ≤ C) : Ints w' B v l := own_below h hb hC
theorem Ints.base {w : World} {B C : Nat} {v : Value} {l : List Int} (h : Ints w B v l) (hC : C ≤ B) : Ints w C v l := own_base h hC
theorem Ints.alloc {w : World} {B : Nat} {v : Value} {l : List Int} (h : Ints w B v l) (o : Obj) : Ints (w.alloc o) B v l := World.ownsRow.alloc h o
theorem Ints.kept {w w' : World} {B : Nat} {v : Value} {l : List Int} {row : Option Nat} (h : Ints w B v l) (hg : w.grownBy w' row) (hne : v.ownBlock = none ∨ v.ownBlock ≠ row) : Ints w' B v l := World.ownsRow.kept h hg hne
theorem Ints.set {w : World} {B : Nat} {v : Value} {l : List Int} (h : Ints w B v l) {p : Addr} (hp : v.ownBlock ≠ some p.block) (u : Value) : Ints (w.setCell p u) B v l := own_set h hp u
theorem Ints.drew {w : World} {B : Nat} {v : Value} {l : List Int} (h : Ints w B v l) : Ints w.drew B v l := h
/-- Its cells, to be read. -/
theorem Ints.read {w : World} {B : Nat} {v : Value} {l : List Int} (h : Ints w B v l) : ∃ D c, v = .slice D l.length c ∧ ∀ k : Nat, k < l.length → ∃ (b : Nat) (z : Int), D = some ⟨b, 0, none⟩ ∧ l[k]? = some z ∧ w.cell? ⟨b, k, none⟩ = some (.int .i64 z) := by
  rcases h.2 with ⟨rfl, h0⟩ | ⟨g, cap, cur, rfl, _⟩
  · exact ⟨none, 0, by rw [h0], fun k hk => by omega⟩
  · refine ⟨_, _, rfl, fun k hk => ⟨g, l[k], rfl, by simp [hk], ?_⟩⟩
    exact (World.ownsRow.cellAt h k (by omega)).trans (by simp [i64s, hk])

/-! ### actions -/
/-- An action: its kind, its rune, its numbers. -/
structure A where
  k : Int
  r : Int
  par : List Int
def actCells (ps : List (A × Value)) : List Value := ps.flatMap fun x => [.int .i64 x.1.k, .int .i32 x.1.r, x.2]
theorem actCells_len (ps : List (A × Value)) : (actCells ps).length = ps.length * 3 := by
  induction ps with
  | nil => rfl
  | cons a l ih => simp only [actCells, List.flatMap_cons, List.length_append, List.length_cons, List.length_nil] at ih ⊢; omega
theorem actCells_app (a b : List (A × Value)) : actCells a ++ actCells b = actCells (a ++ b) := by simp [actCells]
/-- A slice value v whose elements are the actions l, in memory at or above block B. -/
structure ActsOf (w : World) (B : Nat) (v : Value) (ps : List (A × Value)) : Prop where
  row : w.ownsRow B 44 3 v ps.length (actCells ps)
  pars : ∀ x ∈ ps, Ints w B x.2 x.1.par ∧ (x.2.ownBlock = none ∨ x.2.ownBlock ≠ v.ownBlock)
def Acts (w : World) (B : Nat) (v : Value) (l : List A) : Prop := ∃ ps : List (A × Value), ps.map (·.1) = l ∧ ActsOf w B v ps

theorem one_ints {w : World} {B : Nat} {v : Value} {l : List Int} (h : Ints w B v l) : v.oneCell' = true := by
  obtain ⟨D, c, rfl⟩ := ints_form h
  rfl
theorem ActsOf.one {w : World} {B : Nat} {v : Value} {ps : List (A × Value)} (h : ActsOf w B v ps) : ∀ y ∈ actCells ps, y.oneCell' = true := by
  intro y hy
  simp only [actCells, List.mem_flatMap, List.mem_cons, List.not_mem_nil, or_false] at hy
  obtain ⟨x, hx, rfl | rfl | rfl⟩ := hy
  · rfl
  · rfl
  · exact one_ints (h.pars x hx).1
theorem acts_nil (w : World) (B : Nat) : Acts w B (.slice none 0 0) [] := ⟨[], rfl, World.ownsRow_nil w B 44 3, fun _ h => by cases h⟩
theorem Acts.below {w w' : World} {B C : Nat} {v : Value} {l : List A} (h : Acts w B v l) (hb : Below C w w') (hC : w.heap.size ≤ C) : Acts w' B v l := by
  obtain ⟨ps, h1, h2, h3⟩ := h
  exact ⟨ps, h1, own_below h2 hb hC, fun x hx => ⟨(h3 x hx).1.below hb hC, (h3 x hx).2⟩⟩
theorem Acts.base {w : World} {B C : Nat} {v : Value} {l : List A} (h : Acts w B v l) (hC : C ≤ B) : Acts w C v l := by
  obtain ⟨ps, h1, h2, h3⟩ := h
  exact ⟨ps, h1, own_base h2 hC, fun x hx => ⟨(h3 x hx).1.base hC, (h3 x hx).2⟩⟩
theorem Acts.alloc {w : World} {B : Nat} {v : Value} {l : List A} (h : Acts w B v l) (o : Obj) : Acts (w.alloc o) B v l := by
  obtain ⟨ps, h1, h2, h3⟩ := h
  exact ⟨ps, h1, World.ownsRow.alloc h2 o, fun x hx => ⟨(h3 x hx).1.alloc o, (h3 x hx).2⟩⟩
theorem Acts.drew {w : World} {B : Nat} {v : Value} {l : List A} (h : Acts w B v l) : Acts w.drew B v l := by
  obtain ⟨ps, h1, h2, h3⟩ := h
  exact ⟨ps, h1, h2, h3⟩
/-- A cell of a block below B is set. -/
theorem Acts.set {w : World} {B : Nat} {v : Value} {l : List A} (h : Acts w B v l) {p : Addr} (hp : p.block < B) (u : Value) : Acts (w.setCell p u) B v l := by
  obtain ⟨ps, h1, h2, h3⟩ := h
  exact ⟨ps, h1, own_set h2 (own_ne h2 hp) u, fun x hx => ⟨(h3 x hx).1.set (own_ne (h3 x hx).1 hp) u, (h3 x hx).2⟩⟩
/-- A cell of a block behind all that there was is set. -/
theorem Acts.set_new {w w0 : World} {B : Nat} {v : Value} {l : List A} (h0 : Acts w0 B v l) (h : Below w0.heap.size w0 w) {p : Addr} (hp : w0.heap.size ≤ p.block) (u : Value) : Acts (w.setCell p u) B v l :=
  h0.below (h.setCell hp u) (Nat.le_refl _)
theorem acts_form {w : World} {B : Nat} {v : Value} {l : List A} (h : Acts w B v l) : ∃ D c, v = .slice D l.length c := by
  obtain ⟨ps, h1, h2, h3⟩ := h
  rw [← h1, List.length_map]
  rcases h2.2 with ⟨rfl, h0⟩ | ⟨g, cap, cur, rfl, _⟩
  · exact ⟨none, 0, by rw [h0]⟩
  · exact ⟨_, _, rfl⟩
/-- Its cells, to be read. -/
theorem Acts.read {w : World} {B : Nat} {v : Value} {l : List A} (h : Acts w B v l) : ∃ D c, v = .slice D l.length c ∧ ∀ k : Nat, k < l.length → ∃ (b : Nat) (z : A) (p : Value), D = some ⟨b, 0, none⟩ ∧ l[k]? = some z ∧ w.cell? ⟨b, k * 3, none⟩ = some (.int .i64 z.k) ∧ w.cell? ⟨b, k * 3 + 1, none⟩ = some (.int .i32 z.r) ∧ w.cell? ⟨b, k * 3 + 2, none⟩ = some p ∧ Ints w B p z.par := by
  obtain ⟨ps, h1, h2, h3⟩ := h
  subst h1
  rcases h2.2 with ⟨rfl, h0⟩ | ⟨g, cap, cur, rfl, _⟩
  · exact ⟨none, 0, by simp [h0], fun k hk => by simp at hk; omega⟩
  · refine ⟨_, _, by rw [List.length_map], fun k hk => ?_⟩
    rw [List.length_map] at hk
    have key : ∀ (qs : List (A × Value)) (k : Nat) (h : k < qs.length), (actCells qs)[k * 3]? = some (.int .i64 qs[k].1.k) ∧ (actCells qs)[k * 3 + 1]? = some (.int .i32 qs[k].1.r) ∧ (actCells qs)[k * 3 + 2]? = some qs[k].2 := by
      intro qs
      induction qs with
      | nil => intro k h; simp at h
      | cons q qs ih =>
        intro k h
        cases k with
        | zero => exact ⟨rfl, rfl, rfl⟩
        | succ k =>
          have hk' : k < qs.length := by simpa using h
          have e : actCells (q :: qs) = [.int .i64 q.1.k, .int .i32 q.1.r, q.2] ++ actCells qs := rfl
          have e0 : (k + 1) * 3 = k * 3 + 3 := by omega
          rw [e, e0]
          simpa using ih k hk'
    obtain ⟨e0, e1, e2⟩ := key ps k hk
    refine ⟨g, ps[k].1, ps[k].2, rfl, by simp [hk], ?_, ?_, ?_, (h3 _ (List.getElem_mem hk)).1⟩
    · exact (World.ownsRow.cellAt h2 _ (by omega)).trans e0
    · exact (World.ownsRow.cellAt h2 _ (by omega)).trans e1
    · exact (World.ownsRow.cellAt h2 _ (by omega)).trans e2

/-- What an append of one row of actions to another leaves. -/
theorem acts_appended {w w' : World} {B B2 : Nat} {v u v' : Value} {ps qs : List (A × Value)} (hv : ActsOf w B v ps) (hu : ActsOf w B2 u qs) (hB : B ≤ B2) (hold : ∀ k, v.ownBlock = some k → k < B2)
    (h : Appended w w' B 44 3 v v' (ps.length + qs.length) (actCells ps ++ actCells qs)) : ActsOf w' B v' (ps ++ qs) := by
  have lie : ∀ {p : Value} {l : List Int} {C : Nat}, Ints w C p l → (p.ownBlock = none ∨ p.ownBlock ≠ v.ownBlock) → Ints w' C p l ∧ (p.ownBlock = none ∨ p.ownBlock ≠ v'.ownBlock) := by
    intro p l C hp hne
    refine ⟨hp.kept h.grown hne, ?_⟩
    rcases h.lies with hl | hl
    · rw [hl]; exact hne
    · rw [hl]; exact .inr (own_ge_ne hp (Nat.le_refl _))
  refine ⟨?_, fun x hx => ?_⟩
  · rw [List.length_append, ← actCells_app]
    exact h.own
  · rcases List.mem_append.1 hx with hx | hx
    · exact lie (hv.pars x hx).1 (hv.pars x hx).2
    · have := hu.pars x hx
      obtain ⟨p1, p2⟩ := lie this.1 (by
        cases hv0 : v.ownBlock with
        | none => exact (Option.eq_none_or_eq_some x.2.ownBlock).elim .inl fun ⟨k, hk⟩ => .inr (by rw [hk]; simp)
        | some k => exact .inr (own_ne this.1 (hold k hv0)))
      exact ⟨p1.base hB, p2⟩
end Go.Proofs.Ytpcpmeihebgncaa.Esca
