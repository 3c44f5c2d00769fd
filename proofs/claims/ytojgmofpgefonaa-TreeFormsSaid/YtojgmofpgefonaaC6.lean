/-
  What lay and Places of tree answer, of a tree that fits. Conditions: trees of at most 63 nodes, windows of at most a thousand.
-/
import Derived.Test.YtojgmofpgefonaaC4
import Derived.Test.YtojgmofpgefonaaB4
import Derived.Test.YtojgmofpgefonaaTill
namespace Go.Proofs.Ytojgmofpgefonaa
open Go.RowKit
set_option linter.unusedSimpArgs false
set_option linter.unusedVariables false
set_option maxRecDepth 100000

/-- What an append leaves: the new value's row, where it lies, and all else as it was. -/
structure AppX (w w' : World) (base : Nat) (e : TypeId) (sz : Nat) (v v' : Value) (n : Nat) (xs : List Value) : Prop where
  own : w'.ownsRow base e sz v' n xs
  below : Below base w w'
  block : ∀ k, k < w.heap.size → some k ≠ v.ownBlock → w'.heap[k]? = w.heap[k]?
  lies : v'.ownBlock = v.ownBlock ∨ v'.ownBlock = some w.heap.size
theorem step_appX {P : Program} {sz : Nat} (w : World) {ops : Array Oper} {o : Oper} {a : Act} {K : Act → World → Prop} {Q : Exit → Act → World → Prop} {E : Prop} (hgd : o.guard = none) (s x : Operand) (t : TypeId)
    (ho : o.op = .call { callee := .builtin .append, args := #[s, x], argTypes := #[t, t] }) {e : TypeId} (hT : RowT P t e sz)
    (base n m c : Nat) (v : Value) (A : Addr) (xs ys : List Value) (hs : a.eval s = v) (hx : a.eval x = .slice (some A) m c)
    (hv : w.ownsRow base e sz v n xs) (hu : Src w (some A) ys) (hm : ys.length = m * sz) (h1 : ∀ y ∈ ys, y.oneCell' = true) (hn : n + m ≤ 1000000) (hb : base ≤ w.heap.size)
    (h : ∀ v' w', AppX w w' base e sz v v' (n + m) (xs ++ ys) → K (a.put o.dst v') w') :
    if Region.wanted o (yielded ops a.tmps) = true then Oper.wp P o a w K Q else E := by
  rw [if_pos (by simp [Region.wanted, hgd])]
  obtain ⟨ht, i, z, hi, hz, hs', hby, hzs, hpos⟩ := hT
  have hbb : (n + m) * i.bytes ≤ 140737488355328 := Nat.le_trans (Nat.mul_le_mul hn hby) (by decide)
  obtain ⟨v', w', hr, ho', hg, _, hl⟩ := run_append_own_at (P := P) w base t o.type e i z sz i.bytes ht hi hz hs' rfl hzs hpos v n xs hv A m c ys hm (hu.2 A rfl) h1 (by simp only [maxLen]; omega) hbb hb
  unfold Oper.wp execOp
  simp only [ho, resolve, invoke, builtin, Sem.run_bind, Sem.run_pure, Result.andThen_ok, List.map_toArray, List.map_cons, List.map_nil, hs, hx, hr]
  exact h v' w' ⟨ho', (Below.refl _ _).grown hg hb fun k hk => (hv.lt k hk).1, hg.block, hl⟩

/-- The layout in memory. -/
structure Lay (w : World) (g B : Nat) (nv v u : Value) (S : List Sp) (U : List R) : Prop where
  box : Held w g 79 #[nv, v, u]
  ov : w.ownsRow B 50 5 v S.length (ES.flat S)
  ou : w.ownsRow B 48 4 u U.length (ER.flat U)
  low : g < B
/-- All but the layout and its two rows is as it was. -/
structure LF (g : Nat) (v u v' u' : Value) (w w' : World) : Prop where
  below : Below g w w'
  block : ∀ k, k < w.heap.size → k ≠ g → v.ownBlock ≠ some k → u.ownBlock ≠ some k → w'.heap[k]? = w.heap[k]?
  lv : ∀ k, v'.ownBlock = some k → v.ownBlock = some k ∨ w.heap.size ≤ k
  lu : ∀ k, u'.ownBlock = some k → u.ownBlock = some k ∨ w.heap.size ≤ k
theorem LF.of {g : Nat} {v u : Value} {w w' : World} (h : Below w.heap.size w w') (hg : g ≤ w.heap.size) : LF g v u v u w w' :=
  ⟨h.mono hg, fun k hk _ _ _ => h.block k hk, fun k hk => .inl hk, fun k hk => .inl hk⟩
theorem LF.trans {g : Nat} {v u v1 u1 v2 u2 : Value} {w w1 w2 : World} (h : LF g v u v1 u1 w w1) (h' : LF g v1 u1 v2 u2 w1 w2) : LF g v u v2 u2 w w2 := by
  refine ⟨h.below.trans h'.below, fun k hk hg hv hu => ?_, fun k hk => ?_, fun k hk => ?_⟩
  · refine (h'.block k (Nat.lt_of_lt_of_le hk h.below.size) hg ?_ ?_).trans (h.block k hk hg hv hu)
    · intro e
      rcases h.lv k e with e | e
      · exact hv e
      · omega
    · intro e
      rcases h.lu k e with e | e
      · exact hu e
      · omega
  · rcases h'.lv k hk with e | e
    · exact h.lv k e
    · exact .inr (Nat.le_trans h.below.size e)
  · rcases h'.lu k hk with e | e
    · exact h.lu k e
    · exact .inr (Nat.le_trans h.below.size e)
theorem LF.held {g k : Nat} {v u v' u' : Value} {w w' : World} (h : LF g v u v' u' w w') {t : TypeId} {cs : Array Value} (hh : Held w k t cs) (hg : k ≠ g) (hv : v.ownBlock ≠ some k) (hu : u.ownBlock ≠ some k) : Held w' k t cs := (h.block k hh.lt hg hv hu).trans hh
theorem Lay.behind {w w' : World} {g B : Nat} {nv v u : Value} {S : List Sp} {U : List R} (h : Lay w g B nv v u S U) (hb : Below w.heap.size w w') : Lay w' g B nv v u S U :=
  ⟨h.box.below hb h.box.lt, own_below h.ov hb (Nat.le_refl _), own_below h.ou hb (Nat.le_refl _), h.low⟩
theorem Lay.cells {w : World} {g B : Nat} {nv v u : Value} {S : List Sp} {U : List R} (h : Lay w g B nv v u S U) : w.cell? ⟨g, 0, none⟩ = some nv ∧ w.cell? ⟨g, 1, none⟩ = some v ∧ w.cell? ⟨g, 2, none⟩ = some u ∧ ∀ o, w.frozen? ⟨g, o, none⟩ = false := ⟨h.box.cell 0, h.box.cell 1, h.box.cell 2, fun o => h.box.frozen o⟩
/-- A place is added. -/
theorem lay_v {w w1 w2 : World} {g B : Nat} {nv v u v' : Value} {S : List Sp} {U : List R} {s : Sp} (h : Lay w g B nv v u S U) (hb : Below w.heap.size w w1) (hB : B ≤ w.heap.size)
    (ha : AppX w1 w2 B 50 5 v v' (S.length + 1) (ES.flat S ++ scs s)) : Lay (w2.setCell ⟨g, 1, none⟩ v') g B nv v' u (S ++ [s]) U ∧ LF g v u v' u w (w2.setCell ⟨g, 1, none⟩ v') := by
  have h1 := h.behind hb
  have hg1 := h.box.lt
  have hlow := h.low
  have vl := fun k hk => h.ov.lt k hk
  have hbx : Held w2 g 79 #[nv, v, u] := (ha.block g h1.box.lt (fun e => by have := (vl g e.symm).1; omega)).trans h1.box
  have hou : w2.ownsRow B 48 4 u U.length (ER.flat U) := by
    refine ⟨h1.ou.1, ?_⟩
    rcases h1.ou.2 with hn | ⟨q, cap, cur, rfl, hq, hc, rest⟩
    · exact .inl hn
    · refine .inr ⟨q, cap, cur, rfl, hq, (ha.block q (Held.lt hc) ?_).trans hc, rest⟩
      intro e
      rcases h1.ov.2 with ⟨rfl, _⟩ | ⟨q', cap', cur', rfl, hq', hc', _⟩
      · cases e
      · simp only [Value.ownBlock, Option.some.injEq] at e
        subst e
        rw [hc] at hc'
        injection hc' with hc'
        injection hc' with _ hc'
        cases hc'
  refine ⟨⟨hbx.set1 1 v', ?_, own_far hou hlow _, hlow⟩, ⟨?_, fun k hk hg hv hu => ?_, fun k hk => ?_, fun k hk => .inl hk⟩⟩
  · have := own_far ha.own hlow (p := ⟨g, 1, none⟩) v'
    rw [List.length_append, ES.flat_app]
    exact this
  · have e1 : Below g w w2 := (hb.mono (by omega)).trans (ha.below.mono (by omega))
    exact e1.setCell (p := ⟨g, 1, none⟩) (Nat.le_refl _) _
  · rw [Below.heap_setCell w2 ⟨g, 1, none⟩ v' k hg]
    exact (ha.block k (Nat.lt_of_lt_of_le hk hb.size) (fun e => hv e.symm)).trans (hb.block k hk)
  · rcases ha.lies with e | e
    · rw [e] at hk; exact .inl hk
    · rw [e] at hk
      injection hk with hk
      exact .inr (by have := hb.size; omega)
/-- A border is added. -/
theorem lay_u {w w1 w2 : World} {g B : Nat} {nv v u u' : Value} {S : List Sp} {U : List R} {s : R} (h : Lay w g B nv v u S U) (hb : Below w.heap.size w w1) (hB : B ≤ w.heap.size)
    (ha : AppX w1 w2 B 48 4 u u' (U.length + 1) (ER.flat U ++ ER.cs s)) : Lay (w2.setCell ⟨g, 2, none⟩ u') g B nv v u' S (U ++ [s]) ∧ LF g v u v u' w (w2.setCell ⟨g, 2, none⟩ u') := by
  have h1 := h.behind hb
  have hg1 := h.box.lt
  have hlow := h.low
  have vl := fun k hk => h.ou.lt k hk
  have hbx : Held w2 g 79 #[nv, v, u] := (ha.block g h1.box.lt (fun e => by have := (vl g e.symm).1; omega)).trans h1.box
  have hov : w2.ownsRow B 50 5 v S.length (ES.flat S) := by
    refine ⟨h1.ov.1, ?_⟩
    rcases h1.ov.2 with hn | ⟨q, cap, cur, rfl, hq, hc, rest⟩
    · exact .inl hn
    · refine .inr ⟨q, cap, cur, rfl, hq, (ha.block q (Held.lt hc) ?_).trans hc, rest⟩
      intro e
      rcases h1.ou.2 with ⟨rfl, _⟩ | ⟨q', cap', cur', rfl, hq', hc', _⟩
      · cases e
      · simp only [Value.ownBlock, Option.some.injEq] at e
        subst e
        rw [hc] at hc'
        injection hc' with hc'
        injection hc' with _ hc'
        cases hc'
  refine ⟨⟨hbx.set1 2 u', own_far hov hlow _, ?_, hlow⟩, ⟨?_, fun k hk hg hv hu => ?_, fun k hk => .inl hk, fun k hk => ?_⟩⟩
  · have := own_far ha.own hlow (p := ⟨g, 2, none⟩) u'
    rw [List.length_append, ER.flat_app]
    rw [← ER.flat_one] at this
    exact this
  · have e1 : Below g w w2 := (hb.mono (by omega)).trans (ha.below.mono (by omega))
    exact e1.setCell (p := ⟨g, 2, none⟩) (Nat.le_refl _) _
  · rw [Below.heap_setCell w2 ⟨g, 2, none⟩ u' k hg]
    exact (ha.block k (Nat.lt_of_lt_of_le hk hb.size) (fun e => hu e.symm)).trans (hb.block k hk)
  · rcases ha.lies with e | e
    · rw [e] at hk; exact .inl hk
    · rw [e] at hk
      injection hk with hk
      exact .inr (by have := hb.size; omega)

theorem tab_low {C g b off : Nat} {w w' : World} {vs : List Value} (h : TabAt C w (some ⟨b, off, none⟩) vs) (hb : Below g w w') (hg : b < g) : TabAt C w' (some ⟨b, off, none⟩) vs := fun k hk => by
  obtain ⟨b', off', e, h0, h1, hf, h2⟩ := h k hk
  simp only [Option.some.injEq, Addr.mk.injEq, and_true] at e
  obtain ⟨rfl, rfl⟩ := e
  exact ⟨b, off, rfl, h0, Nat.lt_of_lt_of_le h1 hb.size, hf.below hb hg, (hb.cell (p := ⟨b, off + k, none⟩) hg).trans h2⟩
theorem spots_le (t : T) (r : R) : (t.spots r).length ≤ t.size ∧ (t.bords r).length + 1 ≤ t.size ∧ (t.spots r).length + (t.bords r).length = t.size := by
  have h1 := t.panes_size
  have h2 := t.bords_len r
  have h3 : (t.spots r).length = t.panes.length := by rw [← t.spots_panes r, List.length_map]
  have h4 : 0 < t.panes.length := by have := t.size_pos; omega
  omega
def LayP (w : World) (g B : Nat) (nv v u : Value) (S : List Sp) (U : List R) (e : Ending) (w' : World) : Prop := ∃ v' u', e = .returned (.bool true) ∧ Lay w' g B nv v' u' S U ∧ LF g v u v' u' w w'

set_option maxHeartbeats 4000000 in
theorem lay_any (t : T) : ∀ (r : R) (l : List N) (D : Option Addr) (c i B g C : Nat) (v u : Value) (S : List Sp) (U : List R) (w : World), TabAt C w D (EN.flat l) → t.At l i → t.ok → l.length ≤ 63 → r.in → t.fits r →
    Lay w g B (.slice D l.length c) v u S U → B ≤ w.heap.size → S.length + t.size ≤ 200 → U.length + t.size ≤ 200 → (∀ b, D.map Addr.block = some b → b < g) →
    Calls Try.prog 48 #[.pointer (some ⟨g, 0, none⟩), .int .i64 i, rv r] w (LayP w g B (.slice D l.length c) v u (S ++ t.spots r) (U ++ t.bords r)) := by
  induction t with
  | leaf p =>
    intro r l D c i B g C v u S U w h hi ho hl hr hf hL hB hS hU hD
    obtain ⟨b, off, rfl, h1, h2, h3, c0, c1, c2, c3, c4⟩ := node_at h i _ hi
    have hi' : (i : Int) < (l.length : Int) := by have := T.at_lt hi; simp [T.size] at this; omega
    have ho' : 0 < p := ho
    dsimp only [leafN] at c0 c1 c2 c3 c4
    obtain ⟨X, Y, W, H⟩ := r
    unfold rv
    dsimp only
    have k1 := Held.new (w.alloc (.cells #[.int .i64 X, .int .i64 Y, .int .i64 W, .int .i64 H] 48)) 23 #[.int .i64 p, .int .i64 0, .int .i64 0, .int .i64 0, .int .i64 0]
    simp only [World.size_alloc] at k1
    have k0 := (RB.new w ⟨X, Y, W, H⟩).alloc (.cells #[.int .i64 p, .int .i64 0, .int .i64 0, .int .i64 0, .int .i64 0] 23)
    have kb : Below w.heap.size w ((w.alloc (.cells #[.int .i64 X, .int .i64 Y, .int .i64 W, .int .i64 H] 48)).alloc (.cells #[.int .i64 p, .int .i64 0, .int .i64 0, .int .i64 0, .int .i64 0] 23)) := (below_new _ _).alloc (by simp) _
    have kg := hL.box.lt
    have kc := hL.cells.1
    have KL := Lib.hid hL
    have hlow := hL.low
    have kS : S.length ≤ 199 := by simp [T.size] at hS; omega
    clear hr hf hL hS hU hD h hi ho
    go_enter Try.func48, Try.ntmps48
    go_upto_region 3 with fail
    refine wp_world (fun wq => RB wq w.heap.size ⟨X, Y, W, H⟩ ∧ NB wq (w.heap.size + 1) ⟨p, 0, 0, 0, 0⟩ ∧ Below w.heap.size w wq) ⟨k0, k1, kb⟩ ?_
    clear k0 k1 kb
    rintro wq ⟨k0, k1, kb⟩
    have L1 := KL.out.behind kb
    obtain ⟨_, v1, _, vf⟩ := L1.cells
    obtain ⟨r0, r1, r2, r3, rf⟩ := k0.cells
    have n0 := k1.cells.1
    dsimp only at r0 r1 r2 r3 n0
    have KB := Lib.hid kb
    have hsz := kb.size
    have n0l := k1.lt
    clear kb L1
    refine wp_region_till 13 (S := (fun wv => wv.cell? ⟨g, 1, none⟩ = some v ∧ wv.cell? ⟨w.heap.size + 1, 0, none⟩ = some (.int .i64 p) ∧ wv.cell? ⟨w.heap.size, 0, none⟩ = some (.int .i64 X) ∧ wv.cell? ⟨w.heap.size, 1, none⟩ = some (.int .i64 Y) ∧ wv.cell? ⟨w.heap.size, 2, none⟩ = some (.int .i64 W) ∧ wv.cell? ⟨w.heap.size, 3, none⟩ = some (.int .i64 H))) (by kernel_rfl) (by exact ⟨v1, n0, r0, r1, r2, r3⟩) (fun hH0 => ?_)
    have hzd : wq.drew.heap.size ≤ wq.heap.size ∧ wq.heap.size ≤ wq.drew.heap.size := ⟨Nat.le_refl _, Nat.le_refl _⟩
    have KBy := Lib.hid KB.out.drew
    generalize wq.drew = wy at *
    refine wpTill_take (i := 0) (oi := _) (v := .pointer (some ⟨g, 0, none⟩)) rfl (by kernel_rfl) (by kernel_rfl) (by kernel_rfl) (by kernel_rfl) (fun _ _ _ h => h) (Or.inl ⟨by rfl, ?_⟩) hH0 ?_
    · intro wv hSw
      try dsimp only at hSw
      go_simp
    change wpTill _ _ _ _ _ _ _ _ (Act.put _ (some 22) (.pointer (some ⟨g, 0, none⟩))) _
    simp only [Act.put, List.setIfInBounds_toArray, List.set_cons_zero, List.set_cons_succ]
    refine wpTill_take (i := 1) (oi := _) (v := .pointer (some ⟨g, 0, none⟩)) rfl (by kernel_rfl) (by kernel_rfl) (by kernel_rfl) (by kernel_rfl) (fun _ _ _ h => h) (Or.inl ⟨by rfl, ?_⟩) hH0 ?_
    · intro wv hSw
      try dsimp only at hSw
      go_simp
    change wpTill _ _ _ _ _ _ _ _ (Act.put _ (some 23) (.pointer (some ⟨g, 0, none⟩))) _
    simp only [Act.put, List.setIfInBounds_toArray, List.set_cons_zero, List.set_cons_succ]
    refine wpTill_take (i := 2) (oi := _) (v := .pointer (some ⟨g, 0, none⟩)) rfl (by kernel_rfl) (by kernel_rfl) (by kernel_rfl) (by kernel_rfl) (fun _ _ _ h => h) (Or.inl ⟨by rfl, ?_⟩) hH0 ?_
    · intro wv hSw
      try dsimp only at hSw
      go_simp
    change wpTill _ _ _ _ _ _ _ _ (Act.put _ (some 24) (.pointer (some ⟨g, 0, none⟩))) _
    simp only [Act.put, List.setIfInBounds_toArray, List.set_cons_zero, List.set_cons_succ]
    refine wpTill_take (i := 3) (oi := _) (v := .pointer (some ⟨g, 1, none⟩)) rfl (by kernel_rfl) (by kernel_rfl) (by kernel_rfl) (by kernel_rfl) (fun _ _ _ h => h) (Or.inl ⟨by rfl, ?_⟩) hH0 ?_
    · intro wv hSw
      try dsimp only at hSw
      go_simp
    change wpTill _ _ _ _ _ _ _ _ (Act.put _ (some 25) (.pointer (some ⟨g, 1, none⟩))) _
    simp only [Act.put, List.setIfInBounds_toArray, List.set_cons_zero, List.set_cons_succ]
    refine wpTill_take (i := 4) (oi := _) (v := v) rfl (by kernel_rfl) (by kernel_rfl) (by kernel_rfl) (by kernel_rfl) (fun _ _ _ h => h) (Or.inl ⟨by rfl, ?_⟩) hH0 ?_
    · intro wv hSw
      try dsimp only at hSw
      go_simp
    change wpTill _ _ _ _ _ _ _ _ (Act.put _ (some 26) (v)) _
    simp only [Act.put, List.setIfInBounds_toArray, List.set_cons_zero, List.set_cons_succ]
    refine wpTill_take (i := 5) (oi := _) (v := .pointer (some ⟨w.heap.size + 1, 0, none⟩)) rfl (by kernel_rfl) (by kernel_rfl) (by kernel_rfl) (by kernel_rfl) (fun _ _ _ h => h) (Or.inl ⟨by rfl, ?_⟩) hH0 ?_
    · intro wv hSw
      try dsimp only at hSw
      go_simp
    change wpTill _ _ _ _ _ _ _ _ (Act.put _ (some 27) (.pointer (some ⟨w.heap.size + 1, 0, none⟩))) _
    simp only [Act.put, List.setIfInBounds_toArray, List.set_cons_zero, List.set_cons_succ]
    refine wpTill_take (i := 6) (oi := _) (v := .int .i64 p) rfl (by kernel_rfl) (by kernel_rfl) (by kernel_rfl) (by kernel_rfl) (fun _ _ _ h => h) (Or.inl ⟨by rfl, ?_⟩) hH0 ?_
    · intro wv hSw
      try dsimp only at hSw
      go_simp
    change wpTill _ _ _ _ _ _ _ _ (Act.put _ (some 28) (.int .i64 p)) _
    simp only [Act.put, List.setIfInBounds_toArray, List.set_cons_zero, List.set_cons_succ]
    refine wpTill_take (i := 7) (oi := _) (v := .agg #[.int .i64 X, .int .i64 Y, .int .i64 W, .int .i64 H]) rfl (by kernel_rfl) (by kernel_rfl) (by kernel_rfl) (by kernel_rfl) (fun _ _ _ h => h) (Or.inl ⟨by rfl, ?_⟩) hH0 ?_
    · intro wv hSw
      try dsimp only at hSw
      go_simp
    change wpTill _ _ _ _ _ _ _ _ (Act.put _ (some 29) (.agg #[.int .i64 X, .int .i64 Y, .int .i64 W, .int .i64 H])) _
    simp only [Act.put, List.setIfInBounds_toArray, List.set_cons_zero, List.set_cons_succ]
    refine wpTill_take (i := 8) (oi := _) (v := .agg #[.int .i64 p, .int .i64 X, .int .i64 Y, .int .i64 W, .int .i64 H]) rfl (by kernel_rfl) (by kernel_rfl) (by kernel_rfl) (by kernel_rfl) (fun _ _ _ h => h) (Or.inl ⟨by rfl, ?_⟩) hH0 ?_
    · intro wv hSw
      try dsimp only at hSw
      go_simp
    change wpTill _ _ _ _ _ _ _ _ (Act.put _ (some 30) (.agg #[.int .i64 p, .int .i64 X, .int .i64 Y, .int .i64 W, .int .i64 H])) _
    simp only [Act.put, List.setIfInBounds_toArray, List.set_cons_zero, List.set_cons_succ]
    refine wpTill_one (i := 9) (o := _) (by kernel_rfl) rfl (fun K hK => ?_)
    go_simp
    have gz := below_new wy (.cells #[.int .i64 p, .int .i64 X, .int .i64 Y, .int .i64 W, .int .i64 H] 50)
    have own3 := own_one wy 50 5 [.int .i64 p, .int .i64 X, .int .i64 Y, .int .i64 W, .int .i64 H] rfl
    have kby := KBy.out.trans (gz.mono (by omega))
    have gs : wy.heap.size ≤ (wy.alloc (.cells #[.int .i64 p, .int .i64 X, .int .i64 Y, .int .i64 W, .int .i64 H] 50)).heap.size := gz.size
    refine hK.out _ _ (fun _ => by exact ⟨(gz.cell (p := ⟨g, _, none⟩) (by simp; omega)).trans hH0.1, (gz.cell (p := ⟨_, _, none⟩) (by simp; omega)).trans hH0.2.1, (gz.cell (p := ⟨_, _, none⟩) (by simp; omega)).trans hH0.2.2.1, (gz.cell (p := ⟨_, _, none⟩) (by simp; omega)).trans hH0.2.2.2.1, (gz.cell (p := ⟨_, _, none⟩) (by simp; omega)).trans hH0.2.2.2.2.1, (gz.cell (p := ⟨_, _, none⟩) (by simp; omega)).trans hH0.2.2.2.2.2⟩) (fun hH1 => ?_)
    replace hH1 := hH1 (by decide)
    clear hK K
    try simp only [Act.put, List.setIfInBounds_toArray, List.set_cons_zero, List.set_cons_succ]
    generalize (wy.alloc (.cells #[.int .i64 p, .int .i64 X, .int .i64 Y, .int .i64 W, .int .i64 H] 50)) = wx at *
    refine wpTill_one (i := 10) (o := _) (by kernel_rfl) rfl (fun K hK => ?_)
    refine step_appX _ (by rfl) (.tmp 26) (.tmp 31) 43 (by rfl) rowS B S.length 1 1 v ⟨wy.heap.size, 0, none⟩ (ES.flat S) [.int .i64 p, .int .i64 X, .int .i64 Y, .int .i64 W, .int .i64 H] (by rfl) (by rfl) (by exact own_below KL.out.ov kby (Nat.le_refl _)) (by exact (SV.src (E := ES) (l := [⟨p, ⟨X, Y, W, H⟩⟩]) (SV.of_own own3 (by decide))).1) rfl (ES.flat_all [⟨p, ⟨X, Y, W, H⟩⟩]) (by omega) (by omega) ?_
    rintro va wa ax
    have LV := lay_v (s := ⟨p, ⟨X, Y, W, H⟩⟩) KL.out kby hB ax
    have ab := fun k hk (hn : some k ≠ v.ownBlock) => ax.block k hk hn
    have vlt := fun k hk => (KL.out.ov.lt k hk)
    have hbx : Held wa g 79 #[.slice (some ⟨b, off, none⟩) l.length c, v, u] := (ax.block g (by omega) (fun e => by have := (vlt g e.symm).1; omega)).trans ((KL.out.behind kby).box)
    have vfa : wa.frozen? ⟨g, 1, none⟩ = false := hbx.frozen 1
    have vca : wa.cell? ⟨g, 1, none⟩ = some v := hbx.cell 1
    have hne : ∀ k, w.heap.size ≤ k → some k ≠ v.ownBlock := fun k hk e => by have := (vlt k e.symm).2; omega
    have cf : ∀ k o, w.heap.size ≤ k → k < wx.heap.size → wa.cell? ⟨k, o, none⟩ = wx.cell? ⟨k, o, none⟩ := fun k o hk hk2 => cell_of_block (ax.block k hk2 (hne k hk)) o
    refine hK.out _ _ (fun _ => by exact ⟨vca, (cf _ _ (by omega) (by omega)).trans hH1.2.1, (cf _ _ (by omega) (by omega)).trans hH1.2.2.1, (cf _ _ (by omega) (by omega)).trans hH1.2.2.2.1, (cf _ _ (by omega) (by omega)).trans hH1.2.2.2.2.1, (cf _ _ (by omega) (by omega)).trans hH1.2.2.2.2.2⟩) (fun hH2 => ?_)
    replace hH2 := hH2 (by decide)
    clear hK K
    try simp only [Act.put, List.setIfInBounds_toArray, List.set_cons_zero, List.set_cons_succ]
    refine wpTill_one (i := 11) (o := _) (by kernel_rfl) rfl (fun K hK => ?_)
    go_simp
    refine hK.out _ _ (fun _ => by exact hH2) (fun hH3 => ?_)
    replace hH3 := hH3 (by decide)
    clear hK K
    try simp only [Act.put, List.setIfInBounds_toArray, List.set_cons_zero, List.set_cons_succ]
    refine wpTill_one (i := 12) (o := _) (by kernel_rfl) rfl (fun K hK => ?_)
    go_simp
    refine hK.out _ _ (fun _ => by exact hH3) (fun hH4 => ?_)
    replace hH4 := hH4 (by decide)
    clear hK K
    try simp only [Act.put, List.setIfInBounds_toArray, List.set_cons_zero, List.set_cons_succ]
    refine wpTill_one (i := 13) (o := _) (by kernel_rfl) rfl (fun K hK => ?_)
    obtain ⟨vD, vn, vc, rfl⟩ : ∃ D n c, va = .slice D n c := by obtain ⟨D, c, e, _⟩ := SV.of_own (E := ES) (l := S ++ [⟨p, ⟨X, Y, W, H⟩⟩]) (n := S.length + 1) (by rw [ES.flat_app]; exact ax.own) (by decide); exact ⟨D, _, c, e⟩
    have LVH := Lib.hid LV
    clear LV ax ab
    go_simp
    refine hK.out _ _ (fun h => absurd rfl h) (fun hH5 => ?_)
    clear hK K
    try simp only [Act.put, List.setIfInBounds_toArray, List.set_cons_zero, List.set_cons_succ]
    refine wpTill_done (by kernel_rfl) ?_ _
    clear hH0 hH1 hH2 hH3 hH4 hH5
    go_wp2_with fail
    go_ret
    have e1 : S ++ (T.leaf p).spots ⟨X, Y, W, H⟩ = S ++ [⟨p, ⟨X, Y, W, H⟩⟩] := rfl
    have e2 : U ++ (T.leaf p).bords ⟨X, Y, W, H⟩ = U := List.append_nil _
    rw [e1, e2]
    exact ⟨_, u, rfl, LVH.out.1, LVH.out.2⟩
  | fork d f x y hx hy =>
    intro r l D c i B g C v u S U w h hi ho hl hr hf hL hB hS hU hD
    obtain ⟨b, off, rfl, h1, h2, h3, c0, c1, c2, c3, c4⟩ := node_at h i _ hi.1
    have hi' : (i : Int) < (l.length : Int) := by have := T.at_lt hi; simp [T.size] at this; omega
    have hbg : b < g := hD b rfl
    obtain ⟨hcut, ra, rm, rb⟩ := cut_in hr ho.1 hf.1 hf.2.1
    have hx1 := spots_le x (aR d f r)
    have hsz : x.size + y.size + 1 = (T.fork d f x y).size := rfl
    have hyp := y.size_pos
    have HX := Lib.hid (fun v u S U w' (hb : Below g w w') hL hB hS hU => hx (aR d f r) l _ c (i + 1) B g C v u S U w' (tab_low h hb hbg) hi.2.1 ho.2.2.2.1 hl ra hf.2.2.1 hL hB hS hU hD)
    have HY := Lib.hid (fun v u S U w' (hb : Below g w w') hL hB hS hU => hy (bR d f r) l _ c (i + 1 + x.size) B g C v u S U w' (tab_low h hb hbg) hi.2.2 ho.2.2.2.2 hl rb hf.2.2.2 hL hB hS hU hD)
    have HC := Lib.hid (cut_any r d f)
    rw [hcut] at HC
    unfold cutV at HC
    dsimp only at HC
    have es : S ++ (T.fork d f x y).spots r = (S ++ x.spots (aR d f r)) ++ y.spots (bR d f r) := by simp [T.spots]
    have eb : U ++ (T.fork d f x y).bords r = ((U ++ [mR d f r]) ++ x.bords (aR d f r)) ++ y.bords (bR d f r) := by simp [T.bords]
    rw [es, eb]
    rw [← hsz] at hS hU
    have KL := Lib.hid hL
    have kg := hL.box.lt
    have hlow := hL.low
    have vlt := fun k hk => (hL.ov.lt k hk)
    have ult := fun k hk => (hL.ou.lt k hk)
    have HV := Lib.hid vlt
    have HU := Lib.hid ult
    clear es eb hcut ra rm rb hx hy ho hf hr hi h hD hL hsz vlt ult
    dsimp only [T.forkN] at c0 c1 c2 c3 c4
    generalize x.spots (aR d f r) = xs at *
    generalize x.bords (aR d f r) = xb at *
    generalize y.spots (bR d f r) = ys at *
    generalize y.bords (bR d f r) = yb at *
    generalize aR d f r = ra at *
    generalize mR d f r = rm at *
    generalize bR d f r = rb at *
    generalize x.size = sx at *
    generalize y.size = sy at *
    obtain ⟨X, Y, W, H⟩ := r
    obtain ⟨aX, aY, aW, aH⟩ := ra
    obtain ⟨mX, mY, mW, mH⟩ := rm
    obtain ⟨bX, bY, bW, bH⟩ := rb
    unfold rv at *
    dsimp only at *
    go_enter Try.func48, Try.ntmps48
    have kc := KL.out.cells.1
    go_wp2_with fail
    refine (HC.out _).mono ?_
    rintro e w2 ⟨rfl, hb⟩
    have hN : NB w2 (w.heap.size + 1) ⟨0, d, f, (i : Int) + 1, (i : Int) + 1 + sx⟩ := by
      have := Held.new (w.alloc (.cells #[.int .i64 X, .int .i64 Y, .int .i64 W, .int .i64 H] 48)) 23 #[.int .i64 0, .int .i64 d, .int .i64 f, .int .i64 ((i : Int) + 1), .int .i64 ((i : Int) + 1 + sx)]
      simp only [World.size_alloc] at this
      exact Held.below this hb (by simp)
    have hb2 : Below w.heap.size w w2 := ((below_new _ _).alloc (by simp) _).trans (hb.mono (by simp; omega))
    have hs := hN.lt
    clear hb c0 c1 c2 c3 c4 kc
    obtain ⟨n0, n1, n2, n3, n4⟩ := hN.cells
    dsimp only at n0 n1 n2 n3 n4
    go_upto_region 8 with fail
    have k1 := Held.new w2 48 #[.int .i64 aX, .int .i64 aY, .int .i64 aW, .int .i64 aH]
    have k2 := Held.new (w2.alloc (.cells #[.int .i64 aX, .int .i64 aY, .int .i64 aW, .int .i64 aH] 48)) 48 #[.int .i64 mX, .int .i64 mY, .int .i64 mW, .int .i64 mH]
    have k3 := Held.new ((w2.alloc (.cells #[.int .i64 aX, .int .i64 aY, .int .i64 aW, .int .i64 aH] 48)).alloc (.cells #[.int .i64 mX, .int .i64 mY, .int .i64 mW, .int .i64 mH] 48)) 48 #[.int .i64 bX, .int .i64 bY, .int .i64 bW, .int .i64 bH]
    simp only [World.size_alloc] at k2 k3
    refine wp_world (fun wq => NB wq (w.heap.size + 1) ⟨0, d, f, (i : Int) + 1, (i : Int) + 1 + sx⟩ ∧ RB wq w2.heap.size ⟨aX, aY, aW, aH⟩ ∧ RB wq (w2.heap.size + 1) ⟨mX, mY, mW, mH⟩ ∧ RB wq (w2.heap.size + 1 + 1) ⟨bX, bY, bW, bH⟩ ∧ Below w2.heap.size w2 wq)
      ⟨((Held.alloc hN _).alloc _).alloc _, (k1.alloc _).alloc _, k2.alloc _, k3, ((below_new _ _).alloc (by simp) _).alloc (by simp; omega) _⟩ ?_
    clear k1 k2 k3 hN n0 n1 n2 n3 n4
    rintro wq ⟨hN, hA, hM, hB2, hq⟩
    have hb3 := hb2.trans (hq.mono hb2.size)
    have sz := hq.size
    have zB := hB2.lt
    have L1 := KL.out.behind hb3
    obtain ⟨_, _, u1, _⟩ := L1.cells
    obtain ⟨m0, m1, m2, m3, mf⟩ := hM.cells
    dsimp only at m0 m1 m2 m3
    have KB := Lib.hid hb3
    have LL := Lib.hid L1
    have hsz3 := hb3.size
    have F1 := Lib.hid (show NB wq.drew (w.heap.size + 1) ⟨0, d, f, (i : Int) + 1, (i : Int) + 1 + sx⟩ ∧ RB wq.drew w2.heap.size ⟨aX, aY, aW, aH⟩ ∧ RB wq.drew (w2.heap.size + 1 + 1) ⟨bX, bY, bW, bH⟩ from ⟨hN, hA, hB2⟩)
    clear hN hA hM hB2 hq hb2 hb3 L1
    refine wp_region_till 10 (S := (fun wv => wv.cell? ⟨g, 2, none⟩ = some u ∧ wv.cell? ⟨w2.heap.size + 1, 0, none⟩ = some (.int .i64 mX) ∧ wv.cell? ⟨w2.heap.size + 1, 1, none⟩ = some (.int .i64 mY) ∧ wv.cell? ⟨w2.heap.size + 1, 2, none⟩ = some (.int .i64 mW) ∧ wv.cell? ⟨w2.heap.size + 1, 3, none⟩ = some (.int .i64 mH))) (by kernel_rfl) (by exact ⟨u1, m0, m1, m2, m3⟩) (fun hH0 => ?_)
    have hzd : wq.drew.heap.size ≤ wq.heap.size ∧ wq.heap.size ≤ wq.drew.heap.size := ⟨Nat.le_refl _, Nat.le_refl _⟩
    have KBy := Lib.hid KB.out.drew
    have LLy := Lib.hid (show Lay wq.drew g B (.slice (some ⟨b, off, none⟩) l.length c) v u S U from ⟨LL.out.box, LL.out.ov, LL.out.ou, LL.out.low⟩)
    clear u1 m0 m1 m2 m3 mf
    generalize wq.drew = wy at *
    refine wpTill_take (i := 0) (oi := _) (v := .pointer (some ⟨g, 0, none⟩)) rfl (by kernel_rfl) (by kernel_rfl) (by kernel_rfl) (by kernel_rfl) (fun _ _ _ h => h) (Or.inl ⟨by rfl, ?_⟩) hH0 ?_
    · intro wv hSw
      try dsimp only at hSw
      go_simp
    change wpTill _ _ _ _ _ _ _ _ (Act.put _ (some 48) (.pointer (some ⟨g, 0, none⟩))) _
    simp only [Act.put, List.setIfInBounds_toArray, List.set_cons_zero, List.set_cons_succ]
    refine wpTill_take (i := 1) (oi := _) (v := .pointer (some ⟨g, 0, none⟩)) rfl (by kernel_rfl) (by kernel_rfl) (by kernel_rfl) (by kernel_rfl) (fun _ _ _ h => h) (Or.inl ⟨by rfl, ?_⟩) hH0 ?_
    · intro wv hSw
      try dsimp only at hSw
      go_simp
    change wpTill _ _ _ _ _ _ _ _ (Act.put _ (some 49) (.pointer (some ⟨g, 0, none⟩))) _
    simp only [Act.put, List.setIfInBounds_toArray, List.set_cons_zero, List.set_cons_succ]
    refine wpTill_take (i := 2) (oi := _) (v := .pointer (some ⟨g, 0, none⟩)) rfl (by kernel_rfl) (by kernel_rfl) (by kernel_rfl) (by kernel_rfl) (fun _ _ _ h => h) (Or.inl ⟨by rfl, ?_⟩) hH0 ?_
    · intro wv hSw
      try dsimp only at hSw
      go_simp
    change wpTill _ _ _ _ _ _ _ _ (Act.put _ (some 50) (.pointer (some ⟨g, 0, none⟩))) _
    simp only [Act.put, List.setIfInBounds_toArray, List.set_cons_zero, List.set_cons_succ]
    refine wpTill_take (i := 3) (oi := _) (v := .pointer (some ⟨g, 2, none⟩)) rfl (by kernel_rfl) (by kernel_rfl) (by kernel_rfl) (by kernel_rfl) (fun _ _ _ h => h) (Or.inl ⟨by rfl, ?_⟩) hH0 ?_
    · intro wv hSw
      try dsimp only at hSw
      go_simp
    change wpTill _ _ _ _ _ _ _ _ (Act.put _ (some 51) (.pointer (some ⟨g, 2, none⟩))) _
    simp only [Act.put, List.setIfInBounds_toArray, List.set_cons_zero, List.set_cons_succ]
    refine wpTill_take (i := 4) (oi := _) (v := u) rfl (by kernel_rfl) (by kernel_rfl) (by kernel_rfl) (by kernel_rfl) (fun _ _ _ h => h) (Or.inl ⟨by rfl, ?_⟩) hH0 ?_
    · intro wv hSw
      try dsimp only at hSw
      go_simp
    change wpTill _ _ _ _ _ _ _ _ (Act.put _ (some 52) (u)) _
    simp only [Act.put, List.setIfInBounds_toArray, List.set_cons_zero, List.set_cons_succ]
    refine wpTill_take (i := 5) (oi := _) (v := .agg #[.int .i64 mX, .int .i64 mY, .int .i64 mW, .int .i64 mH]) rfl (by kernel_rfl) (by kernel_rfl) (by kernel_rfl) (by kernel_rfl) (fun _ _ _ h => h) (Or.inl ⟨by rfl, ?_⟩) hH0 ?_
    · intro wv hSw
      try dsimp only at hSw
      go_simp
    change wpTill _ _ _ _ _ _ _ _ (Act.put _ (some 53) (.agg #[.int .i64 mX, .int .i64 mY, .int .i64 mW, .int .i64 mH])) _
    simp only [Act.put, List.setIfInBounds_toArray, List.set_cons_zero, List.set_cons_succ]
    refine wpTill_one (i := 6) (o := _) (by kernel_rfl) rfl (fun K hK => ?_)
    go_simp
    have gz := below_new wy (.cells #[.int .i64 mX, .int .i64 mY, .int .i64 mW, .int .i64 mH] 48)
    have own3 := own_one wy 48 4 [.int .i64 mX, .int .i64 mY, .int .i64 mW, .int .i64 mH] rfl
    have gs : wy.heap.size ≤ (wy.alloc (.cells #[.int .i64 mX, .int .i64 mY, .int .i64 mW, .int .i64 mH] 48)).heap.size := gz.size
    refine hK.out _ _ (fun _ => by exact ⟨(gz.cell (p := ⟨_, _, none⟩) (by simp; omega)).trans hH0.1, (gz.cell (p := ⟨_, _, none⟩) (by simp; omega)).trans hH0.2.1, (gz.cell (p := ⟨_, _, none⟩) (by simp; omega)).trans hH0.2.2.1, (gz.cell (p := ⟨_, _, none⟩) (by simp; omega)).trans hH0.2.2.2.1, (gz.cell (p := ⟨_, _, none⟩) (by simp; omega)).trans hH0.2.2.2.2⟩) (fun hH1 => ?_)
    replace hH1 := hH1 (by decide)
    clear hK K
    try simp only [Act.put, List.setIfInBounds_toArray, List.set_cons_zero, List.set_cons_succ]
    generalize (wy.alloc (.cells #[.int .i64 mX, .int .i64 mY, .int .i64 mW, .int .i64 mH] 48)) = wx at *
    refine wpTill_one (i := 7) (o := _) (by kernel_rfl) rfl (fun K hK => ?_)
    refine step_appX _ (by rfl) (.tmp 52) (.tmp 54) 44 (by rfl) rowR B U.length 1 1 u ⟨wy.heap.size, 0, none⟩ (ER.flat U) [.int .i64 mX, .int .i64 mY, .int .i64 mW, .int .i64 mH] (by rfl) (by rfl) (by exact own_below LLy.out.ou gz (Nat.le_refl _)) (by exact (SV.src (E := ER) (l := [⟨mX, mY, mW, mH⟩]) (SV.of_own own3 (by decide))).1) rfl (ER.flat_all [⟨mX, mY, mW, mH⟩]) (by omega) (by omega) ?_
    rintro va wa ax
    have LV := lay_u (s := ⟨mX, mY, mW, mH⟩) LLy.out gz (by omega) ax
    have ult := fun k hk => (LLy.out.ou.lt k hk)
    have hbx : Held wa g 79 #[.slice (some ⟨b, off, none⟩) l.length c, v, u] := (ax.block g (by omega) (fun e => by have := (ult g e.symm).1; omega)).trans ((LLy.out.behind gz).box)
    have vfa : wa.frozen? ⟨g, 2, none⟩ = false := hbx.frozen 2
    have vca : wa.cell? ⟨g, 2, none⟩ = some u := hbx.cell 2
    have hneu : ∀ k, w.heap.size ≤ k → some k ≠ u.ownBlock := fun k hk e => by have := (HU.out k e.symm).2; omega
    have cf : ∀ k o, w.heap.size ≤ k → k < wx.heap.size → wa.cell? ⟨k, o, none⟩ = wx.cell? ⟨k, o, none⟩ := fun k o hk hk2 => cell_of_block (ax.block k hk2 (hneu k hk)) o
    refine hK.out _ _ (fun _ => by exact ⟨vca, (cf _ _ (by omega) (by omega)).trans hH1.2.1, (cf _ _ (by omega) (by omega)).trans hH1.2.2.1, (cf _ _ (by omega) (by omega)).trans hH1.2.2.2.1, (cf _ _ (by omega) (by omega)).trans hH1.2.2.2.2⟩) (fun hH2 => ?_)
    replace hH2 := hH2 (by decide)
    clear hK K
    try simp only [Act.put, List.setIfInBounds_toArray, List.set_cons_zero, List.set_cons_succ]
    refine wpTill_one (i := 8) (o := _) (by kernel_rfl) rfl (fun K hK => ?_)
    go_simp
    refine hK.out _ _ (fun _ => by exact hH2) (fun hH3 => ?_)
    replace hH3 := hH3 (by decide)
    clear hK K
    try simp only [Act.put, List.setIfInBounds_toArray, List.set_cons_zero, List.set_cons_succ]
    refine wpTill_one (i := 9) (o := _) (by kernel_rfl) rfl (fun K hK => ?_)
    go_simp
    refine hK.out _ _ (fun _ => by exact hH3) (fun hH4 => ?_)
    replace hH4 := hH4 (by decide)
    clear hK K
    try simp only [Act.put, List.setIfInBounds_toArray, List.set_cons_zero, List.set_cons_succ]
    refine wpTill_one (i := 10) (o := _) (by kernel_rfl) rfl (fun K hK => ?_)
    obtain ⟨vD, vn, vc, rfl⟩ : ∃ D n c, va = .slice D n c := by obtain ⟨D, c, e, _⟩ := SV.of_own (E := ER) (l := U ++ [⟨mX, mY, mW, mH⟩]) (n := U.length + 1) (by rw [ER.flat_app]; exact ax.own) (by decide); exact ⟨D, _, c, e⟩
    have LVH := Lib.hid LV
    have hxs := gs
    clear LV ax
    go_simp
    refine hK.out _ _ (fun h => absurd rfl h) (fun hH5 => ?_)
    clear hK K
    try simp only [Act.put, List.setIfInBounds_toArray, List.set_cons_zero, List.set_cons_succ]
    refine wpTill_done (by kernel_rfl) ?_ _
    clear hH0 hH1 hH2 hH3 hH4 hH5
    have F := LVH.out
    have hF := F.2
    have hu' := hF.lu
    have hne : ∀ k, w.heap.size ≤ k → k < wy.heap.size → v.ownBlock ≠ some k ∧ (Value.slice vD vn vc).ownBlock ≠ some k := by
      intro k hk hk2
      refine ⟨fun e => ?_, fun e => ?_⟩
      · have := (HV.out k e).2; omega
      · rcases hu' k e with e2 | e2
        · have := (HU.out k e2).2; omega
        · omega
    have gne : g ≠ w.heap.size + 1 ∧ g ≠ w2.heap.size ∧ g ≠ w2.heap.size + 1 + 1 := ⟨by omega, by omega, by omega⟩
    have hneU : ∀ k, w.heap.size ≤ k → u.ownBlock ≠ some k := fun k hk e => by have := (HU.out k e).2; omega
    have hNw := hF.held F1.out.1 (by omega) (hne _ (by omega) (by omega)).1 (hneU _ (by omega))
    have hAw := hF.held F1.out.2.1 (by omega) (hne _ (by omega) (by omega)).1 (hneU _ (by omega))
    have hBw := hF.held F1.out.2.2 (by omega) (hne _ (by omega) (by omega)).1 (hneU _ (by omega))
    have hFs := hF.below.size
    obtain ⟨n0, n1, n2, n3, n4⟩ := NB.cells (n := ⟨0, d, f, (i : Int) + 1, (i : Int) + 1 + sx⟩) hNw
    obtain ⟨a0, a1, a2, a3, af⟩ := RB.cells (r := ⟨aX, aY, aW, aH⟩) hAw
    dsimp only at n0 n1 n2 n3 n4 a0 a1 a2 a3
    have HX1 := Lib.hid (HX.out v (.slice vD vn vc) S (U ++ [⟨mX, mY, mW, mH⟩]) _ ((KBy.out.mono (by omega)).trans hF.below) F.1 (by omega) (by omega) (by simp; omega))
    have HF1 := Lib.hid hF
    have KBz := Lib.hid KBy.out
    clear F hF hu'
    generalize (wa.setCell ⟨g, 2, none⟩ (.slice vD vn vc)) = wz at *
    go_wp2_with fail
    refine HX1.out.mono ?_
    rintro z w4 ⟨v1, u1, rfl, L4, F4⟩
    have hN4 := F4.held hNw (by omega) (hne _ (by omega) (by omega)).1 (hne _ (by omega) (by omega)).2
    have hB4 := F4.held hBw (by omega) (hne _ (by omega) (by omega)).1 (hne _ (by omega) (by omega)).2
    clear n0 n1 n2 n3 n4 a0 a1 a2 a3 af
    obtain ⟨n0, n1, n2, n3, n4⟩ := NB.cells (n := ⟨0, d, f, (i : Int) + 1, (i : Int) + 1 + sx⟩) hN4
    obtain ⟨a0, a1, a2, a3, af⟩ := RB.cells (r := ⟨bX, bY, bW, bH⟩) hB4
    dsimp only at n0 n1 n2 n3 n4 a0 a1 a2 a3
    have hF4s := F4.below.size
    have HY1 := Lib.hid (HY.out v1 u1 (S ++ xs) (U ++ [⟨mX, mY, mW, mH⟩] ++ xb) w4 ((KBz.out.mono (by omega)).trans (HF1.out.below.trans F4.below)) L4 (by omega) (by simp; omega) (by simp; omega))
    have HF4 := Lib.hid F4
    clear F4 L4 hN4 hB4 hNw hBw hAw
    go_wp2_with fail
    refine HY1.out.mono ?_
    rintro z w5 ⟨v2, u2, rfl, L5, F5⟩
    have HR := Lib.hid (And.intro L5 F5)
    clear L5 F5
    go_wp2_with fail
    go_ret
    exact ⟨v2, u2, rfl, HR.out.1, (LF.of KBz.out (by omega)).trans (HF1.out.trans (HF4.out.trans HR.out.2))⟩
end Go.Proofs.Ytojgmofpgefonaa
