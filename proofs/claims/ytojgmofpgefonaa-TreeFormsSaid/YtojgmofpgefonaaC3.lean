/-
  What number of tree makes of a row of nodes in the call's own memory. Conditions: rows of at most a thousand nodes.
-/
import Derived.Test.YtojgmofpgefonaaPlain3
namespace Go.Proofs.Ytojgmofpgefonaa
open Go.RowKit
set_option linter.unusedSimpArgs false
set_option maxRecDepth 100000

/-- All but block g is as it was. -/
structure Chg (g : Nat) (w w' : World) : Prop where
  below : ∀ {B : Nat} {w0 : World}, B ≤ g → Below B w0 w → Below B w0 w'
  block : ∀ b, b < w.heap.size → b ≠ g → w'.heap[b]? = w.heap[b]?
  size : w.heap.size ≤ w'.heap.size
theorem Chg.refl (g : Nat) (w : World) : Chg g w w := ⟨fun _ h => h, fun _ _ _ => rfl, Nat.le_refl _⟩
theorem Chg.of {g : Nat} {w w' : World} (h : Below w.heap.size w w') (hg : g < w.heap.size) : Chg g w w' :=
  ⟨fun hB h0 => h0.trans (h.mono (by omega)), fun b hb _ => h.block b hb, h.size⟩
theorem Chg.set {g : Nat} {w w' : World} (h : Chg g w w') (o : Nat) (x : Value) : Chg g w (w'.setCell ⟨g, o, none⟩ x) :=
  ⟨fun hB h0 => (h.below hB h0).setCell (p := ⟨g, o, none⟩) hB _, fun b hb hn => (Below.heap_setCell w' ⟨g, o, none⟩ x b hn).trans (h.block b hb hn), by simpa using h.size⟩
theorem Chg.trans {g : Nat} {w w1 w2 : World} (h : Chg g w w1) (h' : Chg g w1 w2) : Chg g w w2 :=
  ⟨fun hB h0 => h'.below hB (h.below hB h0), fun b hb hn => (h'.block b (Nat.lt_of_lt_of_le hb h.size) hn).trans (h.block b hb hn), Nat.le_trans h.size h'.size⟩
theorem Chg.held {g k : Nat} {w w' : World} (h : Chg g w w') {t : TypeId} {cs : Array Value} (hb : Held w k t cs) (hk : k ≠ g) : Held w' k t cs := (h.block k hb.lt hk).trans hb

/-- Block g holds the nodes l, and what lies behind them. -/
def Row (w : World) (g : Nat) (l : List N) : Prop := ∃ rest : List Value, Held w g 23 (EN.flat l ++ rest).toArray
theorem Row.lt {w : World} {g : Nat} {l : List N} (h : Row w g l) : g < w.heap.size := by
  obtain ⟨rest, h⟩ := h
  exact h.lt
theorem Row.cell {w : World} {g : Nat} {l : List N} (h : Row w g l) (k : Nat) (n : N) (hk : l[k]? = some n) :
    w.cell? ⟨g, k * 5, none⟩ = some (.int .i64 n.p) ∧ w.cell? ⟨g, k * 5 + 1, none⟩ = some (.int .i64 n.d) ∧ w.cell? ⟨g, k * 5 + 2, none⟩ = some (.int .i64 n.f) ∧ w.cell? ⟨g, k * 5 + 3, none⟩ = some (.int .i64 n.a) ∧ w.cell? ⟨g, k * 5 + 4, none⟩ = some (.int .i64 n.b) ∧ ∀ o, w.frozen? ⟨g, o, none⟩ = false := by
  obtain ⟨rest, h⟩ := h
  obtain ⟨hl, rfl⟩ := List.getElem?_eq_some_iff.1 hk
  have go : ∀ j u, j < 5 → (ncs l[k])[j]? = some u → w.cell? ⟨g, k * 5 + j, none⟩ = some u := by
    intro j u hj hu
    rw [h.cell, List.getElem?_toArray, List.getElem?_append_left (by rw [EN.flat_len]; show k * 5 + j < l.length * 5; omega)]
    exact (EN.flat_at l k j hl hj).trans hu
  exact ⟨go 0 _ (by omega) rfl, go 1 _ (by omega) rfl, go 2 _ (by omega) rfl, go 3 _ (by omega) rfl, go 4 _ (by omega) rfl, fun o => h.frozen o⟩
theorem ncs_set (n : N) (x : Int) : (ncs n).set 0 (.int .i64 x) = ncs { n with p := x } ∧ (ncs n).set 2 (.int .i64 x) = ncs { n with f := x } ∧ (ncs n).set 3 (.int .i64 x) = ncs { n with a := x } ∧ (ncs n).set 4 (.int .i64 x) = ncs { n with b := x } := ⟨rfl, rfl, rfl, rfl⟩
theorem flat_set (l : List N) (k j : Nat) (n : N) (u : Value) (hk : k < l.length) (hj : j < 5) (h : (ncs l[k]).set j u = ncs n) : (EN.flat l).set (k * 5 + j) u = EN.flat (l.set k n) := by
  induction l generalizing k with
  | nil => simp at hk
  | cons a l ih =>
    have e0 : ∀ (b : N) (m : List N), EN.flat (b :: m) = ncs b ++ EN.flat m := fun b m => by simp [Enc.flat, EN]
    rw [e0]
    cases k with
    | zero =>
      rw [List.set_append_left _ _ (by show 0 * 5 + j < (ncs a).length; simp [ncs]; omega), List.set_cons_zero, e0]
      congr 1
      simpa using h
    | succ k =>
      rw [List.set_append_right _ _ (by show (ncs a).length ≤ (k + 1) * 5 + j; simp [ncs]; omega), List.set_cons_succ, e0]
      congr 1
      have : (k + 1) * 5 + j - (ncs a).length = k * 5 + j := by simp [ncs]; omega
      rw [this]
      exact ih k (by simpa using hk) h
theorem Row.set {w : World} {g : Nat} {l : List N} (h : Row w g l) (k j : Nat) (m n : N) (u : Value) (hk : l[k]? = some m) (hj : j < 5) (hu : (ncs m).set j u = ncs n) : Row (w.setCell ⟨g, k * 5 + j, none⟩ u) g (l.set k n) := by
  obtain ⟨rest, h⟩ := h
  obtain ⟨hl, rfl⟩ := List.getElem?_eq_some_iff.1 hk
  refine ⟨rest, ?_⟩
  have := h.set1 (k * 5 + j) u
  rw [List.setIfInBounds_toArray, List.set_append_left _ _ (by rw [EN.flat_len]; show k * 5 + j < l.length * 5; omega), flat_set l k j n u hl hj hu] at this
  exact this
theorem Row.tab {w : World} {g : Nat} {l : List N} (h : Row w g l) {B : Nat} (hB : B ≤ g) : TabAt B w (some ⟨g, 0, none⟩) (EN.flat l) := by
  obtain ⟨rest, h⟩ := h
  intro k hk
  refine ⟨g, 0, rfl, hB, h.lt, h.free, ?_⟩
  rw [Nat.zero_add, h.cell k, List.getElem?_toArray, List.getElem?_append_left hk, List.getElem?_eq_getElem hk]
theorem Row.own {w : World} {B g c : Nat} {l : List N} {n : Nat} (h : w.ownsRow B 23 5 (.slice (some ⟨g, 0, none⟩) n c) n (EN.flat l)) : Row w g l ∧ B ≤ g := by
  rcases h.2 with ⟨h1, _⟩ | ⟨g', cap, cur, e, hg, hh, h1, h2, h3, h4⟩
  · cases h1
  · simp only [Value.slice.injEq, Option.some.injEq, Addr.mk.injEq, and_true] at e
    obtain ⟨rfl, _, rfl⟩ := e
    refine ⟨⟨cur.toList.drop (n * 5), ?_⟩, hg⟩
    rw [← h4, List.take_append_drop]
    simpa [Held] using hh

/-- The nodes from i on are those of a tree, but for the numbers of parts. -/
def T.Sh (l : List N) : Nat → T → Prop
  | i, .leaf p => l[i]? = some (leafN p)
  | i, .fork d f x y => (∃ a b, l[i]? = some ⟨0, d, f, a, b⟩) ∧ T.Sh l (i + 1) x ∧ T.Sh l (i + 1 + x.size) y
theorem T.Sh.lt {t : T} {l : List N} {i : Nat} (h : T.Sh l i t) : i + t.size ≤ l.length := by
  induction t generalizing i with
  | leaf p =>
    have := (List.getElem?_eq_some_iff.1 h).1
    simp [T.size]; omega
  | fork d f x y hx hy => have := hy h.2.2; simp [T.size]; omega
theorem T.Sh.eq {t : T} {l m : List N} {i : Nat} (h : T.Sh l i t) (he : ∀ k, i ≤ k → k < i + t.size → m[k]? = l[k]?) : T.Sh m i t := by
  induction t generalizing i with
  | leaf p => exact (he i (Nat.le_refl _) (by simp [T.size])).trans h
  | fork d f x y hx hy =>
    obtain ⟨⟨a, b, h1⟩, h2, h3⟩ := h
    simp only [T.size] at he
    exact ⟨⟨a, b, (he i (Nat.le_refl _) (by omega)).trans h1⟩, hx h2 (fun k k1 k2 => he k (by omega) (by omega)), hy h3 (fun k k1 k2 => he k (by omega) (by omega))⟩
/-- l with the nodes of t from i on. -/
def T.lay (l : List N) (i : Nat) (t : T) : List N := l.take i ++ t.flat i ++ l.drop (i + t.size)
theorem T.lay_len {l : List N} {i : Nat} {t : T} (h : i + t.size ≤ l.length) : (t.lay l i).length = l.length := by
  unfold T.lay
  simp only [List.length_append, List.length_take, List.length_drop, T.flat_len]
  omega
theorem T.lay_out {l : List N} {i : Nat} {t : T} (h : i + t.size ≤ l.length) (k : Nat) (hk : k < i ∨ i + t.size ≤ k) : (t.lay l i)[k]? = l[k]? := by
  have h1 : (l.take i).length = i := by rw [List.length_take]; omega
  unfold T.lay
  rcases hk with hk | hk
  · rw [List.append_assoc, List.getElem?_append_left (by omega), List.getElem?_take_of_lt hk]
  · rw [List.getElem?_append_right (by rw [List.length_append, h1, T.flat_len]; exact hk), List.length_append, h1, T.flat_len, List.getElem?_drop]
    congr 1
    omega
theorem T.lay_in {l : List N} {i : Nat} {t : T} (h : i + t.size ≤ l.length) (k : Nat) (hk : k < t.size) : (t.lay l i)[i + k]? = (t.flat i)[k]? := by
  have h1 : (l.take i).length = i := by rw [List.length_take]; omega
  unfold T.lay
  rw [List.append_assoc, List.getElem?_append_right (by omega), h1, List.getElem?_append_left (by rw [T.flat_len]; omega)]
  congr 1
  omega
theorem T.lay_fork {l : List N} {i : Nat} {d f : Int} {x y : T} (h : i + 1 + x.size + y.size ≤ l.length) (n : N) (hn : n = T.forkN d f i x) : y.lay (x.lay (l.set i n) (i + 1)) (i + 1 + x.size) = (T.fork d f x y).lay l i := by
  apply List.ext_getElem?
  intro k
  have l1 : (l.set i n).length = l.length := List.length_set ..
  have l2 : (x.lay (l.set i n) (i + 1)).length = l.length := by rw [T.lay_len (by omega), l1]
  have sz : (T.fork d f x y).size = x.size + y.size + 1 := rfl
  by_cases h1 : k < i ∨ i + 1 + x.size + y.size ≤ k
  · rw [T.lay_out (by omega) k (by omega), T.lay_out (by omega) k (by omega), T.lay_out (by omega) k (by omega), List.getElem?_set_ne (by omega)]
  · obtain ⟨j, rfl⟩ : ∃ j, k = i + j := ⟨k - i, by omega⟩
    rw [T.lay_in (t := T.fork d f x y) (l := l) (i := i) (by omega) j (by omega)]
    cases j with
    | zero =>
      rw [T.lay_out (t := y) (by omega) _ (by omega), T.lay_out (t := x) (by omega) _ (by omega), Nat.add_zero, List.getElem?_set_self (by omega)]
      simp [T.flat, hn]
    | succ j =>
      simp only [T.flat, List.getElem?_cons_succ]
      by_cases hj : j < x.size
      · rw [T.lay_out (t := y) (by omega) _ (by omega), show i + (j + 1) = i + 1 + j by omega, T.lay_in (t := x) (by omega) j hj, List.getElem?_append_left (by rw [T.flat_len]; exact hj)]
      · obtain ⟨q, rfl⟩ : ∃ q, j = x.size + q := ⟨j - x.size, by omega⟩
        rw [show i + (x.size + q + 1) = i + 1 + x.size + q by omega, T.lay_in (t := y) (by omega) q (by omega), List.getElem?_append_right (by rw [T.flat_len]; omega), T.flat_len]
        congr 1
        omega

theorem T.lay_set {l : List N} {i j : Nat} {t : T} {n : N} (h : j + t.size ≤ l.length) (hij : i < j) : (t.lay l j).set i n = t.lay (l.set i n) j := by
  have l1 : (l.set i n).length = l.length := List.length_set ..
  apply List.ext_getElem?
  intro k
  by_cases hk : k = i
  · subst hk
    rw [List.getElem?_set_self (by rw [T.lay_len h]; omega), T.lay_out (by omega) k (by omega), List.getElem?_set_self (by omega)]
  · rw [List.getElem?_set_ne (by omega)]
    by_cases h1 : k < j ∨ j + t.size ≤ k
    · rw [T.lay_out h k h1, T.lay_out (by omega) k h1, List.getElem?_set_ne (by omega)]
    · obtain ⟨q, rfl⟩ : ∃ q, k = j + q := ⟨k - j, by omega⟩
      rw [T.lay_in h q (by omega), T.lay_in (by omega) q (by omega)]

def NumP (w : World) (g : Nat) (l : List N) (v : Value) (e : Ending) (w' : World) : Prop := e = .returned v ∧ Row w' g l ∧ Chg g w w'
set_option maxHeartbeats 2000000 in
theorem number_any (t : T) : ∀ (l : List N) (c i g : Nat) (w : World), Row w g l → T.Sh l i t → t.ok → l.length ≤ 1000 →
    Calls Try.prog 42 #[.slice (some ⟨g, 0, none⟩) l.length c, .int .i64 i] w (NumP w g (t.lay l i) (.int .i64 ((i + t.size : Nat) : Int))) := by
  induction t with
  | leaf p =>
    intro l c i g w h hi ho hl
    have hlt := hi.lt
    simp only [T.size] at hlt
    have hi' : (i : Int) < (l.length : Int) := by omega
    have hn : l[i]? = some (leafN p) := hi
    obtain ⟨c0, _⟩ := h.cell i _ hn
    have ho' : 0 < p := ho
    dsimp only [leafN] at c0
    go_enter Try.func42, Try.ntmps42
    go_wp2_with fail
    go_ret
    refine ⟨ret_i (by simp [T.size]), ?_, Chg.refl _ _⟩
    have e : (T.leaf p).lay l i = l := by
      apply List.ext_getElem?
      intro k
      by_cases hk : k = i
      · subst hk
        have := T.lay_in (t := T.leaf p) (l := l) (i := k) (by simp [T.size]; omega) 0 (by simp [T.size])
        rw [Nat.add_zero] at this
        rw [this, hn]
        rfl
      · exact T.lay_out (by simp [T.size]; omega) k (by simp [T.size]; omega)
    rw [e]
    exact h
  | fork d f x y hx hy =>
    intro l c i g w h hi ho hl
    have hlt := hi.lt
    have sz : (T.fork d f x y).size = x.size + y.size + 1 := rfl
    rw [sz] at hlt
    have hi' : (i : Int) < (l.length : Int) := by omega
    obtain ⟨⟨a0, b0, hn⟩, hsx, hsy⟩ := hi
    obtain ⟨c0, c1, c2, c3, c4, cf⟩ := h.cell i _ hn
    dsimp only at c0 c1 c2 c3 c4
    have r1 := h.set i 3 _ ⟨0, d, f, ((i + 1 : Nat) : Int), b0⟩ (.int .i64 ((i + 1 : Nat) : Int)) hn (by omega) rfl
    have l1 : (l.set i ⟨0, d, f, ((i + 1 : Nat) : Int), b0⟩).length = l.length := List.length_set ..
    have g1 : Chg g w (w.setCell ⟨g, i * 5 + 3, none⟩ (.int .i64 ((i + 1 : Nat) : Int))) := (Chg.refl g w).set _ _
    have HX := Lib.hid (hx (l.set i ⟨0, d, f, ((i + 1 : Nat) : Int), b0⟩) c (i + 1) g _ r1 (hsx.eq fun k k1 k2 => List.getElem?_set_ne (by omega)) ho.2.2.2.1 (by omega))
    rw [l1] at HX
    have e1 : ((i + 1 : Nat) : Int) = (i : Int) + 1 := by omega
    have HE := Lib.hid e1
    have HR1 := Lib.hid r1
    have HG1 := Lib.hid g1
    have HSY := Lib.hid hsy
    have HO := Lib.hid ho
    have d3 := (r1.cell i _ (List.getElem?_set_self (by omega))).2.2.2.1
    dsimp only at d3
    rw [e1] at HX HR1 HG1 d3
    have HHy := Lib.hid hy
    clear r1 g1 hx hy ho hsx hsy h
    go_enter Try.func42, Try.ntmps42
    go_wp2_with fail
    refine HX.out.mono ?_
    rintro z w2 ⟨rfl, r2, g2⟩
    have e1' : ((i + 1 : Nat) : Int) = (i : Int) + 1 := HE.out
    have sx : i + 1 + x.size ≤ (l.set i ⟨0, d, f, (i : Int) + 1, b0⟩).length := by rw [List.length_set]; omega
    have lx : (x.lay (l.set i ⟨0, d, f, (i : Int) + 1, b0⟩) (i + 1)).length = l.length := by rw [T.lay_len sx, List.length_set]
    have nx : (x.lay (l.set i ⟨0, d, f, (i : Int) + 1, b0⟩) (i + 1))[i]? = some ⟨0, d, f, (i : Int) + 1, b0⟩ := by
      rw [T.lay_out sx i (by omega), List.getElem?_set_self (by omega)]
    have q := r2.cell i _ nx
    have r3 := r2.set i 4 _ (T.forkN d f i x) (.int .i64 ((i + 1 + x.size : Nat) : Int)) nx (by omega) (by simp [ncs, T.forkN])
    rw [T.lay_set (by rw [List.length_set]; omega) (by omega), List.set_set] at r3
    have g3 := g2.set (i * 5 + 4) (.int .i64 ((i + 1 + x.size : Nat) : Int))
    have l3 : (x.lay (l.set i (T.forkN d f i x)) (i + 1)).length = l.length := by rw [T.lay_len (by rw [List.length_set]; omega), List.length_set]
    have n3 : (x.lay (l.set i (T.forkN d f i x)) (i + 1))[i]? = some (T.forkN d f i x) := by
      rw [T.lay_out (by rw [List.length_set]; omega) i (by omega), List.getElem?_set_self (by omega)]
    have d4 := (r3.cell i _ n3).2.2.2.2.1
    dsimp only [T.forkN] at d4
    have HY := Lib.hid (HHy.out _ c (i + 1 + x.size) g _ r3 (HSY.out.eq fun k k1 k2 => by
      rw [T.lay_out (by rw [List.length_set]; omega) k (by omega), List.getElem?_set_ne (by omega)]) HO.out.2.2.2.2 (by omega))
    rw [l3, T.lay_fork (by omega) _ rfl] at HY
    obtain ⟨q0, q1, q2, q3, q4, qf⟩ := q
    dsimp only at q0 q1 q2 q3 q4
    have G3 := Lib.hid g3
    have e4 : ((i + 1 + x.size : Nat) : Int) = (i : Int) + 1 + x.size := by omega
    rw [e4] at HY G3 d4
    clear r2 g2 r3 g3 nx n3 sx lx l3 d3 c0 c1 c2 c3 c4 cf
    have he : ((i + 1 + x.size + y.size : Nat) : Int) = ((i + (T.fork d f x y).size : Nat) : Int) := by rw [sz]; omega
    rw [he] at HY
    have HG1' := HG1
    clear HG1 he
    generalize (T.fork d f x y).lay l i = LL at *
    generalize ((i + (T.fork d f x y).size : Nat) : Int) = vv at *
    clear e1' sz
    go_wp2_with fail
    refine HY.out.mono ?_
    rintro z w3 ⟨rfl, r4, g4⟩
    have R4 := Lib.hid r4
    clear r4
    go_wp2_with fail
    go_ret
    exact ⟨rfl, R4.out, HG1'.out.trans (G3.out.trans g4)⟩
end Go.Proofs.Ytojgmofpgefonaa
