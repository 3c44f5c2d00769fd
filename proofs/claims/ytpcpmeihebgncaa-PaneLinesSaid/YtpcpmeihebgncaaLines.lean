/-
  How rows of cells, and lines of such rows, lie in memory: at or above a block, none of it frozen; what of it stays when the world goes on. Nothing of the program is walked here. No condition.
-/
import Derived.Test.YtpcpmeihebgncaaBlank
namespace Go.Proofs.Ytpcpmeihebgncaa
open Go.RowKit
set_option maxRecDepth 100000

/-- Nothing in block b is frozen. -/
def Free (w : World) (b : Nat) : Prop := ∀ o, w.frozen? ⟨b, o, none⟩ = false
theorem Free.below {w w' : World} {b C : Nat} (h : Free w b) (hb : Below C w w') (hC : b < C) : Free w' b := fun o => (hb.frozen (p := ⟨b, o, none⟩) hC).trans (h o)
theorem Held.free {w : World} {g : Nat} {t : TypeId} {cs : Array Value} (h : Held w g t cs) : Free w g := fun o => h.frozen o

/-- A slice that begins at D reads as the cells l. -/
def RowAt (B : Nat) (w : World) (D : Option Addr) (l : List C) : Prop :=
  ∀ k (hk : k < l.length), ∃ b off : Nat, D = some ⟨b, off, none⟩ ∧ B ≤ b ∧ b < w.heap.size ∧ Free w b ∧ w.cell? ⟨b, off + k * 2, none⟩ = some (.int .i32 l[k].r) ∧ w.cell? ⟨b, off + k * 2 + 1, none⟩ = some (.int .i64 l[k].a)
theorem RowAt.nil (B : Nat) (w : World) (D : Option Addr) : RowAt B w D [] := fun k hk => by simp at hk
theorem RowAt.read {B : Nat} {w : World} {D : Option Addr} {l : List C} (h : RowAt B w D l) : ReadC w D l := fun k hk => by
  obtain ⟨b, off, e, _, h1, _, h2, h3⟩ := h k hk
  exact ⟨b, off, e, h1, h2, h3⟩
theorem RowAt.below {B C : Nat} {w w' : World} {D : Option Addr} {l : List Ytpcpmeihebgncaa.C} (h : RowAt B w D l) (hb : Below C w w') (hC : w.heap.size ≤ C) : RowAt B w' D l := fun k hk => by
  obtain ⟨b, off, e, h0, h1, hf, h2, h3⟩ := h k hk
  have hl := Nat.lt_of_lt_of_le h1 hC
  exact ⟨b, off, e, h0, Nat.lt_of_lt_of_le h1 hb.size, hf.below hb hl, (hb.cell (p := ⟨b, off + k * 2, none⟩) hl).trans h2, (hb.cell (p := ⟨b, off + k * 2 + 1, none⟩) hl).trans h3⟩
theorem RowAt.weak {B A : Nat} {w : World} {D : Option Addr} {l : List C} (h : RowAt B w D l) (hA : A ≤ B) : RowAt A w D l := fun k hk => by
  obtain ⟨b, off, e, h0, r⟩ := h k hk
  exact ⟨b, off, e, Nat.le_trans hA h0, r⟩
theorem Row.at {B : Nat} {w : World} {g : Nat} {l : List C} (h : Row w g l) (hg : B ≤ g) : RowAt B w (some ⟨g, 0, none⟩) l := fun k hk => by
  obtain ⟨h0, h1⟩ := h.cells k hk
  exact ⟨g, 0, rfl, hg, h.lt, Held.free h, by rw [Nat.zero_add]; exact h0, by rw [Nat.zero_add]; exact h1⟩

/-- The slice value v reads as the cells l. -/
def RowV (B : Nat) (w : World) (v : Value) (l : List C) : Prop := ∃ D c, v = .slice D l.length c ∧ l.length ≤ c ∧ RowAt B w D l
theorem RowV.below {B C : Nat} {w w' : World} {v : Value} {l : List Ytpcpmeihebgncaa.C} (h : RowV B w v l) (hb : Below C w w') (hC : w.heap.size ≤ C) : RowV B w' v l := by
  obtain ⟨D, c, e, h1, h2⟩ := h
  exact ⟨D, c, e, h1, h2.below hb hC⟩
theorem RowV.weak {B A : Nat} {w : World} {v : Value} {l : List C} (h : RowV B w v l) (hA : A ≤ B) : RowV A w v l := by
  obtain ⟨D, c, e, h1, h2⟩ := h
  exact ⟨D, c, e, h1, h2.weak hA⟩

/-- A slice that begins at D has the elements vs, each of one of memory's cells. -/
def TabAt (B : Nat) (w : World) (D : Option Addr) (vs : List Value) : Prop :=
  ∀ k (hk : k < vs.length), ∃ b off : Nat, D = some ⟨b, off, none⟩ ∧ B ≤ b ∧ b < w.heap.size ∧ Free w b ∧ w.cell? ⟨b, off + k, none⟩ = some vs[k]
theorem TabAt.nil (B : Nat) (w : World) (D : Option Addr) : TabAt B w D [] := fun k hk => by simp at hk
theorem TabAt.below {B C : Nat} {w w' : World} {D : Option Addr} {vs : List Value} (h : TabAt B w D vs) (hb : Below C w w') (hC : w.heap.size ≤ C) : TabAt B w' D vs := fun k hk => by
  obtain ⟨b, off, e, h0, h1, hf, h2⟩ := h k hk
  have hl := Nat.lt_of_lt_of_le h1 hC
  exact ⟨b, off, e, h0, Nat.lt_of_lt_of_le h1 hb.size, hf.below hb hl, (hb.cell (p := ⟨b, off + k, none⟩) hl).trans h2⟩
theorem TabAt.weak {B A : Nat} {w : World} {D : Option Addr} {vs : List Value} (h : TabAt B w D vs) (hA : A ≤ B) : TabAt A w D vs := fun k hk => by
  obtain ⟨b, off, e, h0, r⟩ := h k hk
  exact ⟨b, off, e, Nat.le_trans hA h0, r⟩
theorem TabAt.take {B : Nat} {w : World} {D : Option Addr} {vs : List Value} (h : TabAt B w D vs) (n : Nat) : TabAt B w D (vs.take n) := fun k hk => by
  have hk' : k < vs.length := by rw [List.length_take] at hk; omega
  obtain ⟨b, off, e, h0, h1, hf, h2⟩ := h k hk'
  exact ⟨b, off, e, h0, h1, hf, by rw [h2, List.getElem_take]⟩
/-- 'x[lo:]' and 'x[lo:hi]'. -/
theorem TabAt.cut {B : Nat} {w : World} {b off lo cap : Nat} {vs : List Value} (h : TabAt B w (some ⟨b, off, none⟩) vs) (hl : vs.length ≤ cap) :
    TabAt B w (if cap = lo then some ⟨b, off, none⟩ else some ⟨b, off + lo, none⟩) (vs.drop lo) := fun k hk => by
  have hk' : lo + k < vs.length := by rw [List.length_drop] at hk; omega
  obtain ⟨b', off', e, h0, h1, hf, h2⟩ := h (lo + k) hk'
  simp only [Option.some.injEq, Addr.mk.injEq, and_true] at e
  obtain ⟨rfl, rfl⟩ := e
  rw [if_neg (by omega)]
  exact ⟨b, off + lo, rfl, h0, h1, hf, by rw [Nat.add_assoc, h2, List.getElem_drop]⟩
theorem Held.tab {B : Nat} {w : World} {g : Nat} {t : TypeId} {vs : List Value} (h : Held w g t vs.toArray) (hg : B ≤ g) : TabAt B w (some ⟨g, 0, none⟩) vs := fun k hk =>
  ⟨g, 0, rfl, hg, h.lt, h.free, by rw [Nat.zero_add, h.cell k]; simp [hk]⟩

/-- The values vs read as the lines L, one by one. -/
def RowsV (B : Nat) (w : World) (vs : List Value) (L : List (List C)) : Prop := vs.length = L.length ∧ ∀ k (h : k < vs.length) (h' : k < L.length), RowV B w vs[k] L[k]
theorem RowsV.nil (B : Nat) (w : World) : RowsV B w [] [] := ⟨rfl, fun k h => by simp at h⟩
theorem RowsV.below {B C : Nat} {w w' : World} {vs : List Value} {L : List (List Ytpcpmeihebgncaa.C)} (h : RowsV B w vs L) (hb : Below C w w') (hC : w.heap.size ≤ C) : RowsV B w' vs L := ⟨h.1, fun k h1 h2 => (h.2 k h1 h2).below hb hC⟩
theorem RowsV.weak {B A : Nat} {w : World} {vs : List Value} {L : List (List C)} (h : RowsV B w vs L) (hA : A ≤ B) : RowsV A w vs L := ⟨h.1, fun k h1 h2 => (h.2 k h1 h2).weak hA⟩
theorem RowsV.take {B : Nat} {w : World} {vs : List Value} {L : List (List C)} (h : RowsV B w vs L) (n : Nat) : RowsV B w (vs.take n) (L.take n) := by
  refine ⟨by simp [h.1], fun k h1 h2 => ?_⟩
  rw [List.getElem_take, List.getElem_take]
  exact h.2 k _ _
theorem RowsV.drop {B : Nat} {w : World} {vs : List Value} {L : List (List C)} (h : RowsV B w vs L) (n : Nat) : RowsV B w (vs.drop n) (L.drop n) := by
  refine ⟨by simp [h.1], fun k h1 h2 => ?_⟩
  rw [List.getElem_drop, List.getElem_drop]
  exact h.2 _ _ _
theorem RowsV.append {B : Nat} {w : World} {vs us : List Value} {L M : List (List C)} (h : RowsV B w vs L) (h' : RowsV B w us M) : RowsV B w (vs ++ us) (L ++ M) := by
  refine ⟨by simp [h.1, h'.1], fun k h1 h2 => ?_⟩
  have e := h.1
  rw [List.getElem_append, List.getElem_append]
  by_cases hk : k < vs.length
  · rw [dif_pos hk, dif_pos (by omega)]
    exact h.2 _ _ _
  · rw [dif_neg hk, dif_neg (by omega)]
    have := h'.2 (k - vs.length) (by simp at h1; omega) (by simp at h2; omega)
    simp only [e] at this ⊢
    exact this
theorem RowsV.one {B : Nat} {w : World} {v : Value} {l : List C} (h : RowV B w v l) : RowsV B w [v] [l] := by
  refine ⟨rfl, fun k h1 _ => ?_⟩
  have : k = 0 := by simp at h1; omega
  subst this
  exact h

theorem RowsV.one_cell {B : Nat} {w : World} {vs : List Value} {L : List (List C)} (h : RowsV B w vs L) : ∀ y ∈ vs, y.oneCell' = true := by
  intro y hy
  obtain ⟨k, hk, rfl⟩ := List.getElem_of_mem hy
  obtain ⟨D, c, e, _⟩ := h.2 k hk (by rw [← h.1]; exact hk)
  rw [e]
  rfl
/-- A slice that begins at D reads as the lines L. -/
def Lines (B : Nat) (w : World) (D : Option Addr) (L : List (List C)) : Prop := ∃ vs, TabAt B w D vs ∧ RowsV B w vs L
theorem Lines.below {B C : Nat} {w w' : World} {D : Option Addr} {L : List (List Ytpcpmeihebgncaa.C)} (h : Lines B w D L) (hb : Below C w w') (hC : w.heap.size ≤ C) : Lines B w' D L := by
  obtain ⟨vs, h1, h2⟩ := h
  exact ⟨vs, h1.below hb hC, h2.below hb hC⟩
theorem Lines.weak {B A : Nat} {w : World} {D : Option Addr} {L : List (List C)} (h : Lines B w D L) (hA : A ≤ B) : Lines A w D L := by
  obtain ⟨vs, h1, h2⟩ := h
  exact ⟨vs, h1.weak hA, h2.weak hA⟩
theorem Lines.nil (B : Nat) (w : World) (D : Option Addr) : Lines B w D [] := ⟨[], TabAt.nil _ _ _, RowsV.nil _ _⟩
/-- Line k. -/
theorem Lines.at {B : Nat} {w : World} {D : Option Addr} {L : List (List C)} (h : Lines B w D L) (k : Nat) (hk : k < L.length) :
    ∃ (b off : Nat) (E : Option Addr) (c : Nat), D = some ⟨b, off, none⟩ ∧ B ≤ b ∧ b < w.heap.size ∧ Free w b ∧ w.cell? ⟨b, off + k, none⟩ = some (.slice E L[k].length c) ∧ L[k].length ≤ c ∧ RowAt B w E L[k] := by
  obtain ⟨vs, h1, h2⟩ := h
  have hv : k < vs.length := by rw [h2.1]; exact hk
  obtain ⟨b, off, e, h3, h4, h5, h6⟩ := h1 k hv
  obtain ⟨E, c, e', h7, h8⟩ := h2.2 k hv hk
  exact ⟨b, off, E, c, e, h3, h4, h5, by rw [h6, e'], h7, h8⟩

/-! ### what is stored below them -/
theorem Free.set {w : World} {b : Nat} (h : Free w b) (p : Addr) (x : Value) : Free (w.setCell p x) b := fun o => by simpa using h o
theorem cell_far {w : World} {b o : Nat} {p : Addr} (hb : b ≠ p.block) (x : Value) : (w.setCell p x).cell? ⟨b, o, none⟩ = w.cell? ⟨b, o, none⟩ := World.cell?_setCell_other _ _ _ _ (by rintro rfl; exact hb rfl)
theorem RowAt.far {B : Nat} {w : World} {D : Option Addr} {l : List C} (h : RowAt B w D l) {p : Addr} (hp : p.block < B) (x : Value) : RowAt B (w.setCell p x) D l := fun k hk => by
  obtain ⟨b, off, e, h0, h1, hf, h2, h3⟩ := h k hk
  exact ⟨b, off, e, h0, by simpa using h1, hf.set _ _, (cell_far (by omega) x).trans h2, (cell_far (by omega) x).trans h3⟩
theorem RowV.far {B : Nat} {w : World} {v : Value} {l : List C} (h : RowV B w v l) {p : Addr} (hp : p.block < B) (x : Value) : RowV B (w.setCell p x) v l := by
  obtain ⟨D, c, e, h1, h2⟩ := h
  exact ⟨D, c, e, h1, h2.far hp x⟩
theorem TabAt.far {B : Nat} {w : World} {D : Option Addr} {vs : List Value} (h : TabAt B w D vs) {p : Addr} (hp : p.block < B) (x : Value) : TabAt B (w.setCell p x) D vs := fun k hk => by
  obtain ⟨b, off, e, h0, h1, hf, h2⟩ := h k hk
  exact ⟨b, off, e, h0, by simpa using h1, hf.set _ _, (cell_far (by omega) x).trans h2⟩
theorem Lines.far {B : Nat} {w : World} {D : Option Addr} {L : List (List C)} (h : Lines B w D L) {p : Addr} (hp : p.block < B) (x : Value) : Lines B (w.setCell p x) D L := by
  obtain ⟨vs, h1, h2⟩ := h
  exact ⟨vs, h1.far hp x, h2.1, fun k a b => (h2.2 k a b).far hp x⟩

/-! ### rows of the call's own -/
theorem own_tab {B : Nat} {w : World} {e : TypeId} {v : Value} {n : Nat} {vs : List Value} (h : w.ownsRow B e 1 v n vs) : ∃ D c, v = .slice D vs.length c ∧ vs.length ≤ c ∧ TabAt B w D vs := by
  have hl : vs.length = n := by have := h.1; omega
  rcases h.2 with ⟨rfl, rfl⟩ | ⟨g, cap, cur, rfl, hg, hh, hcap, hmax, hsz, htk⟩
  · have : vs = [] := List.eq_nil_of_length_eq_zero hl
    subst this
    exact ⟨none, 0, rfl, Nat.le_refl _, TabAt.nil _ _ _⟩
  · refine ⟨some ⟨g, 0, none⟩, cap, by rw [hl], by omega, fun k hk => ⟨g, 0, rfl, hg, (Array.getElem?_eq_some_iff.1 hh).1, fun o => frozen_of_row w g o cur e hh, ?_⟩⟩
    rw [Nat.zero_add]
    exact (World.ownsRow.cellAt h k (by omega)).trans (by simp [hk])
theorem own_row {B : Nat} {w : World} {e : TypeId} {v : Value} {n : Nat} {l : List C} (h : w.ownsRow B e 2 v n (cvs l)) : RowV B w v l := by
  have hl : l.length = n := by have := h.1; rw [cvs_len] at this; omega
  rcases h.2 with ⟨rfl, rfl⟩ | ⟨g, cap, cur, rfl, hg, hh, hcap, hmax, hsz, htk⟩
  · have : l = [] := List.eq_nil_of_length_eq_zero hl
    subst this
    exact ⟨none, 0, rfl, Nat.le_refl _, RowAt.nil _ _ _⟩
  · refine ⟨some ⟨g, 0, none⟩, cap, by rw [hl], by omega, fun k hk => ?_⟩
    obtain ⟨q0, q1⟩ := cvs_at l k hk
    refine ⟨g, 0, rfl, hg, (Array.getElem?_eq_some_iff.1 hh).1, fun o => frozen_of_row w g o cur e hh, ?_, ?_⟩
    · rw [Nat.zero_add]
      exact (World.ownsRow.cellAt h _ (by omega)).trans q0
    · rw [Nat.zero_add]
      exact (World.ownsRow.cellAt h _ (by omega)).trans q1
end Go.Proofs.Ytpcpmeihebgncaa
