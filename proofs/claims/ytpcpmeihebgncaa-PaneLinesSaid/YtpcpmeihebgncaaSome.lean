/-
  Rows of a table of which only the lengths are known: what of that stays when a cell is stored; the row of numbers that came in, and the literal that reads it. Conditions: the row that came in reads as numbers.
-/
import Derived.Test.YtpcpmeihebgncaaWhole
namespace Go.Proofs.Ytpcpmeihebgncaa
open Go.RowKit
set_option maxRecDepth 100000

/-! ### masks -/
theorem and_low (n : Int) (m : Nat) (i : Nat) (hm : (BitVec.ofInt 64 (m : Int)).toNat = 2 ^ i - 1) (hi : i ≤ 8) : bits .and .i64 n m = n % ((2 ^ i : Nat) : Int) := by
  have key : (BitVec.ofInt 64 n &&& BitVec.ofInt 64 (m : Int)).toNat = (n % ((2 ^ 64 : Nat) : Int)).toNat % 2 ^ i := by
    rw [BitVec.toNat_and, BitVec.toNat_ofInt, hm, Nat.and_two_pow_sub_one_eq_mod]
  show IntKind.i64.wrap ((BitVec.ofInt 64 n &&& BitVec.ofInt 64 (m : Int)).toNat : Nat) = _
  rw [key, IntKind.wrap_i64]
  have h : i = 0 ∨ i = 1 ∨ i = 2 ∨ i = 3 ∨ i = 4 ∨ i = 5 ∨ i = 6 ∨ i = 7 ∨ i = 8 := by omega
  rcases h with rfl | rfl | rfl | rfl | rfl | rfl | rfl | rfl | rfl <;> simp only [Nat.reducePow] <;> omega
theorem i64_and1 (n : Int) : bits .and .i64 n 1 = n % 2 := and_low n 1 1 (by decide) (by decide)
theorem i64_and3 (n : Int) : bits .and .i64 n 3 = n % 4 := and_low n 3 2 (by decide) (by decide)
theorem i64_and7 (n : Int) : bits .and .i64 n 7 = n % 8 := and_low n 7 3 (by decide) (by decide)
theorem i64_and15 (n : Int) : bits .and .i64 n 15 = n % 16 := and_low n 15 4 (by decide) (by decide)
theorem i64_and63 (n : Int) : bits .and .i64 n 63 = n % 64 := and_low n 63 6 (by decide) (by decide)
theorem i64_and255 (n : Int) : bits .and .i64 n 255 = n % 256 := and_low n 255 8 (by decide) (by decide)

/-! ### rows that came in -/
def ReadI (w : World) (v : Value) (xs : List Int) : Prop := ∃ D c, v = .slice D xs.length c ∧ ∀ k : Nat, k < xs.length → ∃ (b off : Nat) (z : Int), D = some ⟨b, off, none⟩ ∧ b < w.heap.size ∧ xs[k]? = some z ∧ w.cell? ⟨b, off + k, none⟩ = some (.int .i64 z)
theorem ReadI.below {w w' : World} {B : Nat} {v : Value} {xs : List Int} (h : ReadI w v xs) (hb : Below B w w') (hB : w.heap.size ≤ B) : ReadI w' v xs := by
  obtain ⟨D, c, rfl, h⟩ := h
  refine ⟨D, c, rfl, fun k hk => ?_⟩
  obtain ⟨b, off, z, e, h1, h2, h3⟩ := h k hk
  exact ⟨b, off, z, e, Nat.lt_of_lt_of_le h1 hb.size, h2, (hb.cell (p := ⟨b, off + k, none⟩) (Nat.lt_of_lt_of_le h1 hB)).trans h3⟩

/-- What the literal k answers. -/
def kF (xs : List Int) (i : Nat) : Int := xs.getD i i
/-- The variable that k reads holds the row xs. -/
def KOk (w : World) (g : Nat) (xs : List Int) : Prop := ∃ v, Held w g 28 #[v] ∧ ReadI w v xs
theorem KOk.below {w w' : World} {B g : Nat} {xs : List Int} (h : KOk w g xs) (hb : Below B w w') (hB : w.heap.size ≤ B) : KOk w' g xs := by
  obtain ⟨v, h1, h2⟩ := h
  exact ⟨v, h1.below hb (Nat.lt_of_lt_of_le h1.lt hB), h2.below hb hB⟩
theorem k_any (i g : Nat) (xs : List Int) (w : World) (h : KOk w g xs) : Calls Try.prog 32 #[.int .i64 i, .pointer (some ⟨g, 0, none⟩)] w fun e w' => e = .returned (.int .i64 (kF xs i)) ∧ w = w' := by
  obtain ⟨v, h1, D, c, rfl, h2⟩ := h
  have hc : w.cell? ⟨g, 0, none⟩ = some (.slice D xs.length c) := h1.cell 0
  by_cases hi : i < xs.length
  · obtain ⟨b, off, z, rfl, _, hz, hcell⟩ := h2 i hi
    have e : kF xs i = z := by unfold kF; rw [List.getD_eq_getElem?_getD, hz]; rfl
    rw [e]
    have hii : (i : Int) < (xs.length : Int) := by omega
    go_enter Try.func32, Try.ntmps32
    go_wp2
    go_ret
    exact ⟨rfl, rfl⟩
  · have e : kF xs i = i := by unfold kF; rw [List.getD_eq_getElem?_getD, List.getElem?_eq_none (by omega)]; rfl
    rw [e]
    have hii : ¬ (i : Int) < (xs.length : Int) := by omega
    go_enter Try.func32, Try.ntmps32
    go_wp2
    go_ret
    exact ⟨rfl, rfl⟩

/-! ### rows of which the lengths are known -/
theorem pick_list {α : Type} {n : Nat} {P : Nat → α → Prop} (h : ∀ k, k < n → ∃ x, P k x) : ∃ l : List α, l.length = n ∧ ∀ k (hk : k < l.length), P k l[k] := by
  induction n with
  | zero => exact ⟨[], rfl, fun k hk => by simp at hk⟩
  | succ n ih =>
    obtain ⟨l, hl, hp⟩ := ih fun k hk => h k (by omega)
    obtain ⟨x, hx⟩ := h n (by omega)
    refine ⟨l ++ [x], by simp [hl], fun k hk => ?_⟩
    rw [List.getElem_append]
    split
    · exact hp _ _
    · rename_i hk2
      simp at hk
      obtain rfl : k = n := by omega
      simpa using hx
def RowN (B : Nat) (w : World) (D : Option Addr) (n : Nat) : Prop := ∃ l : List C, l.length = n ∧ RowAt B w D l
theorem RowN.set {B : Nat} {w : World} {D : Option Addr} {n : Nat} (h : RowN B w D n) {a : Addr} {old v : Value} (hc : w.cell? a = some old) (hv : ∀ k y, old = .int k y → ∃ x, v = .int k x) : RowN B (w.setCell a v) D n := by
  obtain ⟨l, rfl, hl⟩ := h
  have one : ∀ (b o : Nat) (kk : IntKind) (y : Int), w.cell? ⟨b, o, none⟩ = some (.int kk y) → ∃ x, (w.setCell a v).cell? ⟨b, o, none⟩ = some (.int kk x) := fun b o kk y hy => by
    by_cases e : a = ⟨b, o, none⟩
    · subst e
      rw [hc] at hy
      injection hy with hy
      obtain ⟨x, rfl⟩ := hv _ _ hy
      exact ⟨x, World.cell?_setCell_same _ _ _ hc⟩
    · exact ⟨y, (World.cell?_setCell_other _ _ _ _ (fun e' => e (by rw [e']))).trans hy⟩
  obtain ⟨l', hl', hp⟩ := pick_list (n := l.length) (P := fun k (x : C) => ∃ b off : Nat, D = some ⟨b, off, none⟩ ∧ B ≤ b ∧ b < (w.setCell a v).heap.size ∧ Free (w.setCell a v) b ∧ (w.setCell a v).cell? ⟨b, off + k * 2, none⟩ = some (.int .i32 x.r) ∧ (w.setCell a v).cell? ⟨b, off + k * 2 + 1, none⟩ = some (.int .i64 x.a)) fun k hk => by
    obtain ⟨b, off, e, h0, h1, hf, h2, h3⟩ := hl k hk
    obtain ⟨x, hx⟩ := one _ _ _ _ h2
    obtain ⟨y, hy⟩ := one _ _ _ _ h3
    exact ⟨⟨x, y⟩, b, off, e, h0, by simpa using h1, hf.set _ _, hx, hy⟩
  exact ⟨l', hl', fun k hk => hp k hk⟩
/-- A table of n rows, each of W cells. -/
def LN (B : Nat) (w : World) (tb tq n W : Nat) : Prop := ∃ vs : List Value, vs.length = n ∧ TabAt B w (some ⟨tb, tq, none⟩) vs ∧ ∀ k (_ : k < vs.length), ∃ D c, vs[k] = .slice D W c ∧ W ≤ c ∧ RowN B w D W
theorem LN.set {B : Nat} {w : World} {tb tq n W : Nat} (h : LN B w tb tq n W) {a : Addr} {old v : Value} (ha : a.block ≠ tb ∨ ∀ D n c, old ≠ .slice D n c) (hc : w.cell? a = some old) (hv : ∀ k y, old = .int k y → ∃ x, v = .int k x) : LN B (w.setCell a v) tb tq n W := by
  obtain ⟨vs, h1, h2, h3⟩ := h
  refine ⟨vs, h1, fun k hk => ?_, fun k hk => ?_⟩
  · obtain ⟨b, off, e, q0, q1, q2, q3⟩ := h2 k hk
    cases e
    refine ⟨tb, tq, rfl, q0, by simpa using q1, q2.set _ _, (World.cell?_setCell_other _ _ _ _ ?_).trans q3⟩
    rintro rfl
    rcases ha with ha | ha
    · exact ha rfl
    · obtain ⟨D, c, e, _⟩ := h3 k hk
      rw [hc, e] at q3
      injection q3 with q3
      exact ha _ _ _ q3
  · obtain ⟨D, c, e, hc', hr⟩ := h3 k hk
    exact ⟨D, c, e, hc', hr.set hc hv⟩
theorem LN.below {B A : Nat} {w w' : World} {tb tq n W : Nat} (h : LN B w tb tq n W) (hb : Below A w w') (hA : w.heap.size ≤ A) : LN B w' tb tq n W := by
  obtain ⟨vs, h1, h2, h3⟩ := h
  refine ⟨vs, h1, h2.below hb hA, fun k hk => ?_⟩
  obtain ⟨D, c, e, hc, l, hl, hr⟩ := h3 k hk
  exact ⟨D, c, e, hc, l, hl, hr.below hb hA⟩
theorem LN.lines {B : Nat} {w : World} {tb tq n W : Nat} (h : LN B w tb tq n W) : ∃ L : List (List C), L.length = n ∧ (∀ r ∈ L, r.length = W) ∧ Lines B w (some ⟨tb, tq, none⟩) L := by
  obtain ⟨vs, rfl, h2, h3⟩ := h
  obtain ⟨L, hL, hp⟩ := pick_list (n := vs.length) (P := fun k (l : List C) => ∃ (hk : k < vs.length), l.length = W ∧ RowV B w vs[k] l) fun k hk => by
    obtain ⟨D, c, e, hc, l, hl, hr⟩ := h3 k hk
    subst hl
    exact ⟨l, hk, rfl, D, c, e, hc, hr⟩
  refine ⟨L, hL, fun r hr => ?_, vs, h2, by rw [hL], fun k h1 h2 => ?_⟩
  · obtain ⟨k, hk, rfl⟩ := List.getElem_of_mem hr
    exact (hp k hk).choose_spec.1
  · exact (hp k h2).choose_spec.2
theorem Lines.ln {B : Nat} {w : World} {tb tq n W : Nat} {L : List (List C)} (h : Lines B w (some ⟨tb, tq, none⟩) L) (hn : L.length = n) (hW : ∀ r ∈ L, r.length = W) : LN B w tb tq n W := by
  obtain ⟨vs, h1, h2⟩ := h
  refine ⟨vs, by rw [h2.1, hn], h1, fun k hk => ?_⟩
  have hk' : k < L.length := by rw [← h2.1]; exact hk
  obtain ⟨D, c, e, hc, hr⟩ := h2.2 k hk hk'
  have := hW _ (List.getElem_mem hk')
  exact ⟨D, c, by rw [e, this], by omega, L[k], this, hr⟩
/-- Row k, and cell j of it. -/
theorem LN.at {B : Nat} {w : World} {tb tq n W : Nat} (h : LN B w tb tq n W) (k : Nat) (hk : k < n) : ∃ (D : Option Addr) (c : Nat), tb < w.heap.size ∧ B ≤ tb ∧ w.cell? ⟨tb, tq + k, none⟩ = some (.slice D W c) ∧ W ≤ c ∧ RowN B w D W := by
  obtain ⟨vs, rfl, h2, h3⟩ := h
  obtain ⟨b, off, e, q0, q1, q2, q3⟩ := h2 k hk
  cases e
  obtain ⟨D, c, e, hc, hr⟩ := h3 k hk
  exact ⟨D, c, q1, q0, by rw [q3, e], hc, hr⟩
theorem RowN.at {B : Nat} {w : World} {D : Option Addr} {n : Nat} (h : RowN B w D n) (k : Nat) (hk : k < n) : ∃ (b o : Nat) (x y : Int), D = some ⟨b, o, none⟩ ∧ B ≤ b ∧ b < w.heap.size ∧ Free w b ∧ w.cell? ⟨b, o + k * 2, none⟩ = some (.int .i32 x) ∧ w.cell? ⟨b, o + k * 2 + 1, none⟩ = some (.int .i64 y) := by
  obtain ⟨l, rfl, hl⟩ := h
  obtain ⟨b, o, e, h0, h1, hf, h2, h3⟩ := hl k hk
  exact ⟨b, o, _, _, e, h0, h1, hf, h2, h3⟩
/-- A screen's block holds no rune. -/
theorem Box.no_rune {w : World} {g b o : Nat} {p : Nm} {D E : Option Addr} {n c m d : Nat} {x : Int} (h : Box w g p (.slice D n c) (.slice E m d)) (hc : w.cell? ⟨b, o, none⟩ = some (.int .i32 x)) : b ≠ g := by
  rintro rfl
  rw [Held.cell h o] at hc
  have := Array.mem_of_getElem? hc
  simp [gcs] at this
/-- What a cell of a row that is stored leaves. -/
theorem put_keep {w : World} {g b o tb tq : Nat} {x y : Int} {A Z : Value} {D : Option Addr} {n c : Nat} (hg : b ≠ g) (hx : w.cell? ⟨b, o, none⟩ = some (.int .i32 x)) (hy : w.cell? ⟨b, o + 1, none⟩ = some (.int .i64 y)) (h0 : w.cell? ⟨g, 0, none⟩ = some A) (h1 : w.cell? ⟨g, 13, none⟩ = some Z) (h2 : w.cell? ⟨tb, tq, none⟩ = some (.slice D n c)) (u v : Value) :
    ((w.setCell ⟨b, o, none⟩ u).setCell ⟨b, o + 1, none⟩ v).cell? ⟨g, 0, none⟩ = some A ∧ ((w.setCell ⟨b, o, none⟩ u).setCell ⟨b, o + 1, none⟩ v).cell? ⟨g, 13, none⟩ = some Z ∧ ((w.setCell ⟨b, o, none⟩ u).setCell ⟨b, o + 1, none⟩ v).cell? ⟨tb, tq, none⟩ = some (.slice D n c) := by
  have hne : ∀ (q : Addr) (k : Nat) (V : Value), q.block = g → w.cell? q = some V → ((w.setCell ⟨b, o, none⟩ u).setCell ⟨b, k, none⟩ v).cell? q = some V := fun q k V hq h => by
    rw [World.cell?_setCell_other _ _ _ _ (by rintro rfl; exact hg hq), World.cell?_setCell_other _ _ _ _ (by rintro rfl; exact hg hq)]
    exact h
  refine ⟨hne _ _ _ rfl h0, hne _ _ _ rfl h1, ?_⟩
  rw [World.cell?_setCell_other _ _ _ _ (by intro e; rw [← e, hy] at h2; cases h2), World.cell?_setCell_other _ _ _ _ (by intro e; rw [← e, hx] at h2; cases h2)]
  exact h2
/-- A table's block is no screen's. -/
theorem Held.no_rune {w : World} {g b o : Nat} {v : Value} {x : Int} {t : TypeId} {c : Nat} {D : Option Addr} {n : Nat} (h : Held w g t #[v]) (hv : v = .slice D n c) (hc : w.cell? ⟨b, o, none⟩ = some (.int .i32 x)) : b ≠ g := by
  rintro rfl
  rw [Held.cell h o] at hc
  have := Array.mem_of_getElem? hc
  simp [hv] at this
end Go.Proofs.Ytpcpmeihebgncaa
