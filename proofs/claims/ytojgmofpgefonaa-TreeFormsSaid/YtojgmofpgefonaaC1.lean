/-
  What find and forkOf of tree answer. Conditions: rows of at most a thousand nodes.
-/
import Derived.Test.YtojgmofpgefonaaB2
namespace Go.Proofs.Ytojgmofpgefonaa
open Go.RowKit
set_option linter.unusedSimpArgs false
set_option maxRecDepth 100000

def IxRel (w : World) (l : List N) (P : N → Bool) (i : Value) (wr : World) : Prop := ∃ k : Nat, i = .int .i64 k ∧ k ≤ l.length ∧ (∀ n ∈ l.take k, P n = false) ∧ Below w.heap.size w wr
/-- The first node of which P holds, or -1. -/
def IxP (w : World) (l : List N) (P : N → Bool) (e : Ending) (w' : World) : Prop := ∃ j : Int, e = .returned (.int .i64 j) ∧ ((∃ k : Nat, j = k ∧ k < l.length ∧ (∃ n, l[k]? = some n ∧ P n = true) ∧ ∀ n ∈ l.take k, P n = false) ∨ (j = -1 ∧ ∀ n ∈ l, P n = false)) ∧ Below w.heap.size w w'
theorem allP_next {l : List N} {k : Nat} {P : N → Bool} {n : N} (h : ∀ n ∈ l.take k, P n = false) (hk : l[k]? = some n) (hn : P n = false) : ∀ n ∈ l.take (k + 1), P n = false := by
  rw [List.take_add_one, hk]
  intro m hm
  simp only [Option.toList_some, List.mem_append, List.mem_singleton] at hm
  rcases hm with hm | rfl
  · exact h m hm
  · exact hn
set_option maxHeartbeats 1000000 in
theorem find1_any (n : N) (p : Int) (g : Nat) (w : World) (hg : Held w g 3 #[.int .i64 p]) : Calls Try.prog 63 #[nv n, .pointer (some ⟨g, 0, none⟩)] w (New (.bool (n.p == p)) w) := by
  obtain ⟨np, d, f, a, b⟩ := n
  unfold nv
  dsimp only
  have k0 := (Held.alloc hg (.cells #[.int .i64 np, .int .i64 d, .int .i64 f, .int .i64 a, .int .i64 b] 23)).cell 0
  simp only [List.getElem?_toArray, List.getElem?_cons_zero] at k0
  go_enter Try.func63, Try.ntmps63
  go_wp2_with fail
  go_ret
  exact ⟨rfl, below_new _ _⟩
set_option maxHeartbeats 1000000 in
theorem fork1_any (n : N) (p : Int) (g : Nat) (w : World) (hg : Held w g 3 #[.int .i64 p]) : Calls Try.prog 68 #[nv n, .pointer (some ⟨g, 0, none⟩)] w (New (.bool (n.a == p || n.b == p)) w) := by
  obtain ⟨np, d, f, a, b⟩ := n
  unfold nv
  dsimp only
  have k0 := (Held.alloc hg (.cells #[.int .i64 np, .int .i64 d, .int .i64 f, .int .i64 a, .int .i64 b] 23)).cell 0
  simp only [List.getElem?_toArray, List.getElem?_cons_zero] at k0
  by_cases h : a = p
  · subst h
    have h2 : (a == a) = true := by simp
    rw [h2, Bool.true_or]
    go_enter Try.func68, Try.ntmps68
    go_wp2_with fail
    trace_state
    go_ret
    exact ⟨by first | rfl | (apply ret_b; simp), below_new _ _⟩
  · have h2 : (a == p) = false := by simpa using h
    rw [h2, Bool.false_or]
    go_enter Try.func68, Try.ntmps68
    go_wp2_with fail
    go_ret
    exact ⟨by first | rfl | (apply ret_b; simp [h]), below_new _ _⟩

set_option maxHeartbeats 1000000 in
theorem index63 (l : List N) (D : Option Addr) (c B g : Nat) (p : Int) (w : World) (h : TabAt B w D (EN.flat l)) (hl : l.length ≤ 1000) (hg : Held w g 3 #[.int .i64 p]) :
    Calls Try.prog 62 #[.slice D l.length c, .func (.func 63) #[] #[.pointer (some ⟨g, 0, none⟩)]] w (IxP w l (fun n => n.p == p)) := by
  have HH := Lib.hid (fun wr hb => h.below (w' := wr) (C := w.heap.size) hb (Nat.le_refl _))
  have HG := Lib.hid (fun wr hb => Held.below (w' := wr) hg hb hg.lt)
  clear h
  go_enter Try.func62, Try.ntmps62
  go_wp2_with fail
  go_loopw [8] (IxRel w l (fun n => n.p == p)) (fun i _ => l.length - (intOf i).toNat)
  case atStart => exact ⟨0, rfl, Nat.zero_le _, by simp, Below.refl _ _⟩
  case round =>
    obtain ⟨k, rfl, hle, hm, hb⟩ := hrel
    have HM := Lib.hid hm
    clear hm
    by_cases hlt : k < l.length
    · have hki : (k : Int) < (l.length : Int) := by omega
      have hkk := List.getElem?_eq_getElem hlt
      obtain ⟨b, off, rfl, h1, h2, h3, c0, c1, c2, c3, c4⟩ := node_at (HH.out _ hb) k _ hkk
      have HK := Lib.hid hkk
      have HC := Lib.hid (find1_any l[k] p g wr (HG.out _ hb))
      clear hkk
      generalize l[k] = n at *
      unfold nv at HC
      obtain ⟨q, hq⟩ : ∃ q, q = (n.p == p) := ⟨_, rfl⟩
      rw [← hq] at HC
      have HQ := Lib.hid hq
      clear hq
      cases q with
      | true =>
        go_wp2_with fail
        refine HC.out.mono ?_
        rintro x w2 ⟨rfl, hb2⟩
        go_wp2_with fail
        go_ret
        exact ⟨k, rfl, .inl ⟨k, rfl, hlt, ⟨n, HK.out, HQ.out.symm⟩, HM.out⟩, hb.trans (hb2.mono hb.size)⟩
      | false =>
        go_wp2_with fail
        refine HC.out.mono ?_
        rintro x w2 ⟨rfl, hb2⟩
        go_wp2_with fail
        go_roundw
        case rel => exact ⟨k + 1, by go_num, by omega, allP_next HM.out HK.out HQ.out.symm, hb.trans (hb2.mono hb.size)⟩
        case measure => simp [intOf]; omega
    · have ek : k = l.length := by omega
      subst ek
      go_wp2
      go_ret
      have := HM.out
      rw [List.take_length] at this
      exact ⟨-1, rfl, .inr ⟨rfl, this⟩, hb⟩

set_option maxHeartbeats 1000000 in
theorem index68 (l : List N) (D : Option Addr) (c B g : Nat) (p : Int) (w : World) (h : TabAt B w D (EN.flat l)) (hl : l.length ≤ 1000) (hg : Held w g 3 #[.int .i64 p]) :
    Calls Try.prog 62 #[.slice D l.length c, .func (.func 68) #[] #[.pointer (some ⟨g, 0, none⟩)]] w (IxP w l (fun n => n.a == p || n.b == p)) := by
  have HH := Lib.hid (fun wr hb => h.below (w' := wr) (C := w.heap.size) hb (Nat.le_refl _))
  have HG := Lib.hid (fun wr hb => Held.below (w' := wr) hg hb hg.lt)
  clear h
  go_enter Try.func62, Try.ntmps62
  go_wp2_with fail
  go_loopw [8] (IxRel w l (fun n => n.a == p || n.b == p)) (fun i _ => l.length - (intOf i).toNat)
  case atStart => exact ⟨0, rfl, Nat.zero_le _, by simp, Below.refl _ _⟩
  case round =>
    obtain ⟨k, rfl, hle, hm, hb⟩ := hrel
    have HM := Lib.hid hm
    clear hm
    by_cases hlt : k < l.length
    · have hki : (k : Int) < (l.length : Int) := by omega
      have hkk := List.getElem?_eq_getElem hlt
      obtain ⟨b, off, rfl, h1, h2, h3, c0, c1, c2, c3, c4⟩ := node_at (HH.out _ hb) k _ hkk
      have HK := Lib.hid hkk
      have HC := Lib.hid (fork1_any l[k] p g wr (HG.out _ hb))
      clear hkk
      generalize l[k] = n at *
      unfold nv at HC
      obtain ⟨q, hq⟩ : ∃ q, q = (n.a == p || n.b == p) := ⟨_, rfl⟩
      rw [← hq] at HC
      have HQ := Lib.hid hq
      clear hq
      cases q with
      | true =>
        go_wp2_with fail
        refine HC.out.mono ?_
        rintro x w2 ⟨rfl, hb2⟩
        go_wp2_with fail
        go_ret
        exact ⟨k, rfl, .inl ⟨k, rfl, hlt, ⟨n, HK.out, HQ.out.symm⟩, HM.out⟩, hb.trans (hb2.mono hb.size)⟩
      | false =>
        go_wp2_with fail
        refine HC.out.mono ?_
        rintro x w2 ⟨rfl, hb2⟩
        go_wp2_with fail
        go_roundw
        case rel => exact ⟨k + 1, by go_num, by omega, allP_next HM.out HK.out HQ.out.symm, hb.trans (hb2.mono hb.size)⟩
        case measure => simp [intOf]; omega
    · have ek : k = l.length := by omega
      subst ek
      go_wp2
      go_ret
      have := HM.out
      rw [List.take_length] at this
      exact ⟨-1, rfl, .inr ⟨rfl, this⟩, hb⟩

set_option maxHeartbeats 1000000 in
theorem find_any (l : List N) (D : Option Addr) (c B : Nat) (p : Int) (w : World) (h : TabAt B w D (EN.flat l)) (hl : l.length ≤ 1000) (hp : 0 < p) :
    Calls Try.prog 35 #[.slice D l.length c, .int .i64 p] w (IxP w l (fun n => n.p == p)) := by
  have B0 := Lib.hid (below_new w (.cells #[.int .i64 p] 3))
  have HI := Lib.hid (index63 l D c B w.heap.size p _ (h.below (C := w.heap.size) B0.out (Nat.le_refl _)) hl (Held.new w 3 #[.int .i64 p]))
  have hn : ¬ p < 1 := by omega
  clear h
  go_enter Try.func35, Try.ntmps35
  go_wp2_with fail
  refine HI.out.mono ?_
  rintro x w2 ⟨j, rfl, hj, hb⟩
  have HJ := Lib.hid hj
  clear hj
  go_wp2_with fail
  go_ret
  exact ⟨j, rfl, HJ.out, B0.out.trans (hb.mono (by simp))⟩
set_option maxHeartbeats 1000000 in
theorem forkOf_any (l : List N) (D : Option Addr) (c B : Nat) (p : Int) (w : World) (h : TabAt B w D (EN.flat l)) (hl : l.length ≤ 1000) :
    Calls Try.prog 46 #[.slice D l.length c, .int .i64 p] w (IxP w l (fun n => n.a == p || n.b == p)) := by
  have B0 := Lib.hid (below_new w (.cells #[.int .i64 p] 3))
  have HI := Lib.hid (index68 l D c B w.heap.size p _ (h.below (C := w.heap.size) B0.out (Nat.le_refl _)) hl (Held.new w 3 #[.int .i64 p]))
  clear h
  go_enter Try.func46, Try.ntmps46
  go_wp2_with fail
  refine HI.out.mono ?_
  rintro x w2 ⟨j, rfl, hj, hb⟩
  have HJ := Lib.hid hj
  clear hj
  go_wp2_with fail
  go_ret
  exact ⟨j, rfl, HJ.out, B0.out.trans (hb.mono (by simp))⟩
end Go.Proofs.Ytojgmofpgefonaa
