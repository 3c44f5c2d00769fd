/-
  What Panes, at, moved and SameTree of the document's own answer give. Conditions: trees of at most 63 nodes.
-/
import Derived.Test.YtojgmofpgefonaaB1
namespace Go.Proofs.Ytojgmofpgefonaa
open Go.RowKit
set_option linter.unusedSimpArgs false
set_option maxRecDepth 100000

def RqRel (w1 : World) (l : List N) (v i : Value) (wr : World) : Prop := ∃ k : Nat, i = .int .i64 k ∧ k ≤ l.length ∧ wr.ownsRow w1.heap.size 3 1 v (panesL (l.take k)).length (EI.flat (panesL (l.take k))) ∧ Below w1.heap.size w1 wr
set_option maxHeartbeats 2000000 in
theorem rpanes_any (l : List N) (t : T) (D : Option Addr) (c B : Nat) (w : World) (h : TabAt B w D (EN.flat l)) (ht : Is l t) :
    Calls Try.prog 21 #[.agg #[.slice D l.length c]] w (OwnP EI 3 w t.panes) := by
  have hl : l.length ≤ 63 := by rw [ht.len]; exact ht.size
  have M0 := Lib.hid (TB.new w (.slice D l.length c))
  have B0 := Lib.hid (below_new w (.cells #[.slice D l.length c] 30))
  have HO := Lib.hid (fun w' hb => rok_any l t D c B w' (h.below (C := w.heap.size) hb (Nat.le_refl _)) ht)
  have HH := Lib.hid (fun wr hb => h.below (w' := wr) (C := w.heap.size) hb (Nat.le_refl _))
  rw [← ht.panes]
  clear h ht
  go_enter Try.func21, Try.ntmps21
  go_wp2_with fail
  have hs1 : w.heap.size + 1 = (w.alloc (.cells #[.slice D l.length c] 30)).heap.size := by simp
  generalize (w.alloc (.cells #[.slice D l.length c] 30)) = w1 at *
  have HS1 := Lib.hid hs1
  clear hs1
  go_loopw [3, 4] (RqRel w1 l) (fun _ i _ => l.length - (intOf i).toNat)
  case atStart => exact ⟨0, rfl, Nat.zero_le _, by simpa [panesL, Enc.flat] using World.ownsRow_nil w1 _ 3 1, Below.refl _ _⟩
  case round =>
    obtain ⟨k, rfl, hle, ho, hb⟩ := hrel
    have HO1 := Lib.hid ho
    have m1 := TB.below M0.out hb (TB.lt M0.out)
    have hb1 := B0.out.trans (hb.mono B0.out.size)
    have k0 := m1.cell
    have hlt1 := m1.lt
    clear ho
    by_cases hlt : k < l.length
    · have hki : (k : Int) < (l.length : Int) := by omega
      have hkk := List.getElem?_eq_getElem hlt
      have HN := Lib.hid (panesL_next hkk)
      have HK := Lib.hid hkk
      have HL := panesL_len (l.take k)
      have hkl : (l.take k).length = k := by rw [List.length_take]; omega
      rw [hkl] at HL
      clear hkk hkl
      generalize l[k] = n at *
      obtain ⟨p, d, f, a, bb⟩ := n
      dsimp only at HN
      generalize panesL (l.take k) = q at *
      go_wp2_with fail
      refine (HO.out _ hb1).mono ?_
      rintro x w2 ⟨rfl, hb2⟩
      have m2 := TB.below m1 hb2 hlt1
      have hb3 := hb1.trans (hb2.mono hb1.size)
      have hb3' := hb.trans (hb2.mono hb.size)
      have ho2 := own_below HO1.out hb2 (Nat.le_refl _)
      obtain ⟨b, off, rfl, h1, h2, h3, c0, c1, c2, c3, c4⟩ := node_at (HH.out _ hb3) k _ HK.out
      dsimp only at c0 c1 c2 c3 c4
      clear k0
      have k0 := m2.cell
      have HO2 := Lib.hid ho2
      clear ho2 c1 c2 c3 c4
      by_cases hp : 0 < p
      · rw [if_pos hp] at HN
        have HB2 : Below w2.heap.size w2 (w2.alloc (.cells #[.int .i64 p] 3)) := below_new _ _
        have HS : Src (w2.alloc (.cells #[.int .i64 p] 3)) (some ⟨w2.heap.size, 0, none⟩) [.int .i64 p] := TabAt.src (B := 0) (Held.tab (vs := [.int .i64 p]) (Held.new w2 3 #[.int .i64 p]) (Nat.zero_le _))
        have OB := Lib.hid (own_below HO2.out HB2 (Nat.le_refl _))
        have HB3 := Lib.hid (hb3'.trans (HB2.mono hb3'.size))
        have H2 := Lib.hid HS
        have hsz := hb3'.size
        clear HB2 HS
        go_wp2_with (
          at_builtin
          refine wpList_append_src _ rfl (.tmp 23) (.tmp 30) 34 rfl rowI w1.heap.size q.length 1 1 _ _ (EI.flat q) [.int .i64 p] rfl rfl OB.out H2.out rfl (by simp [Value.oneCell']) (by omega) (by simp; omega) ?_
          rintro v3 w3 ⟨ho3, hb4, _⟩)
        go_roundw
        case rel => exact ⟨k + 1, by go_num, by omega, by rw [HN.out, EI.flat_app]; simpa [EI_one] using ho3, HB3.out.trans hb4⟩
        case measure => simp [intOf]; omega
      · rw [if_neg hp, List.append_nil] at HN
        go_wp2_with fail
        go_roundw
        case rel => exact ⟨k + 1, by go_num, by omega, by rw [HN.out]; exact HO2.out, hb3'⟩
        case measure => simp [intOf]; omega
    · have ek : k = l.length := by omega
      subst ek
      have := HO1.out
      rw [List.take_length] at this
      go_wp2_with fail
      go_ret
      exact ⟨_, rfl, own_weak this B0.out.size, hb1⟩

/-- Where a pane's leaf is, or -1. -/
def AtP (w : World) (l : List N) (p : Int) (e : Ending) (w' : World) : Prop := ∃ j : Int, e = .returned (.int .i64 j) ∧ ((∃ k : Nat, j = k ∧ k < l.length ∧ ∃ n, l[k]? = some n ∧ n.p = p) ∨ (j = -1 ∧ ∀ n ∈ l, n.p ≠ p)) ∧ Below w.heap.size w w'
def RaRel (w1 : World) (l : List N) (p : Int) (i : Value) (wr : World) : Prop := ∃ k : Nat, i = .int .i64 k ∧ k ≤ l.length ∧ (∀ n ∈ l.take k, n.p ≠ p) ∧ wr = w1
theorem all_next {l : List N} {k : Nat} {p : Int} {n : N} (h : ∀ n ∈ l.take k, n.p ≠ p) (hk : l[k]? = some n) (hn : n.p ≠ p) : ∀ n ∈ l.take (k + 1), n.p ≠ p := by
  rw [List.take_add_one, hk]
  intro m hm
  simp only [Option.toList_some, List.mem_append, List.mem_singleton] at hm
  rcases hm with hm | rfl
  · exact h m hm
  · exact hn
set_option maxHeartbeats 1000000 in
theorem rat_any (l : List N) (p : Int) (D : Option Addr) (c B : Nat) (w : World) (h : TabAt B w D (EN.flat l)) (hl : l.length ≤ 1000) (hp : 0 < p) :
    Calls Try.prog 54 #[.agg #[.slice D l.length c], .int .i64 p] w (AtP w l p) := by
  have M0 := Lib.hid (TB.new w (.slice D l.length c))
  have B0 := Lib.hid (below_new w (.cells #[.slice D l.length c] 30))
  have HH := Lib.hid (h.below (C := w.heap.size) B0.out (Nat.le_refl _))
  clear h
  have hd : decide (0 < p) = true := by simpa using hp
  go_enter Try.func54, Try.ntmps54
  go_wp2_with fail
  generalize (w.alloc (.cells #[.slice D l.length c] 30)) = w1 at *
  go_loopw [5] (RaRel w1 l p) (fun i _ => l.length - (intOf i).toNat)
  case atStart => exact ⟨0, rfl, Nat.zero_le _, by simp, rfl⟩
  case round =>
    obtain ⟨k, rfl, hle, hm, rfl⟩ := hrel
    have HM := Lib.hid hm
    clear hm
    have k0 := M0.out.cell
    by_cases hlt : k < l.length
    · have hki : (k : Int) < (l.length : Int) := by omega
      have hkk := List.getElem?_eq_getElem hlt
      obtain ⟨b, off, rfl, h1, h2, h3, c0, _, _, _, _⟩ := node_at HH.out k _ hkk
      have HK := Lib.hid hkk
      clear hkk
      generalize l[k] = n at *
      obtain ⟨np, d, f, a, bb⟩ := n
      dsimp only at c0
      by_cases hnp : np = p
      · subst hnp
        go_wp2_with fail
        go_ret
        exact ⟨k, rfl, .inl ⟨k, rfl, hlt, _, HK.out, rfl⟩, B0.out⟩
      · have hne : (np == p) = false := by simpa using hnp
        go_wp2_with fail
        go_roundw
        case rel => exact ⟨k + 1, by go_num, by omega, all_next HM.out HK.out hnp, rfl⟩
        case measure => simp [intOf]; omega
    · have ek : k = l.length := by omega
      subst ek
      go_wp2_with fail
      go_ret
      have := HM.out
      rw [List.take_length] at this
      exact ⟨-1, rfl, .inr ⟨rfl, this⟩, B0.out⟩

def movedF (n : N) (k z : Int) : N := ⟨n.p, n.d, n.f, if n.a > k then n.a + z else n.a, if n.b > k then n.b + z else n.b⟩
end Go.Proofs.Ytojgmofpgefonaa
