/-
  What sideIn, leastIn, isSide and placeOf of tree answer. Conditions: rows of at most a thousand elements.
-/
import Derived.Test.YtojgmofpgefonaaC3
namespace Go.Proofs.Ytojgmofpgefonaa
open Go.RowKit
set_option linter.unusedSimpArgs false
set_option maxRecDepth 100000

set_option maxHeartbeats 400000 in
theorem sideIn_any (d : Int) (r : R) (w : World) : Calls Try.prog 36 #[.int .i64 d, rv r] w (New (.int .i64 (side d r)) w) := by
  obtain ⟨X, Y, W, H⟩ := r
  unfold rv side
  dsimp only
  by_cases h1 : d = 1
  · subst h1
    rw [if_pos rfl]
    go_enter Try.func36, Try.ntmps36
    go_wp2_with fail
    go_ret
    exact ⟨rfl, below_new _ _⟩
  · rw [if_neg h1]
    have e1 : (d == 1) = false := by simpa using h1
    by_cases h2 : d = 2
    · subst h2
      rw [if_pos rfl]
      go_enter Try.func36, Try.ntmps36
      go_wp2_with fail
      go_ret
      exact ⟨rfl, below_new _ _⟩
    · rw [if_neg h2]
      have e2 : (d == 2) = false := by simpa using h2
      go_enter Try.func36, Try.ntmps36
      go_wp2_with fail
      go_ret
      exact ⟨rfl, below_new _ _⟩
theorem leastIn_any (d : Int) (t : T) (l : List N) (D : Option Addr) (c i B : Nat) (w : World) (h : TabAt B w D (EN.flat l)) (hi : t.At l i) (ho : t.ok) (hl : l.length ≤ 1000) :
    Calls Try.prog 70 #[.int .i64 d, .slice D l.length c, .int .i64 i] w (New (.int .i64 (t.ll d)) w) := by
  have H := Lib.hid (leastOf_any t l D c i B w h hi ho hl)
  have HS := Lib.hid (sideIn_any d ⟨0, 0, t.lw, t.lh⟩)
  have e : side d ⟨0, 0, t.lw, t.lh⟩ = t.ll d := rfl
  rw [e] at HS
  unfold rv at HS
  dsimp only at HS
  clear h hi ho e
  generalize t.lw = a at *
  generalize t.lh = b at *
  generalize t.ll d = v at *
  go_enter Try.func70, Try.ntmps70
  go_wp2_with fail
  refine H.out.mono ?_
  rintro x w2 ⟨rfl, hb⟩
  go_wp2_with fail
  refine (HS.out _).mono ?_
  rintro x w3 ⟨rfl, hb3⟩
  go_wp2_with fail
  go_ret
  exact ⟨rfl, hb.trans (hb3.mono hb.size)⟩
theorem isSide_any (n : Int) (w : World) : Calls Try.prog 47 #[.int .i64 n] w (Ans (.bool (decide (0 ≤ n) && decide (n ≤ 1000))) w) := by
  by_cases h : 0 ≤ n
  · go_enter Try.func47, Try.ntmps47
    go_wp2_with fail
    go_ret
    exact ⟨ret_b (by simp [h]), rfl⟩
  · have hd : decide (0 ≤ n) = false := by simpa using h
    rw [hd, Bool.false_and]
    go_enter Try.func47, Try.ntmps47
    go_wp2_with fail
    go_ret
    exact ⟨rfl, rfl⟩

theorem cell_of_block {w w' : World} {k : Nat} (h : w'.heap[k]? = w.heap[k]?) (o : Nat) : w'.cell? ⟨k, o, none⟩ = w.cell? ⟨k, o, none⟩ := by simp only [World.cell?, h]
/-- The place of a pane that has one. -/
def PoRel (w1 : World) (l : List Sp) (p : Int) (i : Value) (wr : World) : Prop := ∃ k : Nat, i = .int .i64 k ∧ k ≤ l.length ∧ (∀ s ∈ l.take k, s.p ≠ p) ∧ Below w1.heap.size w1 wr
def PoP (w : World) (l : List Sp) (p : Int) (e : Ending) (w' : World) : Prop := ∃ s ∈ l, s.p = p ∧ e = .returned (rv s.r) ∧ Below w.heap.size w w'
theorem rect_size : (Try.prog.info? 48).map (·.size) = some 4 := by kernel_rfl
set_option maxHeartbeats 1000000 in
theorem placeOf_any (l : List Sp) (p : Int) (D : Option Addr) (c B : Nat) (w : World) (h : TabAt B w D (ES.flat l)) (hl : l.length ≤ 1000) (hp : ∃ s ∈ l, s.p = p) :
    Calls Try.prog 37 #[.slice D l.length c, .int .i64 p] w (PoP w l p) := by
  have HH := Lib.hid (fun wr hb => h.below (w' := wr) (C := w.heap.size) hb (Nat.le_refl _))
  have HP := Lib.hid hp
  have R0 := Lib.hid (RB.new w ⟨0, 0, 0, 0⟩)
  have B0 := Lib.hid (below_new w (.cells #[.int .i64 0, .int .i64 0, .int .i64 0, .int .i64 0] 48))
  clear h hp
  go_enter Try.func37, Try.ntmps37
  go_wp2_with fail
  have hlw : w.heap.size < (w.alloc (.cells #[.int .i64 0, .int .i64 0, .int .i64 0, .int .i64 0] 48)).heap.size := by simp
  generalize (w.alloc (.cells #[.int .i64 0, .int .i64 0, .int .i64 0, .int .i64 0] 48)) = w1 at *
  go_loopw [9] (PoRel w1 l p) (fun i _ => l.length - (intOf i).toNat)
  case atStart => exact ⟨0, rfl, Nat.zero_le _, by simp, Below.refl _ _⟩
  case round =>
    obtain ⟨k, rfl, hle, hm, hb⟩ := hrel
    have HM := Lib.hid hm
    clear hm
    have hbw := B0.out.trans (hb.mono B0.out.size)
    have r1 := RB.below R0.out hb hlw
    by_cases hlt : k < l.length
    · have hki : (k : Int) < (l.length : Int) := by omega
      have hkk := List.getElem?_eq_getElem hlt
      obtain ⟨b, off, rfl, h1, h2, h3, c0, c1, c2, c3, c4⟩ := spot_at (HH.out _ hbw) k _ hkk
      have HK := Lib.hid hkk
      clear hkk
      generalize l[k] = s at *
      obtain ⟨sp, X, Y, W, H⟩ := s
      dsimp only at c0 c1 c2 c3 c4
      by_cases hsp : sp = p
      · subst hsp
        have z := RB.alloc r1 (.cells #[.int .i64 sp, .int .i64 X, .int .i64 Y, .int .i64 W, .int .i64 H] 50)
        obtain ⟨a0, a1, a2, a3, af⟩ := z.cells
        dsimp only at a0 a1 a2 a3
        go_wp2_with fail
        refine bodyPost_ret (v := rv ⟨X, Y, W, H⟩) (results_cell_row (P := Try.prog) Try.results37 _ _ w.heap.size 48 _ (0, 0) _ rfl (RB.put z ⟨X, Y, W, H⟩) Try.underlying48 rfl rect_size) rfl ⟨_, List.mem_of_getElem? HK.out, rfl, rfl, ?_⟩
        exact below_set4 (hbw.trans ((below_new _ _).mono hbw.size)) (Nat.le_refl _) _ _ _ _
      · have hne : (sp == p) = false := by simpa using hsp
        go_wp2_with fail
        go_roundw
        case rel => exact ⟨k + 1, by go_num, by omega, by
          have := HK.out
          intro s hs
          rw [List.take_add_one, this] at hs
          simp only [Option.toList_some, List.mem_append, List.mem_singleton] at hs
          rcases hs with hs | rfl
          · exact HM.out s hs
          · exact hsp, hb.trans ((below_new _ _).mono hb.size)⟩
        case measure => simp [intOf]; omega
    · exfalso
      have ek : k = l.length := by omega
      subst ek
      obtain ⟨s, hs, hp⟩ := HP.out
      have := HM.out
      rw [List.take_length] at this
      exact this s hs hp
end Go.Proofs.Ytojgmofpgefonaa
