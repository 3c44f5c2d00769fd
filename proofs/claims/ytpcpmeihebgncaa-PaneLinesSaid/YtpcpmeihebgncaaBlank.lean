/-
  What blanks, Blank and Fit of package rows answer. Conditions: rows of at most a thousand cells, no longer than their room.
-/
import Derived.Test.YtpcpmeihebgncaaLeaf
namespace Go.Proofs.Ytpcpmeihebgncaa
open Go.RowKit
set_option maxRecDepth 100000

theorem below_next {a w w1 : World} (h : Below a.heap.size a w) (h1 : Below w.heap.size w w1) : Below a.heap.size a w1 := h.trans (h1.mono h.size)
theorem below_set2 {a w : World} {B k : Nat} (h : Below B a w) (hk : B ≤ k) (i j : Nat) (x y : Value) : Below B a ((w.setCell ⟨k, i, none⟩ x).setCell ⟨k, j, none⟩ y) :=
  (h.setCell (p := ⟨k, i, none⟩) hk x).setCell (p := ⟨k, j, none⟩) hk y

/-- k blank ones, the others as made. -/
def part (n k : Nat) : List C := blanksF k ++ zeros (n - k)
theorem part_len (n k : Nat) (h : k ≤ n) : (part n k).length = n := by simp [part, blanksF, zeros]; omega
theorem part_next (n k : Nat) (h : k < n) : (part n k).set k C.blank = part n (k + 1) := by
  unfold part zeros
  obtain ⟨m, rfl⟩ : ∃ m, n = k + (m + 1) := ⟨n - k - 1, by omega⟩
  have e1 : k + (m + 1) - k = m + 1 := by omega
  have e2 : k + (m + 1) - (k + 1) = m := by omega
  rw [e1, e2, List.replicate_succ, List.set_append_right _ _ (by simp [blanksF]), blanksF_len, Nat.sub_self, List.set_cons_zero]
  simp [blanksF, List.replicate_succ']
def BlanksRel (w : World) (g n : Nat) (i : Value) (wr : World) : Prop := ∃ k : Nat, i = .int .i64 k ∧ k ≤ n ∧ Row wr g (part n k) ∧ Below w.heap.size w wr

set_option maxHeartbeats 400000 in
theorem blanks_any (n : Nat) (w : World) (hn : n ≤ 1000) : Calls Try.prog 139 #[.int .i64 n] w (RowPost w (blanksF n)) := by
  have hm := run_makeC w n (by omega)
  have hR : Row (w.alloc (.cells (cvs (zeros n)).toArray 48)) w.heap.size (zeros n) := Held.new _ _ _
  have HR := Lib.hid hR
  clear hR
  go_enter Try.func139, Try.ntmps139
  go_wp2_with fail
  go_loopw [9] (BlanksRel w w.heap.size n) (fun i _ => n - (intOf i).toNat)
  case atStart => exact ⟨0, rfl, Nat.zero_le _, HR.out, (Below.refl _ _).alloc (Nat.le_refl _) _⟩
  case round =>
    obtain ⟨k, rfl, hle, hrow, hb⟩ := hrel
    have hz := hrow.lt
    by_cases hlt : k < n
    · have hki : (k : Int) < (n : Int) := by omega
      have hpl := part_len n k hle
      go_wp2_with (
        go_at_call 141
        refine (blank_any _).mono ?_
        rintro e w1 ⟨rfl, hb1⟩
        unfold blankV
        have hrow1 := hrow.below hb1 hz
        obtain ⟨c0, c1⟩ := hrow1.cells k (by omega)
        have cf := hrow1.frozen)
      go_roundw
      case rel =>
        refine ⟨k + 1, by go_num, by omega, ?_, ?_⟩
        · rw [← part_next n k hlt]
          exact hrow1.set k C.blank
        · exact below_set2 (below_next hb hb1) (Nat.le_refl _) _ _ _ _
      case measure => simp [intOf]; omega
    · have ek : k = n := by omega
      subst ek
      go_wp2_with fail
      go_ret
      refine ⟨w.heap.size, ?_, Nat.le_refl _, ?_, hb⟩
      · rw [blanksF_len]
        rfl
      · have e : part k k = blanksF k := by simp [part, zeros]
        rw [← e]
        exact hrow

set_option maxHeartbeats 400000 in
theorem blankR_any (x : Int) (w : World) : Calls Try.prog 128 #[.int .i64 x] w (RowPost w (blankF x)) := by
  obtain ⟨h0, h1⟩ : 0 ≤ withinF x 1000 ∧ withinF x 1000 ≤ 1000 := by unfold withinF; omega
  obtain ⟨n, hn⟩ : ∃ n : Nat, withinF x 1000 = n := ⟨(withinF x 1000).toNat, by omega⟩
  have hC : Hid (∀ w, Calls Try.prog 140 #[.int .i64 x, .int .i64 1000] w fun e w' => e = .returned (.int .i64 n) ∧ w = w') := fun w => by rw [← hn]; exact within_any x 1000 w
  have hB : Hid (∀ w, Calls Try.prog 139 #[.int .i64 n] w (RowPost w (blankF x))) := fun w => by
    unfold blankF
    rw [hn, Int.toNat_natCast]
    exact blanks_any n w (by omega)
  clear hn h0 h1
  obtain ⟨l, hl⟩ : ∃ l, l = blankF x := ⟨_, rfl⟩
  rw [← hl] at hB ⊢
  clear hl
  go_enter Try.func128, Try.ntmps128
  go_wp2_with (first
    | (go_at_call 140; refine (hC.out _).mono ?_; rintro e w' ⟨rfl, rfl⟩)
    | (go_at_call 139; refine (hB.out _).mono ?_; rintro e w1 ⟨g, rfl, hg, hrow, hb⟩))
  go_ret
  exact ⟨g, rfl, hg, hrow, hb⟩

set_option maxHeartbeats 400000 in
theorem fit_any (D : Option Addr) (c : Nat) (l : List C) (x : Int) (w : World) (hr : ReadC w D l) : Calls Try.prog 127 #[.slice D l.length c, .int .i64 x] w (RowPost w (fitF l x)) := by
  have hB := Lib.hid (fun w => blankR_any x w)
  have hlen := blankF_len x
  have HE : Hid (fitF l x = splice (blankF x) 0 (l.take (blankF x).length)) := by
    show _ = _
    rw [hlen]
    rfl
  have HF : Hid ((fitF l x).length = (blankF x).length) := by
    show _ = _
    rw [hlen, fitF_len]
  have HR := Lib.hid hr
  clear hr hlen
  obtain ⟨q, hq⟩ : ∃ q, q = blankF x := ⟨_, rfl⟩
  rw [← hq] at hB HE HF
  clear hq
  go_enter Try.func127, Try.ntmps127
  go_wp2_with (first
    | (go_at_call 128; refine (hB.out _).mono ?_; rintro e w1 ⟨g, rfl, hg, hrow, hb⟩; have hr1 := HR.out.below hb (Nat.le_refl _))
    | (with_reducible refine wpList_copyC cellT rfl (.tmp 8) (.tmp 9) rfl _ _ _ _ _ _ rfl rfl g 0 q l hrow hr1 rfl (fun _ _ => rfl) (by omega) w.heap.size w hb hg ?_
       intro w2 hg2 hb2))
  go_ret
  refine ⟨g, ?_, hg, ?_, hb2⟩
  · rw [HF.out]
    rfl
  · rw [HE.out]
    exact hg2.out

end Go.Proofs.Ytpcpmeihebgncaa
