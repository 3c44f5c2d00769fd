/-
  What the document's Blank, SameRow, SameRows and Fit answer, and slices.Equal and EqualFunc of rows and lines. Conditions: rows and tables of at most a hundred thousand; SameRow, SameRows and Equal of equals; Equal of rows whose first signs differ.
-/
import Derived.Test.YtjgdabbcbfhijaaFill
import Derived.Deep.QuietTactic
import Derived.BigQuiet
namespace Go.Proofs.Ytjgdabbcbfhijaa
open Go.RowKit

theorem held_within (x : Int) : heldF x 0 1000 = withinF x 1000 := by unfold heldF withinF; omega

set_option maxHeartbeats 400000 in
theorem rblank_any (x : Int) (w : World) : Calls Try.prog 9 #[.int .i64 x] w (RowPost w (blankF x)) := by
  obtain ⟨n, hn⟩ : ∃ n : Nat, withinF x 1000 = n := ⟨(withinF x 1000).toNat, by unfold withinF; omega⟩
  have hn1 : n ≤ 1000 := by have : withinF x 1000 ≤ 1000 := by unfold withinF; omega
                            omega
  have HC : Hid (∀ w, Calls Try.prog 23 #[.int .i64 x, .int .i64 0, .int .i64 1000] w fun e w' => e = .returned (.int .i64 n) ∧ w = w') := fun w => by rw [← hn, ← held_within]; exact held_any x 0 1000 w
  have e : blankF x = blanksF n := by unfold blankF; rw [hn]; rfl
  rw [e]
  clear e hn
  have hm := run_makeC w n (by omega)
  have hR : Row (w.alloc (.cells (cvs (zeros n)).toArray 35)) w.heap.size (zeros n) := Held.new _ _ _
  have HR := Lib.hid hR
  clear hR
  go_enter Try.func9, Try.ntmps9
  go_wp2_with (go_at_call 23; refine (HC.out _).mono ?_; rintro e w' ⟨rfl, rfl⟩)
  go_loopw [4] (BlanksRel w w.heap.size n) (fun i _ => n - (intOf i).toNat)
  case atStart => exact ⟨0, rfl, Nat.zero_le _, HR.out, (Below.refl _ _).alloc (Nat.le_refl _) _⟩
  case round =>
    obtain ⟨k, rfl, hle, hrow, hb⟩ := hrel
    have hz := hrow.lt
    by_cases hlt : k < n
    · have hki : (k : Int) < (n : Int) := by omega
      have hpl := part_len n k hle
      obtain ⟨c0, c1⟩ := hrow.cells k (by omega)
      have cf := hrow.frozen
      go_wp2_with fail
      go_roundw
      case rel =>
        refine ⟨k + 1, by go_num, by omega, ?_, ?_⟩
        · rw [← part_next n k hlt]
          exact hrow.set k C.blank
        · exact below_set2 hb (Nat.le_refl _) _ _ _ _
      case measure => simp [intOf]; omega
    · have ek : k = n := by omega
      subst ek
      go_wp2_with fail
      go_ret
      refine ⟨w.heap.size, ?_, Nat.le_refl _, ?_, hb⟩
      · rw [blanksF_len]
        rfl
      · have e : part k k = blanksF k := by simp [part, zeros]
        rw [← e]
        exact hrow

/-- It answers so, and only draws. -/
def Quiet (b : Bool) (w : World) (e : Ending) (w' : World) : Prop := e = .returned (.bool b) ∧ ∃ m, w' = w.drewN m
def QRel (w : World) (n : Nat) (i : Value) (wr : World) : Prop := ∃ k : Nat, i = .int .i64 (k : Int) ∧ k ≤ n ∧ ∃ m, wr = w.drewN m
theorem RowAt.drewN {B : Nat} {w : World} {D : Option Addr} {l : List C} (h : RowAt B w D l) (m : Nat) : RowAt B (w.drewN m) D l := h.below (below_drewN (Below.refl _ _) m) (Nat.le_refl _)
theorem Lines.drewN {B : Nat} {w : World} {D : Option Addr} {L : List (List C)} (h : Lines B w D L) (m : Nat) : Lines B (w.drewN m) D L := h.below (below_drewN (Below.refl _ _) m) (Nat.le_refl _)

set_option maxHeartbeats 400000 in
theorem sameRow_any (D E : Option Addr) (c d : Nat) (l : List C) (w : World) (h1 : RowAt 0 w D l) (h2 : RowAt 0 w E l) (hn : l.length ≤ 100000) : Calls Try.prog 10 #[.slice D l.length c, .slice E l.length d] w (Quiet true w) := by
  have H1 := Lib.hid h1
  have H2 := Lib.hid h2
  clear h1 h2
  go_enter Try.func10, Try.ntmps10
  go_wp2_with fail
  go_loopw [5] (QRel w l.length) (fun i _ => l.length - (intOf i).toNat)
  case atStart => exact ⟨0, rfl, Nat.zero_le _, 0, rfl⟩
  case round =>
    obtain ⟨k, rfl, hle, m, hm⟩ := hrel
    by_cases hlt : k < l.length
    · have hki : (k : Int) < (l.length : Int) := by omega
      obtain ⟨rb, ro, rfl, _, _, _, y0, y1⟩ := (H1.out.drewN m) k hlt
      obtain ⟨wb, wo, rfl, _, _, _, z0, z1⟩ := (H2.out.drewN m) k hlt
      rw [← hm] at y0 y1 z0 z1
      have HM := Lib.hid hm
      clear hm
      generalize l[k] = z at y0 y1 z0 z1
      obtain ⟨zr, za⟩ := z
      go_wp2_with fail
      go_quiet (fail)
      go_wp2_with fail
      go_roundw
      case rel => exact ⟨k + 1, by go_num, by omega, _, by rw [HM.out, World.drewN_drewN]⟩
      case measure => simp [intOf]; omega
    · have hki : ¬ (k : Int) < (l.length : Int) := by omega
      have HM := Lib.hid hm
      clear hm
      go_wp2_with fail
      go_ret
      exact ⟨rfl, m, HM.out⟩
set_option maxHeartbeats 400000 in
theorem equal_true (D E : Option Addr) (c d : Nat) (l : List C) (w : World) (h1 : RowAt 0 w D l) (h2 : RowAt 0 w E l) (hn : l.length ≤ 100000) : Calls Try.prog 38 #[.slice D l.length c, .slice E l.length d] w (Quiet true w) := by
  have H1 := Lib.hid h1
  have H2 := Lib.hid h2
  clear h1 h2
  go_enter Try.func38, Try.ntmps38
  go_wp2_with fail
  go_loopw [13] (QRel w l.length) (fun i _ => l.length - (intOf i).toNat)
  case atStart => exact ⟨0, rfl, Nat.zero_le _, 0, rfl⟩
  case round =>
    obtain ⟨k, rfl, hle, m, hm⟩ := hrel
    by_cases hlt : k < l.length
    · have hki : (k : Int) < (l.length : Int) := by omega
      obtain ⟨rb, ro, rfl, _, _, _, y0, y1⟩ := (H1.out.drewN m) k hlt
      obtain ⟨wb, wo, rfl, _, _, _, z0, z1⟩ := (H2.out.drewN m) k hlt
      rw [← hm] at y0 y1 z0 z1
      have HM := Lib.hid hm
      clear hm
      generalize l[k] = z at y0 y1 z0 z1
      obtain ⟨zr, za⟩ := z
      go_wp2_with fail
      go_quiet (fail)
      go_wp2_with fail
      go_roundw
      case rel => exact ⟨k + 1, by go_num, by omega, _, by rw [HM.out, World.drewN_drewN]⟩
      case measure => simp [intOf]; omega
    · have hki : ¬ (k : Int) < (l.length : Int) := by omega
      have HM := Lib.hid hm
      clear hm
      go_wp2_with fail
      go_ret
      exact ⟨rfl, m, HM.out⟩
set_option maxHeartbeats 400000 in
theorem equal_false (D E : Option Addr) (c d : Nat) (x y : C) (l r : List C) (w : World) (h1 : RowAt 0 w D (x :: l)) (h2 : RowAt 0 w E (y :: r)) (hne : ¬ x.r = y.r) (hn : l.length ≤ 100000) :
    Calls Try.prog 38 #[.slice D (l.length + 1) c, .slice E (l.length + 1) d] w (Quiet false w) := by
  obtain ⟨rb, ro, rfl, _, _, _, y0, y1⟩ := h1 0 (by simp)
  obtain ⟨wb, wo, rfl, _, _, _, z0, z1⟩ := h2 0 (by simp)
  simp only [List.getElem_cons_zero, Nat.zero_mul, Nat.add_zero] at y0 y1 z0 z1
  obtain ⟨xr, xa⟩ := x
  obtain ⟨yr, ya⟩ := y
  dsimp only at *
  clear h1 h2
  have hb : (xr == yr) = false := beq_eq_false_iff_ne.2 hne
  have hz : (0 : Int) < (l.length : Int) + 1 := by omega
  have hzn : 0 < l.length + 1 := by omega
  go_enter Try.func38, Try.ntmps38
  go_wp2_with fail
  go_loopw [13] (fun i wr => i = .int .i64 0 ∧ w = wr) (fun _ _ => 0)
  case atStart => exact ⟨rfl, rfl⟩
  case round =>
    obtain ⟨rfl, rfl⟩ := hrel
    go_wp2_with fail
    go_quiet (fail)
    go_wp2_with fail
    go_ret
    exact ⟨rfl, _, rfl⟩

def fnV : Value := .func (.func 37) #[] #[]
set_option maxHeartbeats 400000 in
theorem eqLit_true (D E : Option Addr) (c d : Nat) (l : List C) (w : World) (h1 : RowAt 0 w D l) (h2 : RowAt 0 w E l) (hn : l.length ≤ 100000) : Calls Try.prog 37 #[.slice D l.length c, .slice E l.length d] w (Quiet true w) := by
  have H := Lib.hid (equal_true D E c d l w h1 h2 hn)
  clear h1 h2
  go_enter Try.func37, Try.ntmps37
  go_wp2_with (go_at_call 38; refine H.out.mono ?_; rintro e w' ⟨rfl, m, hm⟩; have HM := Lib.hid hm; clear hm)
  go_ret
  exact ⟨rfl, m, HM.out⟩
set_option maxHeartbeats 400000 in
theorem eqLit_false (D E : Option Addr) (c d : Nat) (x y : C) (l r : List C) (w : World) (h1 : RowAt 0 w D (x :: l)) (h2 : RowAt 0 w E (y :: r)) (hne : ¬ x.r = y.r) (hn : l.length ≤ 100000) :
    Calls Try.prog 37 #[.slice D (l.length + 1) c, .slice E (l.length + 1) d] w (Quiet false w) := by
  have H := Lib.hid (equal_false D E c d x y l r w h1 h2 hne hn)
  clear h1 h2
  go_enter Try.func37, Try.ntmps37
  go_wp2_with (go_at_call 38; refine H.out.mono ?_; rintro e w' ⟨rfl, m, hm⟩; have HM := Lib.hid hm; clear hm)
  go_ret
  exact ⟨rfl, m, HM.out⟩

set_option maxHeartbeats 400000 in
theorem eqf_true (D E : Option Addr) (c d : Nat) (L : List (List C)) (w : World) (h1 : Lines 0 w D L) (h2 : Lines 0 w E L) (hn : L.length ≤ 100000) (hl : ∀ r ∈ L, r.length ≤ 1000) : Calls Try.prog 36 #[.slice D L.length c, .slice E L.length d, fnV] w (Quiet true w) := by
  unfold fnV
  have H1 := Lib.hid h1
  have H2 := Lib.hid h2
  clear h1 h2
  go_enter Try.func36, Try.ntmps36
  go_wp2_with fail
  go_loopw [17] (QRel w L.length) (fun i _ => L.length - (intOf i).toNat)
  case atStart => exact ⟨0, rfl, Nat.zero_le _, 0, rfl⟩
  case round =>
    obtain ⟨k, rfl, hle, m, hm⟩ := hrel
    by_cases hlt : k < L.length
    · have hki : (k : Int) < (L.length : Int) := by omega
      obtain ⟨rb, ro, R, rc, rfl, _, _, _, y0, _, hr1⟩ := (H1.out.drewN m).at k hlt
      obtain ⟨wb, wo, S, sc, rfl, _, _, _, z0, _, hr2⟩ := (H2.out.drewN m).at k hlt
      rw [← hm] at y0 z0 hr1 hr2
      have HM := Lib.hid hm
      have HQ := Lib.hid (eqLit_true R S rc sc L[k] wr hr1 hr2 (by have := hl _ (List.getElem_mem hlt); omega))
      clear hm hr1 hr2
      generalize L[k] = z at *
      go_wp2_with (go_at_call 37; refine HQ.out.mono ?_; rintro e w' ⟨rfl, m', hm'⟩; have HM' := Lib.hid hm'; clear hm')
      go_roundw
      case rel => exact ⟨k + 1, by go_num, by omega, _, by rw [HM'.out, HM.out, World.drewN_drewN]⟩
      case measure => simp [intOf]; omega
    · have hki : ¬ (k : Int) < (L.length : Int) := by omega
      have HM := Lib.hid hm
      clear hm
      go_wp2_with fail
      go_ret
      exact ⟨rfl, m, HM.out⟩
set_option maxHeartbeats 400000 in
theorem eqf_false (D E : Option Addr) (c d : Nat) (x y : C) (l r : List C) (L M : List (List C)) (w : World) (h1 : Lines 0 w D ((x :: l) :: L)) (h2 : Lines 0 w E ((y :: r) :: M)) (hn : L.length ≤ 100000) (hr : r.length = l.length) (hne : ¬ x.r = y.r) (hl : l.length ≤ 1000) :
    Calls Try.prog 36 #[.slice D (L.length + 1) c, .slice E (L.length + 1) d, fnV] w (Quiet false w) := by
  unfold fnV
  obtain ⟨rb, ro, R, rc, rfl, _, _, _, y0, _, hr1⟩ := h1.at 0 (by simp)
  obtain ⟨wb, wo, S, sc, rfl, _, _, _, z0, _, hr2⟩ := h2.at 0 (by simp)
  have HQ := Lib.hid (eqLit_false R S rc sc x y l r w hr1 hr2 hne (by omega))
  simp only [List.getElem_cons_zero, List.length_cons, Nat.add_zero, hr] at y0 z0
  clear h1 h2 hr1 hr2 hr
  have hz : (0 : Int) < (L.length : Int) + 1 := by omega
  have hzn : 0 < L.length + 1 := by omega
  go_enter Try.func36, Try.ntmps36
  go_wp2_with fail
  go_loopw [17] (fun i wr => i = .int .i64 0 ∧ w = wr) (fun _ _ => 0)
  case atStart => exact ⟨rfl, rfl⟩
  case round =>
    obtain ⟨rfl, rfl⟩ := hrel
    go_wp2_with (go_at_call 37; refine HQ.out.mono ?_; rintro e w' ⟨rfl, m', hm'⟩; have HM' := Lib.hid hm'; clear hm')
    go_ret
    exact ⟨rfl, _, HM'.out⟩
set_option maxHeartbeats 400000 in
theorem sameLines_true (D E : Option Addr) (c d : Nat) (L : List (List C)) (w : World) (h1 : Lines 0 w D L) (h2 : Lines 0 w E L) (hn : L.length ≤ 100000) (hl : ∀ r ∈ L, r.length ≤ 1000) : Calls Try.prog 33 #[.slice D L.length c, .slice E L.length d] w (Quiet true w) := by
  have H := Lib.hid (eqf_true D E c d L w h1 h2 hn hl)
  clear h1 h2
  go_enter Try.func33, Try.ntmps33
  go_wp2_with (go_at_call 36; refine H.out.mono ?_; rintro e w' ⟨rfl, m, hm⟩; have HM := Lib.hid hm; clear hm)
  go_ret
  exact ⟨rfl, m, HM.out⟩
set_option maxHeartbeats 400000 in
theorem sameLines_false (D E : Option Addr) (c d : Nat) (x y : C) (l r : List C) (L M : List (List C)) (w : World) (h1 : Lines 0 w D ((x :: l) :: L)) (h2 : Lines 0 w E ((y :: r) :: M)) (hn : L.length ≤ 100000) (hr : r.length = l.length) (hne : ¬ x.r = y.r) (hl : l.length ≤ 1000) :
    Calls Try.prog 33 #[.slice D (L.length + 1) c, .slice E (L.length + 1) d] w (Quiet false w) := by
  have H := Lib.hid (eqf_false D E c d x y l r L M w h1 h2 hn hr hne hl)
  clear h1 h2 hr
  go_enter Try.func33, Try.ntmps33
  go_wp2_with (go_at_call 36; refine H.out.mono ?_; rintro e w' ⟨rfl, m, hm⟩; have HM := Lib.hid hm; clear hm)
  go_ret
  exact ⟨rfl, m, HM.out⟩

set_option maxHeartbeats 400000 in
theorem sameRows_any (D E : Option Addr) (c d : Nat) (L : List (List C)) (w : World) (h1 : Lines 0 w D L) (h2 : Lines 0 w E L) (hn : L.length ≤ 100000) (hl : ∀ r ∈ L, r.length ≤ 1000) : Calls Try.prog 15 #[.slice D L.length c, .slice E L.length d] w (Quiet true w) := by
  have H1 := Lib.hid h1
  have H2 := Lib.hid h2
  clear h1 h2
  go_enter Try.func15, Try.ntmps15
  go_wp2_with fail
  go_loopw [5] (QRel w L.length) (fun i _ => L.length - (intOf i).toNat)
  case atStart => exact ⟨0, rfl, Nat.zero_le _, 0, rfl⟩
  case round =>
    obtain ⟨k, rfl, hle, m, hm⟩ := hrel
    by_cases hlt : k < L.length
    · have hki : (k : Int) < (L.length : Int) := by omega
      obtain ⟨rb, ro, R, rc, rfl, _, _, _, y0, _, hr1⟩ := (H1.out.drewN m).at k hlt
      obtain ⟨wb, wo, S, sc, rfl, _, _, _, z0, _, hr2⟩ := (H2.out.drewN m).at k hlt
      rw [← hm] at y0 z0 hr1 hr2
      have HM := Lib.hid hm
      have HQ := Lib.hid (fun j => sameRow_any R S rc sc L[k] (wr.drewN j) (hr1.drewN j) (hr2.drewN j) (by have := hl _ (List.getElem_mem hlt); omega))
      clear hm hr1 hr2
      generalize L[k] = z at *
      go_wp2_with fail
      go_quiet ((go_at_call 10; exact Calls.quiet_of (HQ.out _)))
      go_wp2_with fail
      go_roundw
      case rel => exact ⟨k + 1, by go_num, by omega, _, by rw [HM.out, World.drewN_drewN]⟩
      case measure => simp [intOf]; omega
    · have hki : ¬ (k : Int) < (L.length : Int) := by omega
      have HM := Lib.hid hm
      clear hm
      go_wp2_with fail
      go_ret
      exact ⟨rfl, m, HM.out⟩

/-! ### the document's Fit -/
theorem splice_next (q l : List C) (k : Nat) (h : k < l.length) (hq : k < q.length) : (splice q 0 (l.take k)).set k l[k] = splice q 0 (l.take (k + 1)) := by
  simp only [splice, List.take_zero, List.nil_append, Nat.zero_add, List.length_take]
  rw [show min k l.length = k by omega, show min (k + 1) l.length = k + 1 by omega, List.take_succ_eq_append_getElem h, List.set_append_right _ _ (by rw [List.length_take]; omega), List.length_take, show min k l.length = k by omega, Nat.sub_self, List.append_assoc]
  congr 1
  rw [List.drop_eq_getElem_cons hq, List.set_cons_zero]
  rfl
def FitRel (w : World) (g : Nat) (q l : List C) (i : Value) (wr : World) : Prop := ∃ k : Nat, i = .int .i64 (k : Int) ∧ k ≤ q.length ∧ k ≤ l.length ∧ Row wr g (splice q 0 (l.take k)) ∧ Below w.heap.size w wr
theorem splice_len (q l : List C) (k : Nat) (h : k ≤ q.length) : (splice q 0 (l.take k)).length = q.length := by
  rw [length_splice _ _ _ (by rw [List.length_take]; omega)]
set_option maxHeartbeats 400000 in
theorem rfit_any (D : Option Addr) (c : Nat) (l : List C) (x : Int) (w : World) (hr : ReadC w D l) (hn : l.length ≤ 100000) : Calls Try.prog 26 #[.slice D l.length c, .int .i64 x] w (RowPost w (fitF l x)) := by
  have HB := Lib.hid (fun w => rblank_any x w)
  have hlen := blankF_len x
  have hq1 : (blankF x).length ≤ 1000 := by rw [hlen]; unfold withinF; omega
  have HE : Hid (fitF l x = splice (blankF x) 0 (l.take (blankF x).length)) := by
    show _ = _
    rw [hlen]
    rfl
  have HF : Hid ((fitF l x).length = (blankF x).length) := by
    show _ = _
    rw [hlen, fitF_len]
  have HR := Lib.hid hr
  clear hr hlen
  obtain ⟨q, hq⟩ : ∃ q, q = blankF x := ⟨_, rfl⟩
  rw [← hq] at HB HE HF hq1
  clear hq
  go_enter Try.func26, Try.ntmps26
  go_wp2_with (go_at_call 9; refine (HB.out _).mono ?_; rintro e w1 ⟨g, rfl, hg, hrow, hb⟩)
  go_loopw [6] (FitRel w g q l) (fun i _ => q.length - (intOf i).toNat)
  case atStart => exact ⟨0, rfl, Nat.zero_le _, Nat.zero_le _, by simpa [splice] using hrow, hb⟩
  case round =>
    obtain ⟨k, rfl, hkq, hkl, hrow2, hb2⟩ := hrel
    clear hrow
    by_cases h1 : k < q.length
    · have h1i : (k : Int) < (q.length : Int) := by omega
      by_cases h2 : k < l.length
      · have h2i : (k : Int) < (l.length : Int) := by omega
        obtain ⟨rb, ro, rfl, _, y0, y1⟩ := (HR.out.below hb2 (Nat.le_refl _)) k h2
        obtain ⟨c0, c1⟩ := hrow2.cells k (by rw [splice_len _ _ _ hkq]; exact h1)
        have cf := hrow2.frozen
        have HN := Lib.hid (splice_next q l k h2 h1)
        have HS := Lib.hid (hrow2.set k l[k])
        have HSB := Lib.hid (below_set2 hb2 hg (k * 2) (k * 2 + 1) (.int .i32 l[k].r) (.int .i64 l[k].a))
        generalize l[k] = z at *
        go_wp2_with fail
        go_roundw
        case rel => exact ⟨k + 1, by go_num, by omega, by omega, by rw [← HN.out]; exact HS.out, HSB.out⟩
        case measure => simp [intOf]; omega
      · have h2i : ¬ (k : Int) < (l.length : Int) := by omega
        have h2d : decide (k < l.length) = false := decide_eq_false h2
        go_wp2_with fail
        go_ret
        have e1 : l.take k = l.take q.length := by rw [List.take_of_length_le (by omega), List.take_of_length_le (by omega)]
        refine ⟨g, ?_, hg, ?_, hb2⟩
        · rw [HF.out]
          rfl
        · rw [HE.out, ← e1]
          exact hrow2
    · have h1i : ¬ (k : Int) < (q.length : Int) := by omega
      have h1d : decide (k < q.length) = false := decide_eq_false h1
      have ek : k = q.length := by omega
      go_wp2_with fail
      go_ret
      refine ⟨g, ?_, hg, ?_, hb2⟩
      · rw [HF.out]
        rfl
      · rw [HE.out, ← ek]
        exact hrow2
end Go.Proofs.Ytjgdabbcbfhijaa
