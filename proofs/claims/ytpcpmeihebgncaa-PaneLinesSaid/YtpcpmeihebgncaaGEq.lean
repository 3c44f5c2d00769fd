/-
  slices.Equal, slices.EqualFunc and sameLines of package grid, of equal rows and of rows whose first runes differ. Conditions: at most a hundred thousand rows of at most a thousand cells.
-/
import Derived.Test.YtpcpmeihebgncaaRef
namespace Go.Proofs.Ytpcpmeihebgncaa
open Go.RowKit
set_option maxRecDepth 100000

set_option maxHeartbeats 400000 in
theorem equal_true (D E : Option Addr) (c d : Nat) (l : List C) (w : World) (h1 : RowAt 0 w D l) (h2 : RowAt 0 w E l) (hn : l.length ≤ 100000) : Calls Try.prog 151 #[.slice D l.length c, .slice E l.length d] w (Quiet true w) := by
  have H1 := Lib.hid h1
  have H2 := Lib.hid h2
  clear h1 h2
  go_enter Try.func151, Try.ntmps151
  go_wp2_with fail
  go_loopw [13] (QRel w l.length) (fun i _ => l.length - (intOf i).toNat)
  case atStart => exact ⟨0, rfl, Nat.zero_le _, 0, rfl⟩
  case round =>
    obtain ⟨k, rfl, hle, m, hm⟩ := hrel
    by_cases hlt : k < l.length
    · have hki : (k : Int) < (l.length : Int) := by omega
      obtain ⟨rb, ro, rfl, _, _, _, y0, y1⟩ := (H1.out.drewN m) k hlt
      obtain ⟨wb, wo, rfl, _, _, _, z0, z1⟩ := (H2.out.drewN m) k hlt
      rw [← hm] at y0 y1 z0 z1
      have HM := Lib.hid hm
      clear hm
      generalize l[k] = z at y0 y1 z0 z1
      obtain ⟨zr, za⟩ := z
      go_wp2_with fail
      go_quiet (fail)
      go_wp2_with fail
      go_roundw
      case rel => exact ⟨k + 1, by go_num, by omega, _, by rw [HM.out, World.drewN_drewN]⟩
      case measure => simp [intOf]; omega
    · have hki : ¬ (k : Int) < (l.length : Int) := by omega
      have HM := Lib.hid hm
      clear hm
      go_wp2_with fail
      go_ret
      exact ⟨rfl, m, HM.out⟩
set_option maxHeartbeats 400000 in
theorem equal_false (D E : Option Addr) (c d : Nat) (x y : C) (l r : List C) (w : World) (h1 : RowAt 0 w D (x :: l)) (h2 : RowAt 0 w E (y :: r)) (hne : ¬ x.r = y.r) (hn : l.length ≤ 100000) :
    Calls Try.prog 151 #[.slice D (l.length + 1) c, .slice E (l.length + 1) d] w (Quiet false w) := by
  obtain ⟨rb, ro, rfl, _, _, _, y0, y1⟩ := h1 0 (by simp)
  obtain ⟨wb, wo, rfl, _, _, _, z0, z1⟩ := h2 0 (by simp)
  simp only [List.getElem_cons_zero, Nat.zero_mul, Nat.add_zero] at y0 y1 z0 z1
  obtain ⟨xr, xa⟩ := x
  obtain ⟨yr, ya⟩ := y
  dsimp only at *
  clear h1 h2
  have hb : (xr == yr) = false := beq_eq_false_iff_ne.2 hne
  have hz : (0 : Int) < (l.length : Int) + 1 := by omega
  have hzn : 0 < l.length + 1 := by omega
  go_enter Try.func151, Try.ntmps151
  go_wp2_with fail
  go_loopw [13] (fun i wr => i = .int .i64 0 ∧ w = wr) (fun _ _ => 0)
  case atStart => exact ⟨rfl, rfl⟩
  case round =>
    obtain ⟨rfl, rfl⟩ := hrel
    go_wp2_with fail
    go_quiet (fail)
    go_wp2_with fail
    go_ret
    exact ⟨rfl, _, rfl⟩

def fnV : Value := .func (.func 150) #[] #[]
set_option maxHeartbeats 400000 in
theorem eqLit_true (D E : Option Addr) (c d : Nat) (l : List C) (w : World) (h1 : RowAt 0 w D l) (h2 : RowAt 0 w E l) (hn : l.length ≤ 100000) : Calls Try.prog 150 #[.slice D l.length c, .slice E l.length d] w (Quiet true w) := by
  have H := Lib.hid (equal_true D E c d l w h1 h2 hn)
  clear h1 h2
  go_enter Try.func150, Try.ntmps150
  go_wp2_with (go_at_call 151; refine H.out.mono ?_; rintro e w' ⟨rfl, m, hm⟩; have HM := Lib.hid hm; clear hm)
  go_ret
  exact ⟨rfl, m, HM.out⟩
set_option maxHeartbeats 400000 in
theorem eqLit_false (D E : Option Addr) (c d : Nat) (x y : C) (l r : List C) (w : World) (h1 : RowAt 0 w D (x :: l)) (h2 : RowAt 0 w E (y :: r)) (hne : ¬ x.r = y.r) (hn : l.length ≤ 100000) :
    Calls Try.prog 150 #[.slice D (l.length + 1) c, .slice E (l.length + 1) d] w (Quiet false w) := by
  have H := Lib.hid (equal_false D E c d x y l r w h1 h2 hne hn)
  clear h1 h2
  go_enter Try.func150, Try.ntmps150
  go_wp2_with (go_at_call 151; refine H.out.mono ?_; rintro e w' ⟨rfl, m, hm⟩; have HM := Lib.hid hm; clear hm)
  go_ret
  exact ⟨rfl, m, HM.out⟩

set_option maxHeartbeats 400000 in
theorem eqf_true (D E : Option Addr) (c d : Nat) (L : List (List C)) (w : World) (h1 : Lines 0 w D L) (h2 : Lines 0 w E L) (hn : L.length ≤ 100000) (hl : ∀ r ∈ L, r.length ≤ 1000) : Calls Try.prog 149 #[.slice D L.length c, .slice E L.length d, fnV] w (Quiet true w) := by
  unfold fnV
  have H1 := Lib.hid h1
  have H2 := Lib.hid h2
  clear h1 h2
  go_enter Try.func149, Try.ntmps149
  go_wp2_with fail
  go_loopw [17] (QRel w L.length) (fun i _ => L.length - (intOf i).toNat)
  case atStart => exact ⟨0, rfl, Nat.zero_le _, 0, rfl⟩
  case round =>
    obtain ⟨k, rfl, hle, m, hm⟩ := hrel
    by_cases hlt : k < L.length
    · have hki : (k : Int) < (L.length : Int) := by omega
      obtain ⟨rb, ro, R, rc, rfl, _, _, _, y0, _, hr1⟩ := (H1.out.drewN m).at k hlt
      obtain ⟨wb, wo, S, sc, rfl, _, _, _, z0, _, hr2⟩ := (H2.out.drewN m).at k hlt
      rw [← hm] at y0 z0 hr1 hr2
      have HM := Lib.hid hm
      have HQ := Lib.hid (eqLit_true R S rc sc L[k] wr hr1 hr2 (by have := hl _ (List.getElem_mem hlt); omega))
      clear hm hr1 hr2
      generalize L[k] = z at *
      go_wp2_with (go_at_call 150; refine HQ.out.mono ?_; rintro e w' ⟨rfl, m', hm'⟩; have HM' := Lib.hid hm'; clear hm')
      go_roundw
      case rel => exact ⟨k + 1, by go_num, by omega, _, by rw [HM'.out, HM.out, World.drewN_drewN]⟩
      case measure => simp [intOf]; omega
    · have hki : ¬ (k : Int) < (L.length : Int) := by omega
      have HM := Lib.hid hm
      clear hm
      go_wp2_with fail
      go_ret
      exact ⟨rfl, m, HM.out⟩
set_option maxHeartbeats 400000 in
theorem eqf_false (D E : Option Addr) (c d : Nat) (x y : C) (l r : List C) (L M : List (List C)) (w : World) (h1 : Lines 0 w D ((x :: l) :: L)) (h2 : Lines 0 w E ((y :: r) :: M)) (hn : L.length ≤ 100000) (hr : r.length = l.length) (hne : ¬ x.r = y.r) (hl : l.length ≤ 1000) :
    Calls Try.prog 149 #[.slice D (L.length + 1) c, .slice E (L.length + 1) d, fnV] w (Quiet false w) := by
  unfold fnV
  obtain ⟨rb, ro, R, rc, rfl, _, _, _, y0, _, hr1⟩ := h1.at 0 (by simp)
  obtain ⟨wb, wo, S, sc, rfl, _, _, _, z0, _, hr2⟩ := h2.at 0 (by simp)
  have HQ := Lib.hid (eqLit_false R S rc sc x y l r w hr1 hr2 hne (by omega))
  simp only [List.getElem_cons_zero, List.length_cons, Nat.add_zero, hr] at y0 z0
  clear h1 h2 hr1 hr2 hr
  have hz : (0 : Int) < (L.length : Int) + 1 := by omega
  have hzn : 0 < L.length + 1 := by omega
  go_enter Try.func149, Try.ntmps149
  go_wp2_with fail
  go_loopw [17] (fun i wr => i = .int .i64 0 ∧ w = wr) (fun _ _ => 0)
  case atStart => exact ⟨rfl, rfl⟩
  case round =>
    obtain ⟨rfl, rfl⟩ := hrel
    go_wp2_with (go_at_call 150; refine HQ.out.mono ?_; rintro e w' ⟨rfl, m', hm'⟩; have HM' := Lib.hid hm'; clear hm')
    go_ret
    exact ⟨rfl, _, HM'.out⟩
set_option maxHeartbeats 400000 in
theorem sameLines_true (D E : Option Addr) (c d : Nat) (L : List (List C)) (w : World) (h1 : Lines 0 w D L) (h2 : Lines 0 w E L) (hn : L.length ≤ 100000) (hl : ∀ r ∈ L, r.length ≤ 1000) : Calls Try.prog 132 #[.slice D L.length c, .slice E L.length d] w (Quiet true w) := by
  have H := Lib.hid (eqf_true D E c d L w h1 h2 hn hl)
  clear h1 h2
  go_enter Try.func132, Try.ntmps132
  go_wp2_with (go_at_call 149; refine H.out.mono ?_; rintro e w' ⟨rfl, m, hm⟩; have HM := Lib.hid hm; clear hm)
  go_ret
  exact ⟨rfl, m, HM.out⟩
set_option maxHeartbeats 400000 in
theorem sameLines_false (D E : Option Addr) (c d : Nat) (x y : C) (l r : List C) (L M : List (List C)) (w : World) (h1 : Lines 0 w D ((x :: l) :: L)) (h2 : Lines 0 w E ((y :: r) :: M)) (hn : L.length ≤ 100000) (hr : r.length = l.length) (hne : ¬ x.r = y.r) (hl : l.length ≤ 1000) :
    Calls Try.prog 132 #[.slice D (L.length + 1) c, .slice E (L.length + 1) d] w (Quiet false w) := by
  have H := Lib.hid (eqf_false D E c d x y l r L M w h1 h2 hn hr hne hl)
  clear h1 h2 hr
  go_enter Try.func132, Try.ntmps132
  go_wp2_with (go_at_call 149; refine H.out.mono ?_; rintro e w' ⟨rfl, m, hm⟩; have HM := Lib.hid hm; clear hm)
  go_ret
  exact ⟨rfl, m, HM.out⟩

end Go.Proofs.Ytpcpmeihebgncaa
