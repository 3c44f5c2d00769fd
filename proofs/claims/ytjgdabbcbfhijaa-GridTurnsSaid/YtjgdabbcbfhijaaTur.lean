/-
  What Up and Down answer of rows that are on the screen, row by row. Conditions: those of Up and Down.
-/
import Derived.Test.YtjgdabbcbfhijaaDown
namespace Go.Proofs.Ytjgdabbcbfhijaa
open Go.RowKit

theorem upL_at {L : List (List C)} {f t k n : Nat} (x : Int) (hn : L.length = n) (h1 : f + k ≤ t) (h2 : t ≤ n) (y : Nat) :
    (upL L f t k x)[y]? = if y < f ∨ t ≤ y then L[y]? else if y + k < t then L[y + k]? else some (blankF x) := by
  have e1 : (L.take f).length = f := by rw [List.length_take]; omega
  have e2 : ((L.take t).drop (f + k)).length = t - (f + k) := by rw [List.length_drop, List.length_take]; omega
  have e3 : (blankL x k).length = k := blankL_len x k
  simp only [upL, List.flatten_cons, List.flatten_nil, List.append_nil]
  by_cases c1 : y < f
  · rw [if_pos (.inl c1), List.getElem?_append_left (by omega), List.getElem?_take_of_lt c1]
  · rw [List.getElem?_append_right (by omega), e1]
    by_cases c2 : y + k < t
    · rw [if_neg (by omega), if_pos c2, List.getElem?_append_left (by omega), List.getElem?_drop, List.getElem?_take_of_lt (by omega)]
      congr 1; omega
    · rw [List.getElem?_append_right (by omega), e2]
      by_cases c3 : y < t
      · rw [if_neg (by omega), if_neg c2, List.getElem?_append_left (by omega)]
        simp only [blankL, List.getElem?_replicate]
        rw [if_pos (by omega)]
      · rw [if_pos (.inr (by omega)), List.getElem?_append_right (by omega), e3, List.getElem?_drop]
        congr 1; omega
theorem downL_at {L : List (List C)} {f t k n : Nat} (x : Int) (hn : L.length = n) (h1 : f + k ≤ t) (h2 : t ≤ n) (y : Nat) :
    (downL L f t k x)[y]? = if y < f ∨ t ≤ y then L[y]? else if y < f + k then some (blankF x) else L[y - k]? := by
  have e1 : (L.take f).length = f := by rw [List.length_take]; omega
  have e2 : ((L.take (t - k)).drop f).length = t - k - f := by rw [List.length_drop, List.length_take]; omega
  have e3 : (blankL x k).length = k := blankL_len x k
  simp only [downL, List.flatten_cons, List.flatten_nil, List.append_nil]
  by_cases c1 : y < f
  · rw [if_pos (.inl c1), List.getElem?_append_left (by omega), List.getElem?_take_of_lt c1]
  · rw [List.getElem?_append_right (by omega), e1]
    by_cases c2 : y < f + k
    · rw [if_neg (by omega), if_pos c2, List.getElem?_append_left (by omega)]
      simp only [blankL, List.getElem?_replicate]
      rw [if_pos (by omega)]
    · rw [List.getElem?_append_right (by omega), e3]
      by_cases c3 : y < t
      · rw [if_neg (by omega), if_neg c2, List.getElem?_append_left (by omega), List.getElem?_drop, List.getElem?_take_of_lt (by omega)]
        congr 1; omega
      · rw [if_pos (.inr (by omega)), List.getElem?_append_right (by omega), e2, List.getElem?_drop]
        congr 1; omega
theorem from_eq {n top : Nat} (h : top < n) : fromF n (top : Int) = top := by unfold fromF withinF; omega
theorem to_eq {n top bottom : Nat} (h : top ≤ bottom) (hb : bottom < n) : toF n (top : Int) (bottom : Int) = bottom + 1 := by unfold toF fromF withinF; omega
theorem within_eq (z t f : Nat) (h : f ≤ t) : (withinF (z : Int) ((t : Int) - f)).toNat = min z (t - f) := by unfold withinF; omega

theorem up_nat (p : Nm) (D E : Option Addr) (n c m d : Nat) (L Bk : List (List C)) (top bottom z : Nat) (w : World) (hs : Scr 0 w D E n c m d L Bk) (ht : top ≤ bottom) (hb : bottom < n) (hn : n ≤ 1000) (hm : m ≤ 50) (hl : ∀ r ∈ L, r.length ≤ 1000) (hlb : ∀ r ∈ Bk, r.length ≤ 1000) :
    Calls Try.prog 7 #[gv p (.slice D n c) (.slice E m d), .int .i64 (top : Int), .int .i64 (bottom : Int), .int .i64 (z : Int)] w
      (GridPost w p (upL L top (bottom + 1) (min z (bottom + 1 - top)) p.w) (upBack L Bk top (min z (bottom + 1 - top)))) := by
  have h := up_any p D E n c m d L Bk top bottom z w hs (by omega) hn hm hl hlb
  rw [from_eq (by omega), to_eq ht hb, within_eq z (bottom + 1) top (by omega)] at h
  exact h
theorem down_nat (p : Nm) (D E : Option Addr) (n c m d : Nat) (L Bk : List (List C)) (top bottom z : Nat) (w : World) (hs : Scr 0 w D E n c m d L Bk) (ht : top ≤ bottom) (hb : bottom < n) (hn : n ≤ 1000) (hm : m ≤ 50) (hl : ∀ r ∈ L, r.length ≤ 1000) (hlb : ∀ r ∈ Bk, r.length ≤ 1000) :
    Calls Try.prog 8 #[gv p (.slice D n c) (.slice E m d), .int .i64 (top : Int), .int .i64 (bottom : Int), .int .i64 (z : Int)] w
      (GridPost w p (downL L top (bottom + 1) (min z (bottom + 1 - top)) p.w) Bk) := by
  have h := down_any p D E n c m d L Bk top bottom z w hs (by omega) hn hm hl hlb
  rw [from_eq (by omega), to_eq ht hb, within_eq z (bottom + 1) top (by omega)] at h
  exact h
/-- Up and down again: row y. -/
theorem again_at {L : List (List C)} {f t k n : Nat} (x : Int) (hn : L.length = n) (h1 : f + k ≤ t) (h2 : t ≤ n) (y : Nat) :
    (downL (upL L f t k x) f t k x)[y]? = if y < f ∨ t ≤ y then L[y]? else if y < f + k then some (blankF x) else L[y]? := by
  rw [downL_at x (upL_len x hn h1 h2) h1 h2 y]
  by_cases c1 : y < f ∨ t ≤ y
  · rw [if_pos c1, if_pos c1, upL_at x hn h1 h2 y, if_pos c1]
  · rw [if_neg c1, if_neg c1]
    by_cases c2 : y < f + k
    · rw [if_pos c2, if_pos c2]
    · rw [if_neg c2, if_neg c2, upL_at x hn h1 h2 (y - k), if_neg (by omega), if_pos (by omega)]
      congr 1; omega
end Go.Proofs.Ytjgdabbcbfhijaa
