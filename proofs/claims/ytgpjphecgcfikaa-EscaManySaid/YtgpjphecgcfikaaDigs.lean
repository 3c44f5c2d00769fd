/-
  A number's digits; what a control sequence's numbers come to, parameter by parameter. Conditions: numbers from nought on.
-/
import Derived.Test.YtgpjphecgcfikaaMark
namespace Go.Proofs.Ytgpjphecgcfikaa
open Go.RowKit

def digs (n : Nat) : List Int := if n < 10 then [48 + (n : Int)] else digs (n / 10) ++ [48 + ((n % 10 : Nat) : Int)]
  termination_by n
  decreasing_by omega
theorem digs_low (n : Nat) (h : n < 10) : digs n = [48 + (n : Int)] := by rw [digs, if_pos h]
theorem digs_high (n : Nat) (h : 10 ≤ n) : digs n = digs (n / 10) ++ [48 + ((n % 10 : Nat) : Int)] := by rw [digs, if_neg (by omega)]
theorem digs_len (n : Nat) (h : n < 10000000) : (digs n).length ≤ 7 := by
  have key : ∀ m k : Nat, 1 ≤ k → m < 10 ^ k → (digs m).length ≤ k := by
    intro m k
    induction k generalizing m with
    | zero => intro h; omega
    | succ k ih =>
      intro _ hm
      by_cases h10 : m < 10
      · rw [digs_low m h10]; simp
      · rw [digs_high m (by omega)]
        have hk1 : 1 ≤ k := by
          cases k with
          | zero => simp at hm; omega
          | succ k => omega
        have := ih (m / 10) hk1 (by rw [Nat.pow_succ] at hm; omega)
        simp
        omega
  exact key n 7 (by decide) (by omega)

/-- Within a control sequence that asks nothing private, and skips nothing. -/
def E.csi (par : List Int) (num : Int) : E := ⟨2, U.zero, par, num, false, false⟩
theorem csi_digit_step (par : List Int) (num d : Int) (h0 : 0 ≤ d) (h1 : d ≤ 9) : nxE (E.csi par num) (48 + d) = (E.csi par (wDigit num d), []) := by
  have e1 : nxE (E.csi par num) (48 + d) = csiE (E.csi par num) (48 + d) := rfl
  rw [e1]
  unfold csiE
  rw [if_neg (by omega), if_neg (by omega), if_neg (by omega), if_pos (by omega), show 48 + d - 48 = d by omega]
  rfl
theorem csi_semi_step (par : List Int) (num : Int) : nxE (E.csi par num) 59 = (E.csi (wPar par num) (-1), []) := rfl
theorem csi_last_step (par : List Int) (num r : Int) (h0 : 64 ≤ r) (h1 : r ≤ 126) : nxE (E.csi par num) r = (E.zero, [⟨4, r, finPar (E.csi par num)⟩]) := by
  have e1 : nxE (E.csi par num) r = csiE (E.csi par num) r := rfl
  rw [e1]
  unfold csiE
  rw [if_neg (by omega), if_neg (by omega), if_neg (by omega), if_neg (by omega), if_neg (by omega), if_neg (by omega), if_neg (by omega), if_pos (by omega)]
  rfl
theorem feed_digs (par : List Int) (n : Nat) : feedE (E.csi par (-1)) (digs n) = E.csi par (min (n : Int) 65535) ∧ feedA (E.csi par (-1)) (digs n) = [] := by
  induction n using Nat.strongRecOn with
  | ind n ih =>
    by_cases h10 : n < 10
    · rw [digs_low n h10]
      have h := csi_digit_step par (-1) (n : Int) (by omega) (by omega)
      unfold feedE feedA feedE feedA
      rw [h]
      have e : wDigit (-1) (n : Int) = min (n : Int) 65535 := by unfold wDigit; rw [if_pos (by omega)]; omega
      rw [e]
      exact ⟨rfl, rfl⟩
    · rw [digs_high n (by omega)]
      obtain ⟨i1, i2⟩ := ih (n / 10) (by omega)
      rw [feedE_app, feedA_app, i1, i2]
      have h := csi_digit_step par (min ((n / 10 : Nat) : Int) 65535) ((n % 10 : Nat) : Int) (by omega) (by omega)
      unfold feedE feedA feedE feedA
      rw [h]
      have e : wDigit (min ((n / 10 : Nat) : Int) 65535) ((n % 10 : Nat) : Int) = min (n : Int) 65535 := by
        unfold wDigit
        rw [if_neg (by omega)]
        omega
      rw [e]
      exact ⟨rfl, rfl⟩
theorem begin_e : feedE E.zero [27, 91] = E.csi [] (-1) := by kernel_rfl
theorem begin_a : feedA E.zero [27, 91] = [] := by kernel_rfl

/-- The bytes bs so far come to a control sequence with the parameters par and the number num. -/
structure CsiAt (bs : List Int) (par : List Int) (num : Int) : Prop where
  e : feedE E.zero bs = E.csi par num
  a : feedA E.zero bs = []
theorem CsiAt.zero : CsiAt [27, 91] [] (-1) := ⟨begin_e, begin_a⟩
theorem CsiAt.semi {bs par : List Int} {num : Int} (h : CsiAt bs par num) : CsiAt (bs ++ [59]) (wPar par num) (-1) := by
  refine ⟨?_, ?_⟩
  · rw [feedE_app, h.e]; rfl
  · rw [feedA_app, h.a, h.e]; rfl
theorem CsiAt.digs {bs par : List Int} (h : CsiAt bs par (-1)) (n : Nat) : CsiAt (bs ++ digs n) par (min (n : Int) 65535) := by
  refine ⟨?_, ?_⟩
  · rw [feedE_app, h.e]; exact (feed_digs par n).1
  · rw [feedA_app, h.a, h.e, (feed_digs par n).2]; rfl
theorem CsiAt.last {bs par : List Int} {num r : Int} (h : CsiAt bs par num) (h0 : 64 ≤ r) (h1 : r ≤ 126) : feedE E.zero (bs ++ [r]) = E.zero ∧ feedA E.zero (bs ++ [r]) = [⟨4, r, finPar (E.csi par num)⟩] := by
  have hl := csi_last_step par num r h0 h1
  refine ⟨?_, ?_⟩
  · rw [feedE_app, h.e]
    unfold feedE feedE
    rw [hl]
  · rw [feedA_app, h.a, h.e]
    unfold feedA feedA
    rw [hl]
    rfl
theorem bytesOf_app (a b : ByteArray) : bytesOf (a ++ b) = bytesOf a ++ bytesOf b := by
  simp [bytesOf]
end Go.Proofs.Ytgpjphecgcfikaa
