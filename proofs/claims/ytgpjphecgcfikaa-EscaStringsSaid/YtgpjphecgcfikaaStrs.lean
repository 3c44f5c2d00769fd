/-
  What stands in a string asks nothing: plain facts on the bytes of a string, of its ends, and of a sign behind it.
-/
import Derived.Test.YtgpjphecgcfikaaPieces
namespace Go.Proofs.Ytgpjphecgcfikaa
open Go.RowKit

/-- Within a string. -/
def E.str : E := ⟨3, U.zero, [], 0, false, false⟩
theorem E.str_ok : E.str.Ok := ⟨U.zero_ok, by decide, by decide, by decide, by decide⟩
def passes (c : Int) : Bool := decide (¬ c = 7 ∧ ¬ c = 24 ∧ ¬ c = 26 ∧ ¬ c = 27)
theorem str_step (c : Int) (h : passes c = true) : nxE E.str c = (E.str, []) := by
  have h' := of_decide_eq_true h
  have e1 : inStr c = 3 := by
    unfold inStr
    rw [if_neg (by omega), if_neg (by omega)]
  show ((⟨inStr c, U.zero, [], 0, false, false⟩ : E), ([] : List A)) = _
  rw [e1]
  rfl
theorem str_feed (bs : List Int) (h : ∀ c ∈ bs, passes c = true) : feedE E.str bs = E.str ∧ feedA E.str bs = [] := by
  induction bs with
  | nil => exact ⟨rfl, rfl⟩
  | cons a l ih =>
    have h1 := str_step a (h a (List.mem_cons_self))
    have h2 := ih fun c hc => h c (List.mem_cons_of_mem _ hc)
    unfold feedE feedA
    rw [h1]
    exact ⟨h2.1, by simpa using h2.2⟩
def introB : List Int := [93, 80, 88, 94, 95]
theorem intro_all : ∀ k : Nat, k < 5 → ∃ c, introB[k]? = some c ∧ feedE E.zero [27, c] = E.str ∧ feedA E.zero [27, c] = [] ∧ 0 ≤ c ∧ c ≤ 255
  | 0, _ => ⟨93, rfl, by kernel_rfl, by kernel_rfl, by decide, by decide⟩
  | 1, _ => ⟨80, rfl, by kernel_rfl, by kernel_rfl, by decide, by decide⟩
  | 2, _ => ⟨88, rfl, by kernel_rfl, by kernel_rfl, by decide, by decide⟩
  | 3, _ => ⟨94, rfl, by kernel_rfl, by kernel_rfl, by decide, by decide⟩
  | 4, _ => ⟨95, rfl, by kernel_rfl, by kernel_rfl, by decide, by decide⟩
  | k + 5, h => by omega
def ends : List (List Int) := [[7], [24], [26], [27, 92], [27, 120, 7], [27, 27, 92]]
theorem ends_all : ∀ k : Nat, k < 6 → ∃ bs, ends[k]? = some bs ∧ feedE E.str bs = E.zero ∧ feedA E.str bs = [] ∧ bs.length ≤ 3 ∧ okBytes bs = true
  | 0, _ => ⟨_, rfl, by kernel_rfl, by kernel_rfl, by decide, by decide⟩
  | 1, _ => ⟨_, rfl, by kernel_rfl, by kernel_rfl, by decide, by decide⟩
  | 2, _ => ⟨_, rfl, by kernel_rfl, by kernel_rfl, by decide, by decide⟩
  | 3, _ => ⟨_, rfl, by kernel_rfl, by kernel_rfl, by decide, by decide⟩
  | 4, _ => ⟨_, rfl, by kernel_rfl, by kernel_rfl, by decide, by decide⟩
  | 5, _ => ⟨_, rfl, by kernel_rfl, by kernel_rfl, by decide, by decide⟩
  | k + 6, h => by omega
theorem sign_e : feedE E.zero [97] = E.zero := by kernel_rfl
theorem sign_a : feedA E.zero [97] = [⟨1, 97, []⟩] := by kernel_rfl
end Go.Proofs.Ytgpjphecgcfikaa
