/-
  What told of package acts answers: the parameter, or what is otherwise. No condition.
-/
import Derived.Test.YtpcpmeihebgncaaMoved
namespace Go.Proofs.Ytpcpmeihebgncaa
open Go.RowKit
set_option maxRecDepth 100000

/-- Parameter i, or o where it is none, or 0 or below. -/
def toldF (xs : List Int) (i : Nat) (o : Int) : Int := match xs[i]? with
  | some z => if z ≤ 0 then o else min z 1048576
  | none => o

set_option maxHeartbeats 1000000 in
theorem told_any (D : Option Addr) (c : Nat) (xs : List Int) (i : Nat) (o : Int) (w : World) (hr : ReadI w (.slice D xs.length c) xs) : Calls Try.prog 56 #[.slice D xs.length c, .int .i64 i, .int .i64 o] w fun e w' => e = .returned (.int .i64 (toldF xs i o)) ∧ w = w' := by
  obtain ⟨D', c', e, hr⟩ := hr
  simp only [Value.slice.injEq] at e
  obtain ⟨rfl, _, rfl⟩ := e
  by_cases h : i < xs.length
  · obtain ⟨b, off, z, rfl, hb, hz, hc⟩ := hr i h
    have hge : ¬ ((i : Int) ≥ (xs.length : Int)) := by omega
    clear hr
    by_cases h0 : z ≤ 0
    · have et : toldF xs i o = o := by unfold toldF; rw [hz]; simp [h0]
      rw [et]
      clear et hz
      go_enter Try.func56, Try.ntmps56
      go_wp2
      go_ret
      exact ⟨rfl, rfl⟩
    · have et : toldF xs i o = min z 1048576 := by unfold toldF; rw [hz]; simp [h0]
      rw [et]
      clear et hz
      go_enter Try.func56, Try.ntmps56
      go_wp2
      all_goals
        go_ret
        refine ⟨ret_i ?_, rfl⟩
        omega
  · have hge : (i : Int) ≥ (xs.length : Int) := by omega
    have et : toldF xs i o = o := by unfold toldF; rw [List.getElem?_eq_none (by omega)]
    rw [et]
    clear et hr
    go_enter Try.func56, Try.ntmps56
    go_wp2
    go_ret
    exact ⟨rfl, rfl⟩
end Go.Proofs.Ytpcpmeihebgncaa
