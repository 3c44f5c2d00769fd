/-
  What within, told, ownLines of package acts answer. Conditions: lines of at most a thousand cells, at most 1,050 of them.
-/
import Derived.Test.YtpcpmeihebgncaaBox
import Derived.Test.YtpcpmeihebgncaaSome
namespace Go.Proofs.Ytpcpmeihebgncaa
open Go.RowKit
set_option maxRecDepth 100000

set_option maxHeartbeats 400000 in
theorem awithin_any (n m : Int) (w : World) : Calls Try.prog 99 #[.int .i64 n, .int .i64 m] w fun e w' => e = .returned (.int .i64 (withinF n m)) ∧ w = w' := by
  go_enter Try.func99, Try.ntmps99
  go_wp2
  all_goals
    go_ret
    refine ⟨ret_i ?_, rfl⟩
    unfold withinF
    rename_i h1
    split at h1 <;> omega

set_option maxHeartbeats 400000 in
theorem aown_any (D : Option Addr) (c : Nat) (M : List (List C)) (w : World) (hr : Lines 0 w D M) (hn : M.length ≤ 1050) (hl : ∀ r ∈ M, r.length ≤ 1000) : Calls Try.prog 49 #[.slice D M.length c] w (LinesPost w M) := by
  have hm := run_makeL w M.length (by omega)
  have HS := Lib.hid (FillSt.start w M)
  have HR := Lib.hid hr
  clear hr
  go_enter Try.func49, Try.ntmps49
  go_wp2_with fail
  go_loopw [11] (FillRel w w.heap.size M) (fun i _ => M.length - (intOf i).toNat)
  case atStart => exact ⟨[], rfl, HS.out⟩
  case round =>
    obtain ⟨vs, rfl, hst⟩ := hrel
    by_cases hlt : vs.length < M.length
    · have hki : (vs.length : Int) < (M.length : Int) := by omega
      obtain ⟨b, off, E, ce, rfl, _, hbl, _, hcell, hce, hrow⟩ := (HR.out.below hst.below (Nat.le_refl _)).at vs.length hlt
      have hrn : M[vs.length].length ≤ 1000 := hl _ (List.getElem_mem _)
      have HROW := Lib.hid hrow
      clear hrow
      have HCL := Lib.hid (clone_any E ce M[vs.length] wr HROW.out hrn)
      have HST := Lib.hid hst
      have hfl := fillV_cell hst.table hlt
      have hgl := hst.table.lt
      have hfz := hst.table.frozen
      clear hst hrn
      generalize hq : M[vs.length] = q at *
      have HQ := Lib.hid hq
      clear hq
      go_wp2_with (
        go_at_call 95
        refine HCL.out.mono ?_
        rintro e w1 ⟨D1, c1, rfl, hc1, hr1, hb1⟩
        have hfl1 := (fillV_cell (HST.out.table.below hb1 hgl) hlt)
        have hfz1 := (HST.out.table.below hb1 hgl).frozen)
      go_roundw
      case rel =>
        refine ⟨vs ++ [.slice D1 q.length c1], by simp, HST.out.next (Nat.le_refl _) hb1 hlt ⟨D1, c1, ?_, ?_, ?_⟩⟩
        · rw [HQ.out]
        · rw [HQ.out]; exact hc1
        · rw [HQ.out]; exact hr1
      case measure => simp [intOf]; omega
    · have ek : vs.length = M.length := by have := hst.le; omega
      have hki : ¬ (vs.length : Int) < (M.length : Int) := by omega
      have HP := Lib.hid (hst.post (Nat.le_refl _) ek)
      clear hst ek
      go_wp2_with fail
      go_ret
      exact HP.out


end Go.Proofs.Ytpcpmeihebgncaa
