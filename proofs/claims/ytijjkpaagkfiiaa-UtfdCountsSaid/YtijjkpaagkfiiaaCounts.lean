/-
  The walk of UtfdCounts: for every row of bytes the call answers true and writes nothing that was there.
-/
import Derived.Test.YtijjkpaagkfiiaaLaw
import Derived.Test.YtijjkpaagkfiiaaCount
namespace Go.Proofs.Ytijjkpaagkfiiaa
open Go.RowKit

def CountsRel (w : World) (C len : Nat) (o i : Value) (w' : World) : Prop :=
  ∃ (k : Nat) (s : U) (n : Int), i = .int .i64 k ∧ o = .int .i64 n ∧ k ≤ len ∧ Opened s n ∧ Held w' C 25 (stateCells s) ∧ Below w.heap.size w w'

theorem bytes_S {w : World} {b off C : Nat} {z : Int} {s : U} (hx : w.cell? ⟨b, off, none⟩ = some (.int .u8 z)) (h : Held w C 25 (stateCells s)) :
    w.cell? ⟨b, off, none⟩ = some (.int .u8 z) ∧ w.cell? ⟨C, 0, none⟩ = some (.int .i64 s.n) ∧ w.cell? ⟨C, 1, none⟩ = some (.int .i64 s.m) ∧ w.cell? ⟨C, 2, none⟩ = some (.int .i64 s.g) := ⟨hx, state_S h⟩

theorem end_zero (w : World) : Calls Try.prog 8 #[.agg #[.int .i64 0, .int .i64 0, .int .i64 0]] w (EndPost w []) := end_any 0 0 0 w
theorem end_pos (n m g : Int) (w : World) (h : 0 < n) : Calls Try.prog 8 #[.agg #[.int .i64 n, .int .i64 m, .int .i64 g]] w (EndPost w [65533]) := by
  have := end_any n m g w
  rwa [show enR n = [65533] by unfold enR; simp only [if_pos h]] at this
theorem zero_S {w : World} {C : Nat} (h : Held w C 25 (stateCells U.zero)) :
    w.cell? ⟨C, 0, none⟩ = some (.int .i64 0) ∧ w.cell? ⟨C, 1, none⟩ = some (.int .i64 0) ∧ w.cell? ⟨C, 2, none⟩ = some (.int .i64 0) := state_S h

set_option maxRecDepth 100000 in
set_option maxHeartbeats 1000000 in
theorem counts_walk (A : Option Addr) (len cap : Nat) (w : World) (ha : ByteArg w A len) (hl : len ≤ 9223372036854775807) :
    Calls Try.prog 4 #[.slice A len cap] w fun e w' => e = .returned (.bool true) ∧ Below w.heap.size w w' := by
  by_cases h500 : 500 < len
  · go_enter Try.func4, Try.ntmps4
    go_wp2_with (go_at_call 9; refine (awake_any _).mono ?_; rintro e w1 ⟨rfl, hb1⟩)
    go_ret
    exact ⟨rfl, hb1⟩
  · have HA := Lib.hid ha; clear ha
    have hlen : (len : Int) ≤ 500 := by omega
    go_enter Try.func4, Try.ntmps4
    go_wp2_with fail
    go_loopw [4, 15] (CountsRel w w.heap.size len) (fun _ i _ => len - (intOf i).toNat)
    case atStart => exact ⟨0, U.zero, 0, rfl, rfl, Nat.zero_le _, opened_zero, Held.new _ _ _, (Below.refl _ _).alloc (Nat.le_refl _) _⟩
    case round =>
      obtain ⟨k, s, o, rfl, rfl, hk, hop, hst, hbw⟩ := hrel
      have hCr := hst.lt
      by_cases hlt : k < len
      · obtain ⟨b, off, z, rfl, hb, hz, z0, z1⟩ := HA.out k hlt
        have hki : (k : Int) < (len : Int) := by omega
        have hzr : wr.cell? ⟨b, off + k, none⟩ = some (.int .u8 z) := (hbw.cell (p := ⟨b, off + k, none⟩) hb).trans hz
        have hbr : b < wr.heap.size := by omega
        have hok := hop.1
        go_upto_region 8 with fail
        go_cut [6, 7] (SteppedAt wr (nx s z) (nxR s z))
        case first =>
          have hzD : wr.drew.cell? ⟨b, off + k, none⟩ = some (.int .u8 z) := hzr
          have hstD : Held wr.drew w.heap.size 25 (stateCells s) := hst
          have hzA : (wr.alloc (.cells #[.int .i64 0, .int .i64 0, .int .i64 0] 25)).drew.cell? ⟨b, off + k, none⟩ = some (.int .u8 z) := (World.cell?_alloc_lt wr _ ⟨b, off + k, none⟩ hbr).trans hzr
          have hstA : Held (wr.alloc (.cells #[.int .i64 0, .int .i64 0, .int .i64 0] 25)).drew w.heap.size 25 (stateCells s) := hst.alloc _
          go_region_held3 (fun w' => w'.cell? ⟨b, off + k, none⟩ = some (.int .u8 z) ∧ w'.cell? ⟨w.heap.size, 0, none⟩ = some (.int .i64 s.n) ∧ w'.cell? ⟨w.heap.size, 1, none⟩ = some (.int .i64 s.m) ∧ w'.cell? ⟨w.heap.size, 2, none⟩ = some (.int .i64 s.g))
            (first
              | with_reducible exact bytes_S hzD hstD
              | with_reducible exact bytes_S hzA hstA
              | with_reducible exact bytes_S yB zC
              | with_reducible exact bytes_S ((World.cell?_alloc_lt _ _ _ yL).trans yB) (zC.alloc _)
              | with_reducible exact bytes_S ((cell_set3 (Nat.ne_of_lt hbr)).trans yB) (zC.far3 (Nat.ne_of_lt hCr) _ _ _)
              | fail)
            (first
              | (go_at_call 7
                 (with_reducible refine (step_any s _ wr.drew hok z0 z1).mono ?_)
                 rintro e w1 ⟨v, rfl, hv, hb1⟩
                 have hb1' : Below wr.heap.size wr w1 := ((Below.refl _ wr).drew).trans hb1
                 have yB : w1.cell? ⟨b, off + k, none⟩ = some (.int .u8 z) := (hb1'.cell (p := ⟨b, off + k, none⟩) hbr).trans hzr
                 have yL : (⟨b, off + k, none⟩ : Addr).block < w1.heap.size := Nat.lt_of_lt_of_le hbr hb1'.size
                 have zC : Held w1 w.heap.size 25 (stateCells s) := hst.below hb1' hCr
                 have fin : Hid (SteppedAt wr (nx s z) (nxR s z) _ v _) := stepped_after hv hb1')
              | (go_at_call 7
                 (with_reducible refine (step_any s _ _ hok z0 z1).mono ?_)
                 rintro e w1 ⟨v, rfl, hv, hb1⟩
                 have hb1' : Below wr.heap.size wr w1 := (((Below.refl _ wr).alloc (Nat.le_refl _) _).drew).trans (hb1.mono (by simp))
                 have yB : w1.cell? ⟨b, off + k, none⟩ = some (.int .u8 z) := (hb1'.cell (p := ⟨b, off + k, none⟩) hbr).trans hzr
                 have yL : (⟨b, off + k, none⟩ : Addr).block < w1.heap.size := Nat.lt_of_lt_of_le hbr hb1'.size
                 have zC : Held w1 w.heap.size 25 (stateCells s) := hst.below hb1' hCr
                 have tT : Held w1 wr.heap.size 25 #[.int .i64 0, .int .i64 0, .int .i64 0] := Held.below (w := (wr.alloc _).drew) (Held.new _ _ _) hb1 (by simp)
                 have t0 : w1.cell? ⟨wr.heap.size, 0, none⟩ = some (.int .i64 0) := (tT.cell 0).trans rfl
                 have t1 : w1.cell? ⟨wr.heap.size, 1, none⟩ = some (.int .i64 0) := (tT.cell 1).trans rfl
                 have t2 : w1.cell? ⟨wr.heap.size, 2, none⟩ = some (.int .i64 0) := (tT.cell 2).trans rfl
                 have tf := tT.frozen
                 have fin : Hid (SteppedAt wr (nx s z) (nxR s z) _ v _) := stepped_ahead (by simp) hv hb1' tT))
          all_goals (go_wp2_with fail; go_meet; exact fin)
        case rest =>
          obtain ⟨T, rfl, hTs, hTr, hTb, hTn, hTa⟩ := hcut
          have hzz := hTb.size
          have zC : Held wc w.heap.size 25 (stateCells s) := hst.below hTb hCr
          have hbwc : Below w.heap.size w wc := hbw.trans (hTb.mono hbw.size)
          have hT0 : wc.cell? ⟨T, 0, none⟩ = some (.int .i64 (nx s z).n) := (hTs.cell 0).trans rfl
          have hT1 : wc.cell? ⟨T, 1, none⟩ = some (.int .i64 (nx s z).m) := (hTs.cell 1).trans rfl
          have hT2 : wc.cell? ⟨T, 2, none⟩ = some (.int .i64 (nx s z).g) := (hTs.cell 2).trans rfl
          have htT := hTs.lt
          have hCT : w.heap.size ≠ T := by omega
          have hnok := nx_ok s z hok
          have hnl := nxR_len s z
          have hnz := nx_zero s z hok
          have hne := opened_end s z o hop
          have hno := opened_on s z o hop
          obtain ⟨Av, cv, hv⟩ := runes_form hTr
          subst hv
          obtain ⟨s', es⟩ : ∃ s', s' = nx s z := ⟨_, rfl⟩
          obtain ⟨r', er⟩ : ∃ r', r' = nxR s z := ⟨_, rfl⟩
          rw [← es] at hT0 hT1 hT2 hTs hnok hnz hne hno
          rw [← er] at hTr hnl hnz hno
          rw [← er]
          clear es er hTr hTa
          by_cases hn0 : s'.n = 0
          · obtain ⟨rfl, h1⟩ := hnz hn0
            have hop' := hne hn0
            clear hno hn0 hne
            have e0 : U.zero.n = 0 := rfl
            have e1 : U.zero.m = 0 := rfl
            have e2 : U.zero.g = 0 := rfl
            rw [e0] at hT0
            rw [e1] at hT1
            rw [e2] at hT2
            clear e0 e1 e2
            have l1 : decide (2 < (r'.length : Int)) = false := decide_eq_false (by omega)
            have l2 : ((r'.length : Int) == 0) = false := beq_eq_false_iff_ne.2 (by omega)
            have l3 : decide (0 < (r'.length : Int)) = true := decide_eq_true (by omega)
            have hTD : Held wc.drew T 25 (stateCells U.zero) := hTs
            go_wp2_with fail
            go_region_held3 (fun w' => w'.cell? ⟨T, 0, none⟩ = some (.int .i64 0) ∧ w'.cell? ⟨T, 1, none⟩ = some (.int .i64 0) ∧ w'.cell? ⟨T, 2, none⟩ = some (.int .i64 0))
              (first
                | with_reducible exact zero_S hTD
                | with_reducible exact zero_S hT1'
                | fail)
              (first
                | (go_at_call 8
                   (with_reducible refine (end_zero _).mono ?_)
                   rintro e w1 ⟨v, rfl, hv, hb1⟩
                   have hb1' : Below wc.heap.size wc w1 := ((Below.refl _ wc).drew).trans hb1
                   have hT1' : Held w1 T 25 (stateCells U.zero) := hTs.below hb1' htT
                   obtain ⟨A8, c8, hv8⟩ := runes_form hv
                   rw [hv8]
                   clear hv8
                   have zC1 : Held w1 w.heap.size 25 (stateCells s) := zC.below hb1' (by omega)
                   have q0 : w1.cell? ⟨w.heap.size, 0, none⟩ = some (.int .i64 s.n) := (zC1.cell 0).trans rfl
                   have q1 : w1.cell? ⟨w.heap.size, 1, none⟩ = some (.int .i64 s.m) := (zC1.cell 1).trans rfl
                   have q2 : w1.cell? ⟨w.heap.size, 2, none⟩ = some (.int .i64 s.g) := (zC1.cell 2).trans rfl
                   have qf := zC1.frozen
                   have hb2 : Below w.heap.size w w1 := hbwc.trans (hb1'.mono hbwc.size)
                   have g0 : w1.cell? ⟨T, 0, none⟩ = some (.int .i64 0) := (hT1'.cell 0).trans rfl
                   have g1 : w1.cell? ⟨T, 1, none⟩ = some (.int .i64 0) := (hT1'.cell 1).trans rfl
                   have g2 : w1.cell? ⟨T, 2, none⟩ = some (.int .i64 0) := (hT1'.cell 2).trans rfl))
            all_goals
              go_wp2_with fail
              go_roundw
              case rel => exact ⟨k + 1, U.zero, 0, by go_num, rfl, hlt, hop', Held.set3 zC1 _ _ _, below_set3 hb2 (Nat.le_refl _) _ _ _⟩
              case measure => simp [intOf]; omega
          · have hpos : 0 < s'.n := by have := hnok.1; omega
            have hle3 : s'.n ≤ 3 := hnok.2.1
            have b1 : decide (s'.n < 0) = false := decide_eq_false (by omega)
            have b2 : decide (3 < s'.n) = false := decide_eq_false (by omega)
            have b3 : (s'.n == 0) = false := beq_eq_false_iff_ne.2 (by omega)
            have b4 : decide (0 < s'.n) = true := decide_eq_true (by omega)
            have hTD : Held wc.drew T 25 (stateCells s') := hTs
            have hmin : (if 1 < s'.n then (1 : Int) else s'.n) = 1 := by split <;> omega
            clear hnz hne
            rcases hno hn0 with ⟨rfl, hop'⟩ | ⟨h1, hop'⟩
            · have hop2 := hop'.2.2 hpos
              have ho : 0 ≤ o ∧ o ≤ 2 := by
                have h1 := hop.2.1
                have h2 := hop.2.2
                have h3 := hok.1
                omega
              obtain ⟨ho0, ho2⟩ := ho
              have l5 : decide (3 < o + 1) = false := decide_eq_false (by omega)
              clear hno hop2
              go_wp2_with fail
              go_region_held3 (fun w' => w'.cell? ⟨T, 0, none⟩ = some (.int .i64 s'.n) ∧ w'.cell? ⟨T, 1, none⟩ = some (.int .i64 s'.m) ∧ w'.cell? ⟨T, 2, none⟩ = some (.int .i64 s'.g))
                (first
                  | with_reducible exact state_S hTD
                  | with_reducible exact state_S hT1'
                  | fail)
                (first
                  | (go_at_call 8
                     (with_reducible refine (end_pos s'.n s'.m s'.g _ hpos).mono ?_)
                     rintro e w1 ⟨v, rfl, hv, hb1⟩
                     have hb1' : Below wc.heap.size wc w1 := ((Below.refl _ wc).drew).trans hb1
                     have hT1' : Held w1 T 25 (stateCells s') := hTs.below hb1' htT
                     obtain ⟨A8, c8, hv8⟩ := runes_form hv
                     rw [hv8]
                     clear hv8
                     have zC1 : Held w1 w.heap.size 25 (stateCells s) := zC.below hb1' (by omega)
                     have q0 : w1.cell? ⟨w.heap.size, 0, none⟩ = some (.int .i64 s.n) := (zC1.cell 0).trans rfl
                     have q1 : w1.cell? ⟨w.heap.size, 1, none⟩ = some (.int .i64 s.m) := (zC1.cell 1).trans rfl
                     have q2 : w1.cell? ⟨w.heap.size, 2, none⟩ = some (.int .i64 s.g) := (zC1.cell 2).trans rfl
                     have qf := zC1.frozen
                     have hb2 : Below w.heap.size w w1 := hbwc.trans (hb1'.mono hbwc.size)
                     have g0 : w1.cell? ⟨T, 0, none⟩ = some (.int .i64 s'.n) := (hT1'.cell 0).trans rfl
                     have g1 : w1.cell? ⟨T, 1, none⟩ = some (.int .i64 s'.m) := (hT1'.cell 1).trans rfl
                     have g2 : w1.cell? ⟨T, 2, none⟩ = some (.int .i64 s'.g) := (hT1'.cell 2).trans rfl))
              all_goals
                go_wp2_with fail
                go_roundw
                case rel => exact ⟨k + 1, s', o + 1, by go_num, rfl, hlt, hop', Held.set3 zC1 _ _ _, below_set3 hb2 (Nat.le_refl _) _ _ _⟩
                case measure => simp [intOf]; omega
            · have l4 : 0 < r'.length := by omega
              have l6 : r'.length ≤ 2 := hnl
              clear hno h1
              go_wp2_with fail
              go_region_held3 (fun w' => w'.cell? ⟨T, 0, none⟩ = some (.int .i64 s'.n) ∧ w'.cell? ⟨T, 1, none⟩ = some (.int .i64 s'.m) ∧ w'.cell? ⟨T, 2, none⟩ = some (.int .i64 s'.g))
                (first
                  | with_reducible exact state_S hTD
                  | with_reducible exact state_S hT1'
                  | fail)
                (first
                  | (go_at_call 8
                     (with_reducible refine (end_pos s'.n s'.m s'.g _ hpos).mono ?_)
                     rintro e w1 ⟨v, rfl, hv, hb1⟩
                     have hb1' : Below wc.heap.size wc w1 := ((Below.refl _ wc).drew).trans hb1
                     have hT1' : Held w1 T 25 (stateCells s') := hTs.below hb1' htT
                     obtain ⟨A8, c8, hv8⟩ := runes_form hv
                     rw [hv8]
                     clear hv8
                     have zC1 : Held w1 w.heap.size 25 (stateCells s) := zC.below hb1' (by omega)
                     have q0 : w1.cell? ⟨w.heap.size, 0, none⟩ = some (.int .i64 s.n) := (zC1.cell 0).trans rfl
                     have q1 : w1.cell? ⟨w.heap.size, 1, none⟩ = some (.int .i64 s.m) := (zC1.cell 1).trans rfl
                     have q2 : w1.cell? ⟨w.heap.size, 2, none⟩ = some (.int .i64 s.g) := (zC1.cell 2).trans rfl
                     have qf := zC1.frozen
                     have hb2 : Below w.heap.size w w1 := hbwc.trans (hb1'.mono hbwc.size)
                     have g0 : w1.cell? ⟨T, 0, none⟩ = some (.int .i64 s'.n) := (hT1'.cell 0).trans rfl
                     have g1 : w1.cell? ⟨T, 1, none⟩ = some (.int .i64 s'.m) := (hT1'.cell 1).trans rfl
                     have g2 : w1.cell? ⟨T, 2, none⟩ = some (.int .i64 s'.g) := (hT1'.cell 2).trans rfl))
              all_goals
                go_wp2_with fail
                go_roundw
                case rel => exact ⟨k + 1, s', 1, by go_num, rfl, hlt, hop', Held.set3 zC1 _ _ _, below_set3 hb2 (Nat.le_refl _) _ _ _⟩
                case measure => simp [intOf]; omega
      · go_wp2_with fail
        refine (end_zero _).mono ?_
        rintro e w1 ⟨v, rfl, hv, hb1⟩
        go_wp2_with fail
        refine (same_any _ _ [] _ 0 _ hv (runes_nil _ _)).mono ?_
        rintro e w' ⟨rfl, rfl⟩
        go_wp2_with fail
        refine (awake_any _).mono ?_
        rintro e w2 ⟨rfl, hb2⟩
        go_wp2_with fail
        go_ret
        exact ⟨rfl, (hbw.trans (hb1.mono hbw.size)).trans (hb2.mono (Nat.le_trans hbw.size hb1.size))⟩
end Go.Proofs.Ytijjkpaagkfiiaa
