/-
  The walk of UtfdTells: for every row of bytes, byte and number the call answers true and writes nothing that was there.
-/
import Derived.Test.YtijjkpaagkfiiaaLaw
import Derived.Test.YtijjkpaagkfiiaaRefPut
import Derived.Deep.RegionHeldLaw
namespace Go.Proofs.Ytijjkpaagkfiiaa
open Go.RowKit

def TellsRel (w : World) (C len : Nat) (i : Value) (w' : World) : Prop :=
  ∃ (k : Nat) (s : U), i = .int .i64 k ∧ k ≤ len ∧ s.Ok ∧ Held w' C 25 (stateCells s) ∧ Below w.heap.size w w'

theorem bytes_S {w : World} {b off C : Nat} {z : Int} {s : U} (hx : w.cell? ⟨b, off, none⟩ = some (.int .u8 z)) (h : Held w C 25 (stateCells s)) :
    w.cell? ⟨b, off, none⟩ = some (.int .u8 z) ∧ w.cell? ⟨C, 0, none⟩ = some (.int .i64 s.n) ∧ w.cell? ⟨C, 1, none⟩ = some (.int .i64 s.m) ∧ w.cell? ⟨C, 2, none⟩ = some (.int .i64 s.g) := ⟨hx, state_S h⟩
theorem two_S {w : World} {T V : Nat} {s : U} (h : Held w T 25 (stateCells s)) (k : Held w V 25 (stateCells s)) :
    w.cell? ⟨T, 0, none⟩ = some (.int .i64 s.n) ∧ w.cell? ⟨T, 1, none⟩ = some (.int .i64 s.m) ∧ w.cell? ⟨T, 2, none⟩ = some (.int .i64 s.g) ∧ w.cell? ⟨V, 0, none⟩ = some (.int .i64 s.n) ∧ w.cell? ⟨V, 1, none⟩ = some (.int .i64 s.m) ∧ w.cell? ⟨V, 2, none⟩ = some (.int .i64 s.g) :=
  ⟨(state_S h).1, (state_S h).2.1, (state_S h).2.2, state_S k⟩

set_option maxRecDepth 100000 in
set_option maxHeartbeats 40000000 in
theorem tells_walk (A : Option Addr) (len cap : Nat) (b r : Int) (w : World) (ha : ByteArg w A len) (hl : len ≤ 9223372036854775807) (b0 : 0 ≤ b) (b1 : b ≤ 255) :
    Calls Try.prog 5 #[.slice A len cap, .int .u8 b, .int .i64 r] w fun e w' => e = .returned (.bool true) ∧ Below w.heap.size w w' := by
  by_cases h500 : 500 < len
  · go_enter Try.func5, Try.ntmps5
    go_wp2_with (go_at_call 9; refine (awake_any _).mono ?_; rintro e w1 ⟨rfl, hb1⟩)
    go_ret
    exact ⟨rfl, hb1⟩
  · have HA := Lib.hid ha; clear ha
    have hlen : (len : Int) ≤ 500 := by omega
    go_enter Try.func5, Try.ntmps5
    go_wp2_with fail
    go_loopw [8] (TellsRel w w.heap.size len) (fun i _ => len - (intOf i).toNat)
    case atStart => exact ⟨0, U.zero, rfl, Nat.zero_le _, U.zero_ok, Held.new _ _ _, (Below.refl _ _).alloc (Nat.le_refl _) _⟩
    case round =>
      obtain ⟨k, s, rfl, hk, hok, hst, hbw⟩ := hrel
      have hCr := hst.lt
      by_cases hlt : k < len
      · obtain ⟨b', off, z, rfl, hb, hz, z0, z1⟩ := HA.out k hlt
        have hki : (k : Int) < (len : Int) := by omega
        have hzr : wr.cell? ⟨b', off + k, none⟩ = some (.int .u8 z) := (hbw.cell (p := ⟨b', off + k, none⟩) hb).trans hz
        have hbr : b' < wr.heap.size := by omega
        have hzwr : wr.cell? ⟨b', off + k, none⟩ = some (.int .u8 z) := hzr
        clear hzr
        have hstwr := hst
        have hbwr := hbr
        have hCwr := hCr
        go_upto_region 7 with fail
        go_cut [9, 10] (SteppedAt wr (nx s z) (nxR s z))
        case first =>
          have hzD : wr.drew.cell? ⟨b', off + k, none⟩ = some (.int .u8 z) := hzwr
          have hstD : Held wr.drew w.heap.size 25 (stateCells s) := hstwr
          have hzA : (wr.alloc (.cells #[.int .i64 0, .int .i64 0, .int .i64 0] 25)).drew.cell? ⟨b', off + k, none⟩ = some (.int .u8 z) := (World.cell?_alloc_lt wr _ ⟨b', off + k, none⟩ hbwr).trans hzwr
          have hstA : Held (wr.alloc (.cells #[.int .i64 0, .int .i64 0, .int .i64 0] 25)).drew w.heap.size 25 (stateCells s) := hstwr.alloc _
          go_region_held3 (fun w' => w'.cell? ⟨b', off + k, none⟩ = some (.int .u8 z) ∧ w'.cell? ⟨w.heap.size, 0, none⟩ = some (.int .i64 s.n) ∧ w'.cell? ⟨w.heap.size, 1, none⟩ = some (.int .i64 s.m) ∧ w'.cell? ⟨w.heap.size, 2, none⟩ = some (.int .i64 s.g))
            (first
              | with_reducible exact bytes_S hzD hstD
              | with_reducible exact bytes_S hzA hstA
              | with_reducible exact bytes_S yB zC
              | with_reducible exact bytes_S ((World.cell?_alloc_lt _ _ _ yL).trans yB) (zC.alloc _)
              | with_reducible exact bytes_S ((cell_set3 (Nat.ne_of_lt hbwr)).trans yB) (zC.far3 (Nat.ne_of_lt hCwr) _ _ _)
              | fail)
            (first
              | (go_at_call 7
                 (with_reducible refine (step_any s _ wr.drew hok z0 z1).mono ?_)
                 rintro e w1 ⟨v, rfl, hv, hb1⟩
                 have hb1' : Below wr.heap.size wr w1 := ((Below.refl _ wr).drew).trans hb1
                 have yB : w1.cell? ⟨b', off + k, none⟩ = some (.int .u8 z) := (hb1'.cell (p := ⟨b', off + k, none⟩) hbwr).trans hzwr
                 have yL : (⟨b', off + k, none⟩ : Addr).block < w1.heap.size := Nat.lt_of_lt_of_le hbwr hb1'.size
                 have zC : Held w1 w.heap.size 25 (stateCells s) := hstwr.below hb1' hCwr
                 have fin : Hid (SteppedAt wr (nx s z) (nxR s z) _ v _) := stepped_after hv hb1')
              | (go_at_call 7
                 (with_reducible refine (step_any s _ _ hok z0 z1).mono ?_)
                 rintro e w1 ⟨v, rfl, hv, hb1⟩
                 have hb1' : Below wr.heap.size wr w1 := (((Below.refl _ wr).alloc (Nat.le_refl _) _).drew).trans (hb1.mono (by simp))
                 have yB : w1.cell? ⟨b', off + k, none⟩ = some (.int .u8 z) := (hb1'.cell (p := ⟨b', off + k, none⟩) hbwr).trans hzwr
                 have yL : (⟨b', off + k, none⟩ : Addr).block < w1.heap.size := Nat.lt_of_lt_of_le hbwr hb1'.size
                 have zC : Held w1 w.heap.size 25 (stateCells s) := hstwr.below hb1' hCwr
                 have tT : Held w1 wr.heap.size 25 #[.int .i64 0, .int .i64 0, .int .i64 0] := Held.below (w := (wr.alloc _).drew) (Held.new _ _ _) hb1 (by simp)
                 have t0 : w1.cell? ⟨wr.heap.size, 0, none⟩ = some (.int .i64 0) := (tT.cell 0).trans rfl
                 have t1 : w1.cell? ⟨wr.heap.size, 1, none⟩ = some (.int .i64 0) := (tT.cell 1).trans rfl
                 have t2 : w1.cell? ⟨wr.heap.size, 2, none⟩ = some (.int .i64 0) := (tT.cell 2).trans rfl
                 have tf := tT.frozen
                 have fin : Hid (SteppedAt wr (nx s z) (nxR s z) _ v _) := stepped_ahead (by simp) hv hb1' tT))
          all_goals (go_wp2_with fail; go_meet; exact fin)
        case rest =>
          obtain ⟨wp, rfl⟩ : ∃ wp : World, wp = wc := ⟨_, rfl⟩
          obtain ⟨T, rfl, hTs, hTr, hTb, hTn, hTa⟩ := hcut
          have hzwp : wp.cell? ⟨b', off + k, none⟩ = some (.int .u8 z) := (hTb.cell (p := ⟨b', off + k, none⟩) hbwr).trans hzwr
          have hstwp : Held wp w.heap.size 25 (stateCells s) := hst.below hTb hCr
          have hbwp : b' < wp.heap.size := Nat.lt_of_lt_of_le hbwr hTb.size
          have hCwp : w.heap.size < wp.heap.size := Nat.lt_of_lt_of_le hCwr hTb.size
          have hbw1 : Below w.heap.size w wp := hbw.trans (hTb.mono hbw.size)
          have hTlt := hTs.lt
          clear hzwr hstwr hst
          go_upto_region 8 with fail
          go_cut [11, 12] (SteppedAt wp (nx s z) (nxR s z))
          case first =>
            have hzD : wp.drew.cell? ⟨b', off + k, none⟩ = some (.int .u8 z) := hzwp
            have hstD : Held wp.drew w.heap.size 25 (stateCells s) := hstwp
            have hzA : (wp.alloc (.cells #[.int .i64 0, .int .i64 0, .int .i64 0] 25)).drew.cell? ⟨b', off + k, none⟩ = some (.int .u8 z) := (World.cell?_alloc_lt wp _ ⟨b', off + k, none⟩ hbwp).trans hzwp
            have hstA : Held (wp.alloc (.cells #[.int .i64 0, .int .i64 0, .int .i64 0] 25)).drew w.heap.size 25 (stateCells s) := hstwp.alloc _
            go_region_held3 (fun w' => w'.cell? ⟨b', off + k, none⟩ = some (.int .u8 z) ∧ w'.cell? ⟨w.heap.size, 0, none⟩ = some (.int .i64 s.n) ∧ w'.cell? ⟨w.heap.size, 1, none⟩ = some (.int .i64 s.m) ∧ w'.cell? ⟨w.heap.size, 2, none⟩ = some (.int .i64 s.g))
              (first
                | with_reducible exact bytes_S hzD hstD
                | with_reducible exact bytes_S hzA hstA
                | with_reducible exact bytes_S yB zC
                | with_reducible exact bytes_S ((World.cell?_alloc_lt _ _ _ yL).trans yB) (zC.alloc _)
                | with_reducible exact bytes_S ((cell_set3 (Nat.ne_of_lt hbwp)).trans yB) (zC.far3 (Nat.ne_of_lt hCwp) _ _ _)
                | fail)
              (first
                | (go_at_call 11
                   (with_reducible refine (utf_any s _ wp.drew hok z0 z1).mono ?_)
                   rintro e w1 ⟨v, rfl, hv, hb1⟩
                   have hb1' : Below wp.heap.size wp w1 := ((Below.refl _ wp).drew).trans hb1
                   have yB : w1.cell? ⟨b', off + k, none⟩ = some (.int .u8 z) := (hb1'.cell (p := ⟨b', off + k, none⟩) hbwp).trans hzwp
                   have yL : (⟨b', off + k, none⟩ : Addr).block < w1.heap.size := Nat.lt_of_lt_of_le hbwp hb1'.size
                   have zC : Held w1 w.heap.size 25 (stateCells s) := hstwp.below hb1' hCwp
                   have fin : Hid (SteppedAt wp (nx s z) (nxR s z) _ v _) := stepped_after hv hb1')
                | (go_at_call 11
                   (with_reducible refine (utf_any s _ _ hok z0 z1).mono ?_)
                   rintro e w1 ⟨v, rfl, hv, hb1⟩
                   have hb1' : Below wp.heap.size wp w1 := (((Below.refl _ wp).alloc (Nat.le_refl _) _).drew).trans (hb1.mono (by simp))
                   have yB : w1.cell? ⟨b', off + k, none⟩ = some (.int .u8 z) := (hb1'.cell (p := ⟨b', off + k, none⟩) hbwp).trans hzwp
                   have yL : (⟨b', off + k, none⟩ : Addr).block < w1.heap.size := Nat.lt_of_lt_of_le hbwp hb1'.size
                   have zC : Held w1 w.heap.size 25 (stateCells s) := hstwp.below hb1' hCwp
                   have tT : Held w1 wp.heap.size 25 #[.int .i64 0, .int .i64 0, .int .i64 0] := Held.below (w := (wp.alloc _).drew) (Held.new _ _ _) hb1 (by simp)
                   have t0 : w1.cell? ⟨wp.heap.size, 0, none⟩ = some (.int .i64 0) := (tT.cell 0).trans rfl
                   have t1 : w1.cell? ⟨wp.heap.size, 1, none⟩ = some (.int .i64 0) := (tT.cell 1).trans rfl
                   have t2 : w1.cell? ⟨wp.heap.size, 2, none⟩ = some (.int .i64 0) := (tT.cell 2).trans rfl
                   have tf := tT.frozen
                   have fin : Hid (SteppedAt wp (nx s z) (nxR s z) _ v _) := stepped_ahead (by simp) hv hb1' tT))
            all_goals (go_wp2_with fail; go_meet; exact fin)
          case rest =>
            obtain ⟨V, rfl, hVs, hVr, hVb, hVn, hVa⟩ := hcut
            have hzz := hVb.size
            have hCc : Held wc w.heap.size 25 (stateCells s) := hstwp.below hVb hCwp
            have hTc : Held wc T 25 (stateCells (nx s z)) := hTs.below hVb hTlt
            have hTrc : Runes wc wr.heap.size u10 (nxR s z) := own_below hTr hVb (Nat.le_refl _)
            have hbw2 : Below w.heap.size w wc := hbw1.trans (hVb.mono hbw1.size)
            have hnok := nx_ok s z hok
            obtain ⟨s', es⟩ : ∃ s', s' = nx s z := ⟨_, rfl⟩
            obtain ⟨r', er⟩ : ∃ r', r' = nxR s z := ⟨_, rfl⟩
            rw [← es] at hTc hVs hnok
            rw [← er] at hTrc hVr
            clear es er hTs hTr hTa hVa
            have hVlt := hVs.lt
            have hTclt := hTc.lt
            go_upto_region 9 with fail
            go_cut [62] (fun t wx => t = .bool false ∧ Below wc.heap.size wc wx)
            case first =>
              have hTD : Held wc.drew T 25 (stateCells s') := hTc
              have hVD : Held wc.drew V 25 (stateCells s') := hVs
              have hTrD : Runes wc.drew wr.heap.size u10 r' := hTrc
              have hVrD : Runes wc.drew wp.heap.size u12 r' := hVr
              go_region_held3 (fun w' => w'.cell? ⟨T, 0, none⟩ = some (.int .i64 s'.n) ∧ w'.cell? ⟨T, 1, none⟩ = some (.int .i64 s'.m) ∧ w'.cell? ⟨T, 2, none⟩ = some (.int .i64 s'.g) ∧ w'.cell? ⟨V, 0, none⟩ = some (.int .i64 s'.n) ∧ w'.cell? ⟨V, 1, none⟩ = some (.int .i64 s'.m) ∧ w'.cell? ⟨V, 2, none⟩ = some (.int .i64 s'.g))
                (first
                  | with_reducible exact two_S hTD hVD
                  | with_reducible exact two_S hT1 hV1
                  | with_reducible exact two_S hT2 hV2
                  | fail)
                (first
                  | (go_at_call_of 10 (u10)
                     (with_reducible refine (same_any u10 u12 r' wr.heap.size wp.heap.size wc.drew hTrD hVrD).mono ?_)
                     rintro e w' ⟨rfl, rfl⟩)
                  | (go_at_call 8
                     (with_reducible refine (end_any s'.n s'.m s'.g wc.drew).mono ?_)
                     rintro e wE ⟨vE, rfl, hvE, hbE⟩
                     have hb1 : Below wc.heap.size wc wE := ((Below.refl _ wc).drew).trans hbE
                     have hT1 : Held wE T 25 (stateCells s') := hTc.below hb1 hTclt
                     have hV1 : Held wE V 25 (stateCells s') := hVs.below hb1 hVlt)
                  | (go_at_call 12
                     (with_reducible refine (refEnd_any s'.n s'.m s'.g wc.drew).mono ?_)
                     rintro e wR ⟨vR, rfl, hvR, hbR⟩
                     have hb1 : Below wc.heap.size wc wR := ((Below.refl _ wc).drew).trans hbR
                     have hT1 : Held wR T 25 (stateCells s') := hTc.below hb1 hTclt
                     have hV1 : Held wR V 25 (stateCells s') := hVs.below hb1 hVlt)
                  | (go_at_call 12
                     (with_reducible refine (refEnd_any s'.n s'.m s'.g wE).mono ?_)
                     rintro e wR ⟨vR, rfl, hvR, hbR⟩
                     have hb2 : Below wc.heap.size wc wR := hb1.trans (hbR.mono hb1.size)
                     have hT2 : Held wR T 25 (stateCells s') := hTc.below hb2 hTclt
                     have hV2 : Held wR V 25 (stateCells s') := hVs.below hb2 hVlt
                     have fE : Runes wR wc.drew.heap.size vE (enR s'.n) := own_below hvE hbR (Nat.le_refl _)
                     have fR : Runes wR wE.heap.size vR (enR s'.n) := hvR)
                  | (go_at_call 8
                     (with_reducible refine (end_any s'.n s'.m s'.g wR).mono ?_)
                     rintro e wE ⟨vE, rfl, hvE, hbE⟩
                     have hb2 : Below wc.heap.size wc wE := hb1.trans (hbE.mono hb1.size)
                     have hT2 : Held wE T 25 (stateCells s') := hTc.below hb2 hTclt
                     have hV2 : Held wE V 25 (stateCells s') := hVs.below hb2 hVlt
                     have fE : Runes wE wR.heap.size vE (enR s'.n) := hvE
                     have fR : Runes wE wc.drew.heap.size vR (enR s'.n) := own_below hvR hbE (Nat.le_refl _))
                  | (go_at_call 10
                     (with_reducible refine (same_any vE vR (enR s'.n) _ _ _ fE fR).mono ?_)
                     rintro e w' ⟨rfl, rfl⟩)
                  | fail)
              all_goals (go_wp2_with fail; go_meet; exact ⟨rfl, hb2⟩)
            case rest =>
              obtain ⟨rfl, hbx⟩ := hcut
              have hCx : Held wc w.heap.size 25 (stateCells s) := hCc.below hbx (by omega)
              have hTx : Held wc T 25 (stateCells s') := hTc.below hbx hTclt
              have hbw3 : Below w.heap.size w wc := hbw2.trans (hbx.mono hbw2.size)
              have hCT : w.heap.size ≠ T := by omega
              have q0 : wc.cell? ⟨w.heap.size, 0, none⟩ = some (.int .i64 s.n) := (hCx.cell 0).trans rfl
              have q1 : wc.cell? ⟨w.heap.size, 1, none⟩ = some (.int .i64 s.m) := (hCx.cell 1).trans rfl
              have q2 : wc.cell? ⟨w.heap.size, 2, none⟩ = some (.int .i64 s.g) := (hCx.cell 2).trans rfl
              have qf := hCx.frozen
              have t0 : wc.cell? ⟨T, 0, none⟩ = some (.int .i64 s'.n) := (hTx.cell 0).trans rfl
              have t1 : wc.cell? ⟨T, 1, none⟩ = some (.int .i64 s'.m) := (hTx.cell 1).trans rfl
              have t2 : wc.cell? ⟨T, 2, none⟩ = some (.int .i64 s'.g) := (hTx.cell 2).trans rfl
              go_wp2_with fail
              go_roundw
              case rel => exact ⟨k + 1, s', by go_num, hlt, hnok, Held.set3 hCx _ _ _, below_set3 hbw3 (Nat.le_refl _) _ _ _⟩
              case measure => simp [intOf]; omega
      · have s0 : wr.cell? ⟨w.heap.size, 0, none⟩ = some (.int .i64 s.n) := (hst.cell 0).trans rfl
        have s1 : wr.cell? ⟨w.heap.size, 1, none⟩ = some (.int .i64 s.m) := (hst.cell 1).trans rfl
        have s2 : wr.cell? ⟨w.heap.size, 2, none⟩ = some (.int .i64 s.g) := (hst.cell 2).trans rfl
        go_wp2_with fail
        refine (step_any s b _ hok b0 b1).mono ?_
        rintro e w1 ⟨v1, rfl, hv1, hb1⟩
        have hC1 : Held w1 w.heap.size 25 (stateCells s) := hst.below hb1 hCr
        clear s0 s1 s2
        have hC1lt := hC1.lt
        have s0 : w1.cell? ⟨w.heap.size, 0, none⟩ = some (.int .i64 s.n) := (hC1.cell 0).trans rfl
        have s1 : w1.cell? ⟨w.heap.size, 1, none⟩ = some (.int .i64 s.m) := (hC1.cell 1).trans rfl
        have s2 : w1.cell? ⟨w.heap.size, 2, none⟩ = some (.int .i64 s.g) := (hC1.cell 2).trans rfl
        go_wp2_with fail
        refine (utf_any s b _ hok b0 b1).mono ?_
        rintro e w2 ⟨v2, rfl, hv2, hb2⟩
        clear s0 s1 s2
        go_wp2_with fail
        have hT2 : Held w2 w1.heap.size 25 (stateCells (nx s b)) := (Held.new w1 25 (stateCells (nx s b))).below hb2 (by simp)
        have gW2 : Below w.heap.size w w2 := (hbw.trans (hb1.mono hbw.size)).trans ((((Below.refl _ w1).alloc (Nat.le_refl _) _).mono (Nat.le_trans hbw.size hb1.size)).trans (hb2.mono (by have := hbw.size; have := hb1.size; simp; omega)))
        have hT3 : Held (w2.alloc (.cells (stateCells (nx s b)) 25)) w1.heap.size 25 (stateCells (nx s b)) := hT2.alloc _
        have hV3 : Held (w2.alloc (.cells (stateCells (nx s b)) 25)) w2.heap.size 25 (stateCells (nx s b)) := Held.new _ _ _
        have hv13 : Runes (w2.alloc (.cells (stateCells (nx s b)) 25)) 0 v1 (nxR s b) := own_base (World.ownsRow.alloc (own_below (World.ownsRow.alloc hv1 _) hb2 (Nat.le_refl _)) _) (Nat.zero_le _)
        have hv23 : Runes (w2.alloc (.cells (stateCells (nx s b)) 25)) 0 v2 (nxR s b) := own_base (World.ownsRow.alloc hv2 _) (Nat.zero_le _)
        have gW3 : Below w.heap.size w (w2.alloc (.cells (stateCells (nx s b)) 25)) := gW2.alloc gW2.size _
        obtain ⟨W, hW⟩ : ∃ W, W = w2.alloc (.cells (stateCells (nx s b)) 25) := ⟨_, rfl⟩
        rw [← hW] at hT3 hV3 hv13 hv23 gW3
        unfold stateCells at hW
        rw [← hW]
        clear hW
        have x0 : W.cell? ⟨w1.heap.size, 0, none⟩ = some (.int .i64 (nx s b).n) := (hT3.cell 0).trans rfl
        have x1 : W.cell? ⟨w1.heap.size, 1, none⟩ = some (.int .i64 (nx s b).m) := (hT3.cell 1).trans rfl
        have x2 : W.cell? ⟨w1.heap.size, 2, none⟩ = some (.int .i64 (nx s b).g) := (hT3.cell 2).trans rfl
        have y0 : W.cell? ⟨w2.heap.size, 0, none⟩ = some (.int .i64 (nx s b).n) := (hV3.cell 0).trans rfl
        have y1 : W.cell? ⟨w2.heap.size, 1, none⟩ = some (.int .i64 (nx s b).m) := (hV3.cell 1).trans rfl
        have y2 : W.cell? ⟨w2.heap.size, 2, none⟩ = some (.int .i64 (nx s b).g) := (hV3.cell 2).trans rfl
        have gW := gW3
        have hv1D : Runes W.drew 0 v1 (nxR s b) := hv13
        have hv2D : Runes W.drew 0 v2 (nxR s b) := hv23
        obtain ⟨n, hq, n0, n1⟩ : ∃ n : Int, bits .and .i64 r 2097151 = n ∧ 0 ≤ n ∧ n < 2097152 := ⟨r % 2097152, i64_and21 r, by omega, by omega⟩
        have hn32 : IntKind.i32.wrap n = n := by rw [IntKind.wrap_i32]; omega
        obtain ⟨ρ, hρ, p0, p1⟩ : ∃ ρ : Int, IntKind.i32.wrap r = ρ ∧ -2147483648 ≤ ρ ∧ ρ ≤ 2147483647 := ⟨_, rfl, by rw [IntKind.wrap_i32]; omega, by rw [IntKind.wrap_i32]; omega⟩
        have m0 : -2147483648 ≤ n := by omega
        have m1 : n ≤ 2147483647 := by omega
        clear hT2 gW2 hv13 hv23 gW3 hb1 hb2 hv1 hv2 hC1 hst hbw hCr hlt hC1lt
        have hTD : Held W.drew w1.heap.size 25 (stateCells (nx s b)) := hT3
        have hVD : Held W.drew w2.heap.size 25 (stateCells (nx s b)) := hV3
        have hTlt := hT3.lt
        have hVlt := hV3.lt
        go_region_held_law (fun w' => w'.cell? ⟨w1.heap.size, 0, none⟩ = some (.int .i64 (nx s b).n) ∧ w'.cell? ⟨w1.heap.size, 1, none⟩ = some (.int .i64 (nx s b).m) ∧ w'.cell? ⟨w1.heap.size, 2, none⟩ = some (.int .i64 (nx s b).g) ∧ w'.cell? ⟨w2.heap.size, 0, none⟩ = some (.int .i64 (nx s b).n) ∧ w'.cell? ⟨w2.heap.size, 1, none⟩ = some (.int .i64 (nx s b).m) ∧ w'.cell? ⟨w2.heap.size, 2, none⟩ = some (.int .i64 (nx s b).g))
          (first
             | with_reducible exact two_S hTD hVD
             | with_reducible exact e1
             | with_reducible exact e2
             | with_reducible exact e3
             | with_reducible exact e4
             | with_reducible exact e5
             | fail)
          ((first
             | (go_at_call 10
                (with_reducible refine (same_any v1 v2 (nxR s b) 0 0 W.drew hv1D hv2D).mono ?_)
                rintro e w' ⟨rfl, rfl⟩)
             | (go_at_call 13
                (with_reducible refine (put_any ρ W.drew p0 p1).mono ?_)
                rintro e wa ⟨va, rfl, hva, hba⟩
                have ca : (convert 32 9 va).run Try.prog wa = .ok (.string (bytesBA (putB ρ))) wa := run_bytes (P := Try.prog) hva Try.underlying32 Try.underlying5 Try.underlying9
                have g1 : Below W.heap.size W wa := ((Below.refl _ W).drew).trans hba
                have e1 := two_S (hT3.below g1 hTlt) (hV3.below g1 hVlt))
             | (go_at_call 14
                (with_reducible refine (refPut_any ρ W.drew p0 p1).mono ?_)
                rintro e wb ⟨vb, rfl, hvb, hbb⟩
                have cb : (convert 32 9 vb).run Try.prog wb = .ok (.string (bytesBA (putB ρ))) wb := run_bytes (P := Try.prog) hvb Try.underlying32 Try.underlying5 Try.underlying9
                have g1 : Below W.heap.size W wb := ((Below.refl _ W).drew).trans hbb
                have e1 := two_S (hT3.below g1 hTlt) (hV3.below g1 hVlt))
             | (go_at_call 14
                (with_reducible refine (refPut_any ρ wa p0 p1).mono ?_)
                rintro e wb ⟨vb, rfl, hvb, hbb⟩
                have cb : (convert 32 9 vb).run Try.prog wb = .ok (.string (bytesBA (putB ρ))) wb := run_bytes (P := Try.prog) hvb Try.underlying32 Try.underlying5 Try.underlying9
                have ca2 : (convert 32 9 va).run Try.prog wb = .ok (.string (bytesBA (putB ρ))) wb := run_bytes (P := Try.prog) (own_below hva hbb (Nat.le_refl _)) Try.underlying32 Try.underlying5 Try.underlying9
                have g2 : Below W.heap.size W wb := g1.trans (hbb.mono g1.size)
                have e2 := two_S (hT3.below g2 hTlt) (hV3.below g2 hVlt))
             | (go_at_call 13
                (with_reducible refine (put_any ρ wb p0 p1).mono ?_)
                rintro e wa ⟨va, rfl, hva, hba⟩
                have ca : (convert 32 9 va).run Try.prog wa = .ok (.string (bytesBA (putB ρ))) wa := run_bytes (P := Try.prog) hva Try.underlying32 Try.underlying5 Try.underlying9
                have cb2 : (convert 32 9 vb).run Try.prog wa = .ok (.string (bytesBA (putB ρ))) wa := run_bytes (P := Try.prog) (own_below hvb hba (Nat.le_refl _)) Try.underlying32 Try.underlying5 Try.underlying9
                have g2 : Below W.heap.size W wa := g1.trans (hba.mono g1.size)
                have e2 := two_S (hT3.below g2 hTlt) (hV3.below g2 hVlt))
             | (go_at_call 13
                (with_reducible refine (put_any n wb m0 m1).mono ?_)
                rintro e wx ⟨vx, rfl, hvx, hbx⟩
                have cx : (convert 32 9 vx).run Try.prog wx = .ok (.string (bytesBA (putB n))) wx := run_bytes (P := Try.prog) hvx Try.underlying32 Try.underlying5 Try.underlying9
                have g3 : Below W.heap.size W wx := g2.trans (hbx.mono g2.size)
                have e3 := two_S (hT3.below g3 hTlt) (hV3.below g3 hVlt))
             | (go_at_call 14
                (with_reducible refine (refPut_any n wb m0 m1).mono ?_)
                rintro e wy ⟨vy, rfl, hvy, hby⟩
                have cy : (convert 32 9 vy).run Try.prog wy = .ok (.string (bytesBA (putB n))) wy := run_bytes (P := Try.prog) hvy Try.underlying32 Try.underlying5 Try.underlying9
                have g3 : Below W.heap.size W wy := g2.trans (hby.mono g2.size)
                have e3 := two_S (hT3.below g3 hTlt) (hV3.below g3 hVlt))
             | (go_at_call 13
                (with_reducible refine (put_any n wa m0 m1).mono ?_)
                rintro e wx ⟨vx, rfl, hvx, hbx⟩
                have cx : (convert 32 9 vx).run Try.prog wx = .ok (.string (bytesBA (putB n))) wx := run_bytes (P := Try.prog) hvx Try.underlying32 Try.underlying5 Try.underlying9
                have g3 : Below W.heap.size W wx := g2.trans (hbx.mono g2.size)
                have e3 := two_S (hT3.below g3 hTlt) (hV3.below g3 hVlt))
             | (go_at_call 14
                (with_reducible refine (refPut_any n wa m0 m1).mono ?_)
                rintro e wy ⟨vy, rfl, hvy, hby⟩
                have cy : (convert 32 9 vy).run Try.prog wy = .ok (.string (bytesBA (putB n))) wy := run_bytes (P := Try.prog) hvy Try.underlying32 Try.underlying5 Try.underlying9
                have g3 : Below W.heap.size W wy := g2.trans (hby.mono g2.size)
                have e3 := two_S (hT3.below g3 hTlt) (hV3.below g3 hVlt))
             | (go_at_call 14
                (with_reducible refine (refPut_any n wx m0 m1).mono ?_)
                rintro e wy ⟨vy, rfl, hvy, hby⟩
                have cy : (convert 32 9 vy).run Try.prog wy = .ok (.string (bytesBA (putB n))) wy := run_bytes (P := Try.prog) hvy Try.underlying32 Try.underlying5 Try.underlying9
                have cx2 : (convert 32 9 vx).run Try.prog wy = .ok (.string (bytesBA (putB n))) wy := run_bytes (P := Try.prog) (own_below hvx hby (Nat.le_refl _)) Try.underlying32 Try.underlying5 Try.underlying9
                have g4 : Below W.heap.size W wy := g3.trans (hby.mono g3.size)
                have e4 := two_S (hT3.below g4 hTlt) (hV3.below g4 hVlt))
             | (go_at_call 13
                (with_reducible refine (put_any n wy m0 m1).mono ?_)
                rintro e wx ⟨vx, rfl, hvx, hbx⟩
                have cx : (convert 32 9 vx).run Try.prog wx = .ok (.string (bytesBA (putB n))) wx := run_bytes (P := Try.prog) hvx Try.underlying32 Try.underlying5 Try.underlying9
                have cy2 : (convert 32 9 vy).run Try.prog wx = .ok (.string (bytesBA (putB n))) wx := run_bytes (P := Try.prog) (own_below hvy hbx (Nat.le_refl _)) Try.underlying32 Try.underlying5 Try.underlying9
                have g4 : Below W.heap.size W wx := g3.trans (hbx.mono g3.size)
                have e4 := two_S (hT3.below g4 hTlt) (hV3.below g4 hVlt))
             | (go_at_call 9
                refine (awake_any _).mono ?_
                rintro e w9 ⟨rfl, hb9⟩
                have g5 : Below W.heap.size W w9 := g4.trans (hb9.mono g4.size)
                have e5 := two_S (hT3.below g5 hTlt) (hV3.below g5 hVlt)
                have fin : Below w.heap.size w w9 := gW.trans (g5.mono gW.size))
             | fail))
        all_goals (go_wp2; go_ret; exact ⟨rfl, fin⟩)
end Go.Proofs.Ytijjkpaagkfiiaa
