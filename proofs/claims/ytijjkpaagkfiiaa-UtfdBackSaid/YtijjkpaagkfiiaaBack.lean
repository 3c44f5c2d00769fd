/-
  The walk of UtfdBack: for every number the call answers true and writes nothing that was there.
-/
import Derived.Test.YtijjkpaagkfiiaaLaw
import Derived.Test.YtijjkpaagkfiiaaRound
namespace Go.Proofs.Ytijjkpaagkfiiaa
open Go.RowKit

/-- Behind k of the bytes bs. -/
structure BackAt (w : World) (C : Nat) (bs : List Int) (k : Nat) (got : Value) (w' : World) : Prop where
  le : k ≤ bs.length
  runes : Runes w' (C + 1) got (feedR U.zero (bs.take k))
  state : Held w' C 25 (stateCells (feedS U.zero (bs.take k)))
  below : Below C w w'
def BackRel (w : World) (C : Nat) (bs : List Int) (got i : Value) (w' : World) : Prop := ∃ k : Nat, i = .int .i64 k ∧ BackAt w C bs k got w'

theorem bytes_at {w : World} {B : Nat} {A : Option Addr} {bs : List Int} {c : Nat} (h : Bytes w B (.slice A bs.length c) bs) (k : Nat) (hk : k < bs.length) :
    ∃ g, A = some ⟨g, 0, none⟩ ∧ g < w.heap.size ∧ w.cell? ⟨g, 0 + k, none⟩ = some (.int .u8 bs[k]) := by
  obtain ⟨g, cap, hv, _, hlt⟩ := h.form (by omega)
  have hA : A = some ⟨g, 0, none⟩ := by injection hv
  subst hA
  refine ⟨g, rfl, hlt, ?_⟩
  rw [Nat.zero_add, World.ownsRow.cellAt (g := g) h k (by omega)]
  simp [u8s, List.getElem?_eq_getElem hk]

theorem bytes_S {w : World} {b off C : Nat} {z : Int} {s : U} (hx : w.cell? ⟨b, off, none⟩ = some (.int .u8 z)) (h : Held w C 25 (stateCells s)) :
    w.cell? ⟨b, off, none⟩ = some (.int .u8 z) ∧ w.cell? ⟨C, 0, none⟩ = some (.int .i64 s.n) ∧ w.cell? ⟨C, 1, none⟩ = some (.int .i64 s.m) ∧ w.cell? ⟨C, 2, none⟩ = some (.int .i64 s.g) := ⟨hx, state_S h⟩

def badB (n : Int) : Bool := decide (n < 0 ∨ 1114111 < n ∨ (55296 ≤ n ∧ n ≤ 57343))

/-- A string made into bytes and back. -/
theorem round_string (w : World) (s : ByteArray) : ∃ v w', (convert 9 32 (.string s)).run Try.prog w = .ok v w' ∧ (convert 32 9 v).run Try.prog w' = .ok (.string s) w' ∧ Below w.heap.size w w' := by
  have h := run_bytes_of_string (P := Try.prog) w 9 32 5 s Try.underlying9 Try.underlying32 Try.underlying5
  refine ⟨_, _, h, ?_, ?_⟩
  · have hb := run_convert_bytes_back (P := Try.prog) (w.drew.alloc (.cells (bytesRow s (grownCap w s.size 0 5)) 5 ((bytesRow s (grownCap w s.size 0 5)).size, (bytesRow s (grownCap w s.size 0 5)).size + 1))) 32 9 5 ⟨w.heap.size, 0, none⟩ (grownCap w s.size 0 5) s.data.toList Try.underlying32 Try.underlying5 Try.underlying9 (fun j hj => by
      have hadd : (⟨w.heap.size, 0, none⟩ : Addr).add j = ⟨w.heap.size, j, none⟩ := by unfold Addr.add; split <;> simp_all
      rw [hadd, cell_of_row _ w.heap.size j (bytesRow s (grownCap w s.size 0 5)) 5 _ (heap_alloc_new w.drew _)]
      have hj' : j < s.data.size := by simpa using hj
      unfold bytesRow
      rw [Array.getElem?_append_left (by simpa using hj')]
      rw [Array.getElem?_map, Array.getElem?_eq_getElem hj']
      simp)
    simpa using hb
  · exact ((Below.refl _ w).drew).alloc (Nat.le_refl _) _

set_option maxRecDepth 100000 in
set_option maxHeartbeats 1000000 in
theorem back_walk (a0 : Int) (w : World) :
    Calls Try.prog 6 #[.int .i64 a0] w fun e w' => e = .returned (.bool true) ∧ Below w.heap.size w w' := by
  obtain ⟨n, hq, n0, n1⟩ : ∃ n : Int, bits .and .i64 a0 2097151 = n ∧ 0 ≤ n ∧ n < 2097152 := ⟨a0 % 2097152, i64_and21 a0, by omega, by omega⟩
  have HC := Lib.hid (comes_put n n0 n1)
  have HE := Lib.hid (encode_put n)
  go_enter Try.func6, Try.ntmps6
  go_wp2_with fail
  refine (put_any n _ (by omega) (by omega)).mono ?_
  rintro e w1 ⟨v, rfl, hv, hb1⟩
  obtain ⟨A, c, rfl⟩ := bytes_form hv
  have l1 := HC.out.one
  have l4 := HC.out.four
  obtain ⟨bs, hbs⟩ : ∃ bs, bs = putB n := ⟨_, rfl⟩
  rw [← hbs] at hv HC HE l1 l4 ⊢
  clear hbs
  have l5 : (bs.length : Int) ≤ 4 := by omega
  have l6 : (1 : Int) ≤ (bs.length : Int) := by omega
  go_wp2_with fail
  go_loopw [6, 27] (BackRel w1 w1.heap.size bs) (fun _ i _ => bs.length - (intOf i).toNat)
  case atStart => exact ⟨0, rfl, Nat.zero_le _, by simpa [feedR] using runes_nil _ _, Held.new _ _ _, (Below.refl _ _).alloc (Nat.le_refl _) _⟩
  case round =>
    obtain ⟨k, rfl, hle, hrun, hst, hbw⟩ := hrel
    have hsnoc : Hid (∀ h : k < bs.length, bs.take (k + 1) = bs.take k ++ [bs[k]]) := fun h => List.take_succ_eq_append_getElem h
    have hsok : (feedS U.zero (bs.take k)).Ok := feedS_ok _ _ U.zero_ok
    have hrl : (feedR U.zero (bs.take k)).length ≤ 8 := by have := feedR_len U.zero (bs.take k); have := List.length_take_le k bs; omega
    obtain ⟨s, hs⟩ : ∃ s, s = feedS U.zero (bs.take k) := ⟨_, rfl⟩
    obtain ⟨rs, hrs⟩ : ∃ rs, rs = feedR U.zero (bs.take k) := ⟨_, rfl⟩
    rw [← hs] at hst hsok
    rw [← hrs] at hrun hrl
    have HS := Lib.hid hs
    have HR := Lib.hid hrs
    clear hs hrs
    have hCr := hst.lt
    obtain ⟨Ag, cg, hgot⟩ := runes_form hrun
    subst hgot
    by_cases hlt : k < bs.length
    · obtain ⟨g, rfl, hg1, hz⟩ := bytes_at hv k hlt
      have hlow := HC.out.low bs[k] (List.getElem_mem hlt)
      have hgr : g < wr.heap.size := by omega
      have hzr : wr.cell? ⟨g, 0 + k, none⟩ = some (.int .u8 bs[k]) := (hbw.cell (p := ⟨g, 0 + k, none⟩) hg1).trans hz
      rw [Nat.zero_add] at hzr
      obtain ⟨z, hzz⟩ : ∃ z, z = bs[k] := ⟨_, rfl⟩
      rw [← hzz] at hzr hlow
      obtain ⟨z0, z1⟩ := hlow
      have HZ := Lib.hid hzz
      clear hzz hz
      have hki : (k : Int) < (bs.length : Int) := by omega
      have s0 : wr.cell? ⟨w1.heap.size, 0, none⟩ = some (.int .i64 s.n) := (hst.cell 0).trans rfl
      have s1 : wr.cell? ⟨w1.heap.size, 1, none⟩ = some (.int .i64 s.m) := (hst.cell 1).trans rfl
      have s2 : wr.cell? ⟨w1.heap.size, 2, none⟩ = some (.int .i64 s.g) := (hst.cell 2).trans rfl
      go_upto_region 10 with fail
      go_cut [47] (fun t wx => t = .bool false ∧ Below wr.heap.size wr wx)
      case first =>
        by_cases hlast : k + 1 = bs.length
        · have bl : ((k : Int) == (bs.length : Int) - 1) = true := beq_iff_eq.2 (by omega)
          have hk1 : bs.length - 1 = k := by omega
          have r0 := HC.out.none
          rw [hk1, ← HR.out] at r0
          have e0 := HC.out.begun
          rw [hk1, ← HS.out] at e0
          have em : (((enR s.n).length : Nat) : Int) = if 1 < (k : Int) then 1 else (k : Int) := by
            rw [e0]
            by_cases h1 : bs.length = 1
            · rw [if_pos h1, if_neg (by omega)]
              simp
              omega
            · rw [if_neg h1]
              split <;> simp <;> omega
          have EM := Lib.hid em
          clear em e0 hk1
          subst r0
          go_wp2_with fail
          refine (end_any s.n s.m s.g _).mono ?_
          rintro e w2 ⟨v2, rfl, hv2, hb2⟩
          obtain ⟨A2, c2, rfl⟩ := runes_form hv2
          have hm1 := EM.out.symm
          go_wp2_with fail
          go_meet
          exact ⟨rfl, hb2⟩
        · have bl : ((k : Int) == (bs.length : Int) - 1) = false := beq_eq_false_iff_ne.2 (by omega)
          go_wp2_with fail
          go_meet
          exact ⟨rfl, Below.refl _ _⟩
      case rest =>
        obtain ⟨wp, rfl⟩ : ∃ wp : World, wp = wc := ⟨_, rfl⟩
        obtain ⟨rfl, hbp⟩ := hcut
        have hCp : w1.heap.size < wp.heap.size := Nat.lt_of_lt_of_le hCr hbp.size
        have hgp : g < wp.heap.size := Nat.lt_of_lt_of_le hgr hbp.size
        have hstp : Held wp w1.heap.size 25 (stateCells s) := hst.below hbp hCr
        have hzp : wp.cell? ⟨g, k, none⟩ = some (.int .u8 z) := (hbp.cell (p := ⟨g, k, none⟩) hgr).trans hzr
        have hrunp : Runes wp (w1.heap.size + 1) (.slice Ag rs.length cg) rs := own_below hrun hbp (Nat.le_refl _)
        have hbwp : Below w1.heap.size w1 wp := hbw.trans (hbp.mono (Nat.le_of_lt hCr))
        clear s0 s1 s2 hst hzr hrun hbw hbp
        go_upto_region 12 with fail
        go_cut [8, 9] (SteppedAt wp (nx s z) (nxR s z))
        case first =>
          have hzD : wp.drew.cell? ⟨g, k, none⟩ = some (.int .u8 z) := hzp
          have hstD : Held wp.drew w1.heap.size 25 (stateCells s) := hstp
          have hzA : (wp.alloc (.cells #[.int .i64 0, .int .i64 0, .int .i64 0] 25)).drew.cell? ⟨g, k, none⟩ = some (.int .u8 z) := (World.cell?_alloc_lt wp _ ⟨g, k, none⟩ hgp).trans hzp
          have hstA : Held (wp.alloc (.cells #[.int .i64 0, .int .i64 0, .int .i64 0] 25)).drew w1.heap.size 25 (stateCells s) := hstp.alloc _
          go_region_held3 (fun w' => w'.cell? ⟨g, k, none⟩ = some (.int .u8 z) ∧ w'.cell? ⟨w1.heap.size, 0, none⟩ = some (.int .i64 s.n) ∧ w'.cell? ⟨w1.heap.size, 1, none⟩ = some (.int .i64 s.m) ∧ w'.cell? ⟨w1.heap.size, 2, none⟩ = some (.int .i64 s.g))
            (first
              | with_reducible exact bytes_S hzD hstD
              | with_reducible exact bytes_S hzA hstA
              | with_reducible exact bytes_S yB zC
              | with_reducible exact bytes_S ((World.cell?_alloc_lt _ _ _ yL).trans yB) (zC.alloc _)
              | with_reducible exact bytes_S ((cell_set3 (Nat.ne_of_lt hgp)).trans yB) (zC.far3 (Nat.ne_of_lt hCp) _ _ _)
              | fail)
            (first
              | (go_at_call 7
                 (with_reducible refine (step_any s _ wp.drew hsok z0 z1).mono ?_)
                 rintro e w3 ⟨v, rfl, hv3, hb3⟩
                 have hb3' : Below wp.heap.size wp w3 := ((Below.refl _ wp).drew).trans hb3
                 have yB : w3.cell? ⟨g, k, none⟩ = some (.int .u8 z) := (hb3'.cell (p := ⟨g, k, none⟩) hgp).trans hzp
                 have yL : (⟨g, k, none⟩ : Addr).block < w3.heap.size := Nat.lt_of_lt_of_le hgp hb3'.size
                 have zC : Held w3 w1.heap.size 25 (stateCells s) := hstp.below hb3' hCp
                 have fin : Hid (SteppedAt wp (nx s z) (nxR s z) _ v _) := stepped_after hv3 hb3')
              | (go_at_call 7
                 (with_reducible refine (step_any s _ _ hsok z0 z1).mono ?_)
                 rintro e w3 ⟨v, rfl, hv3, hb3⟩
                 have hb3' : Below wp.heap.size wp w3 := (((Below.refl _ wp).alloc (Nat.le_refl _) _).drew).trans (hb3.mono (by simp))
                 have yB : w3.cell? ⟨g, k, none⟩ = some (.int .u8 z) := (hb3'.cell (p := ⟨g, k, none⟩) hgp).trans hzp
                 have yL : (⟨g, k, none⟩ : Addr).block < w3.heap.size := Nat.lt_of_lt_of_le hgp hb3'.size
                 have zC : Held w3 w1.heap.size 25 (stateCells s) := hstp.below hb3' hCp
                 have tT : Held w3 wp.heap.size 25 #[.int .i64 0, .int .i64 0, .int .i64 0] := Held.below (w := (wp.alloc _).drew) (Held.new _ _ _) hb3 (by simp)
                 have t0 : w3.cell? ⟨wp.heap.size, 0, none⟩ = some (.int .i64 0) := (tT.cell 0).trans rfl
                 have t1 : w3.cell? ⟨wp.heap.size, 1, none⟩ = some (.int .i64 0) := (tT.cell 1).trans rfl
                 have t2 : w3.cell? ⟨wp.heap.size, 2, none⟩ = some (.int .i64 0) := (tT.cell 2).trans rfl
                 have tf := tT.frozen
                 have fin : Hid (SteppedAt wp (nx s z) (nxR s z) _ v _) := stepped_ahead (by simp) hv3 hb3' tT))
          all_goals (go_wp2_with fail; go_meet; exact fin)
        case rest =>
          obtain ⟨T, rfl, hTs, hTr, hTb, hTn, hTa⟩ := hcut
          have hz := hTb.size
          have zC : Held wc w1.heap.size 25 (stateCells s) := hstp.below hTb hCp
          have hg : Runes wc (w1.heap.size + 1) (.slice Ag rs.length cg) rs := own_below hrunp hTb (Nat.le_refl _)
          have hgT : (Value.slice Ag rs.length cg).ownBlock ≠ some T := own_ge_ne hrunp hTn
          have hT0 : wc.cell? ⟨T, 0, none⟩ = some (.int .i64 (nx s z).n) := (hTs.cell 0).trans rfl
          have hT1 : wc.cell? ⟨T, 1, none⟩ = some (.int .i64 (nx s z).m) := (hTs.cell 1).trans rfl
          have hT2 : wc.cell? ⟨T, 2, none⟩ = some (.int .i64 (nx s z).g) := (hTs.cell 2).trans rfl
          have hnl := nxR_len s z
          have htT := hTs.lt
          have hCT : w1.heap.size ≠ T := by omega
          obtain ⟨s', es⟩ : ∃ s', s' = nx s z := ⟨_, rfl⟩
          obtain ⟨r', er⟩ : ∃ r', r' = nxR s z := ⟨_, rfl⟩
          rw [← es] at hT0 hT1 hT2 hTs
          rw [← er] at hTr hnl
          have ES := Lib.hid es
          have ER := Lib.hid er
          clear es er
          have hTsD : Held wc.drew T 25 (stateCells s') := hTs
          go_wp2_with fail
          go_region_held3 (fun w' => w'.cell? ⟨T, 0, none⟩ = some (.int .i64 s'.n) ∧ w'.cell? ⟨T, 1, none⟩ = some (.int .i64 s'.m) ∧ w'.cell? ⟨T, 2, none⟩ = some (.int .i64 s'.g))
            (first
              | with_reducible exact state_S hTsD
              | with_reducible exact state_S hT3
              | with_reducible exact state_S (hT3.far3 (Ne.symm hCT) _ _ _)
              | fail)
            ((refine step_append_rows _ (by rfl) _ _ _ (by rfl) rowRune (w1.heap.size + 1) wp.heap.size rs.length r'.length (.slice Ag rs.length cg) u9 (i32s rs) (i32s r') (by rfl) (by rfl) (by exact hg) (by exact hTr) (i32s_one _) (by omega) (by simp; omega) ?_
              intro v3 w3 hap
              have hb3 : Below (w1.heap.size + 1) wc w3 := ((Below.refl _ wc).drew).trans (hap.below (w := wc.drew) hg (by simp; omega))
              have zC3 : Held w3 w1.heap.size 25 (stateCells s) := zC.below hb3 (by omega)
              have hT3 : Held w3 T 25 (stateCells s') := (hap.grown.block T (by simpa using htT) (Ne.symm hgT)).trans hTs
              have q0 : w3.cell? ⟨w1.heap.size, 0, none⟩ = some (.int .i64 s.n) := (zC3.cell 0).trans rfl
              have q1 : w3.cell? ⟨w1.heap.size, 1, none⟩ = some (.int .i64 s.m) := (zC3.cell 1).trans rfl
              have q2 : w3.cell? ⟨w1.heap.size, 2, none⟩ = some (.int .i64 s.g) := (zC3.cell 2).trans rfl
              have qf := zC3.frozen))
          go_wp2_with fail
          go_roundw
          case rel =>
            have e2 : feedS U.zero (bs.take (k + 1)) = s' := by rw [hsnoc.out hlt, feedS_snoc, ← HS.out, ← HZ.out, ES.out]
            have e1 : feedR U.zero (bs.take (k + 1)) = rs ++ r' := by rw [hsnoc.out hlt, feedR_snoc, ← HR.out, ← HS.out, ← HZ.out, ER.out]
            refine ⟨k + 1, by go_num, hlt, ?_, ?_, ?_⟩
            · rw [e1]
              exact runes_set3 (runes_app hap.own) (by omega) _ _ _
            · rw [e2]
              exact Held.set3 zC3 _ _ _
            · exact below_set3 ((hbwp.trans (hTb.mono (Nat.le_of_lt hCp))).trans (hb3.mono (by omega))) (Nat.le_refl _) _ _ _
          case measure => simp [intOf]; omega
    · have hl : List.take k bs = bs := List.take_of_length_le (by omega)
      have es : s = U.zero := by rw [HS.out, hl]; exact HC.out.zero
      have er : rs = [wantR n] := by rw [HR.out, hl]; exact HC.out.all
      subst es er
      have hbr : Bytes wr w.heap.size (.slice A bs.length c) bs := own_below hv hbw (Nat.le_refl _)
      have cb : (convert 32 9 (.slice A bs.length c)).run Try.prog wr = .ok (.string (bytesBA bs)) wr := run_bytes (P := Try.prog) hbr Try.underlying32 Try.underlying5 Try.underlying9
      obtain ⟨g, cap, hgv, _, hglt⟩ := hrun.form (by simp)
      have hAg : Ag = some ⟨g, 0, none⟩ := by injection hgv
      subst hAg
      have hg0 : wr.cell? ⟨g, 0, none⟩ = some (.int .i32 (wantR n)) := (World.ownsRow.cellAt (g := g) hrun 0 (by simp)).trans rfl
      have s0 : wr.cell? ⟨w1.heap.size, 0, none⟩ = some (.int .i64 0) := (hst.cell 0).trans rfl
      have s1 : wr.cell? ⟨w1.heap.size, 1, none⟩ = some (.int .i64 0) := (hst.cell 1).trans rfl
      have s2 : wr.cell? ⟨w1.heap.size, 2, none⟩ = some (.int .i64 0) := (hst.cell 2).trans rfl
      clear HS HR hl hsnoc hgv hsok hrl
      go_upto_region 16 with fail
      go_cut [72] (fun t wx => t = .bool (badB n) ∧ wr = wx)
      case first =>
        by_cases b1 : 1114111 < n
        · go_wp2_with fail
          go_meet
          exact ⟨congrArg Value.bool (decide_eq_true (p := n < 0 ∨ 1114111 < n ∨ (55296 ≤ n ∧ n ≤ 57343)) (by omega)).symm, rfl⟩
        · by_cases b2 : 55296 ≤ n
          · by_cases b3 : n ≤ 57343
            · go_wp2_with fail
              go_meet
              exact ⟨congrArg Value.bool (decide_eq_true (p := n < 0 ∨ 1114111 < n ∨ (55296 ≤ n ∧ n ≤ 57343)) (by omega)).symm, rfl⟩
            · go_wp2_with fail
              go_meet
              exact ⟨congrArg Value.bool (decide_eq_false (p := n < 0 ∨ 1114111 < n ∨ (55296 ≤ n ∧ n ≤ 57343)) (by omega)).symm, rfl⟩
          · go_wp2_with fail
            go_meet
            exact ⟨congrArg Value.bool (decide_eq_false (p := n < 0 ∨ 1114111 < n ∨ (55296 ≤ n ∧ n ≤ 57343)) (by omega)).symm, rfl⟩
      case rest =>
        obtain ⟨ht, rfl⟩ := hcut
        have hfin0 : Below w.heap.size w wr := hb1.trans (hbw.mono hb1.size)
        by_cases bad : n < 0 ∨ 1114111 < n ∨ (55296 ≤ n ∧ n ≤ 57343)
        · rw [show badB n = true from decide_eq_true bad] at ht
          subst ht
          have ew : wantR n = 65533 := by unfold wantR; rw [if_pos bad]
          rw [ew] at hg0 HE
          obtain ⟨v5, w5, c1, c2, hb5⟩ := round_string wr (Utf8.encode 65533)
          rw [← HE.out] at cb
          have hfin : Below w.heap.size w w5 := hfin0.trans (hb5.mono hfin0.size)
          clear bad ew
          go_wp2_with fail
          refine (awake_any _).mono ?_
          rintro e w6 ⟨rfl, hb6⟩
          go_wp2_with fail
          go_ret
          exact ⟨rfl, hfin.trans (hb6.mono hfin.size)⟩
        · rw [show badB n = false from decide_eq_false bad] at ht
          subst ht
          have ew : wantR n = n := by unfold wantR; rw [if_neg bad]
          rw [ew] at hg0 HE
          obtain ⟨v5, w5, c1, c2, hb5⟩ := round_string wr (Utf8.encode n)
          rw [← HE.out] at cb
          have hfin : Below w.heap.size w w5 := hfin0.trans (hb5.mono hfin0.size)
          clear bad ew
          go_wp2_with fail
          refine (awake_any _).mono ?_
          rintro e w6 ⟨rfl, hb6⟩
          go_wp2_with fail
          go_ret
          exact ⟨rfl, hfin.trans (hb6.mono hfin.size)⟩
end Go.Proofs.Ytijjkpaagkfiiaa
