/-
  The walk of UtfdForms: for every number the call answers true and writes nothing that was there.
-/
import Derived.Test.YtijjkpaagkfiiaaTab
import Derived.Test.YtijjkpaagkfiiaaLaw
namespace Go.Proofs.Ytijjkpaagkfiiaa
open Go.RowKit

/-- Behind k bytes of b: what is begun lies in block C, the runes that came in got. -/
structure FormsAt (w : World) (B C : Nat) (b t : ByteArray) (k : Nat) (got : Value) (w' : World) : Prop where
  le : k ≤ b.size
  runes : Runes w' (C + 1) got (feedR U.zero ((bytesOf b).take k))
  text : Held w' B 22 #[.string b, .string t]
  state : Held w' C 25 (stateCells (feedS U.zero ((bytesOf b).take k)))
  below : Below w.heap.size w w'
def FormsRel (w : World) (B C : Nat) (b t : ByteArray) (got i : Value) (w' : World) : Prop := ∃ k : Nat, i = .int .i64 k ∧ FormsAt w B C b t k got w'

theorem forms_S {w : World} {B C : Nat} {b t : ByteArray} {s : U} (hx : Held w B 22 #[.string b, .string t]) (h : Held w C 25 (stateCells s)) :
    w.cell? ⟨B, 0, none⟩ = some (.string b) ∧ w.cell? ⟨C, 0, none⟩ = some (.int .i64 s.n) ∧ w.cell? ⟨C, 1, none⟩ = some (.int .i64 s.m) ∧ w.cell? ⟨C, 2, none⟩ = some (.int .i64 s.g) := ⟨(hx.cell 0).trans rfl, state_S h⟩

set_option maxRecDepth 100000 in
set_option maxHeartbeats 2000000 in
theorem forms_walk (a0 : Int) (w : World) :
    Calls Try.prog 3 #[.int .i64 a0] w fun e w' => e = .returned (.bool true) ∧ Below w.heap.size w w' := by
  obtain ⟨q, hq, q0, q1⟩ : ∃ q : Nat, bits .and .i64 a0 255 = (q : Int) ∧ 0 ≤ q ∧ q ≤ 255 := ⟨(a0 % 256).toNat, by rw [i64_and255]; omega, by omega, by omega⟩
  have hk1 : ((q : Int).tmod 23) < 23 := by rw [Int.tmod_eq_emod_of_nonneg (by omega)]; omega
  have hk0 : 0 ≤ ((q : Int).tmod 23) := by rw [Int.tmod_eq_emod_of_nonneg (by omega)]; omega
  obtain ⟨b, t, hb, ht, hsz, hgood⟩ := tab_at (q % 23) (by omega)
  have HG := Lib.hid hgood; clear hgood
  unfold tab at hb ht
  go_enter Try.func3, Try.ntmps3
  go_upto_region 2 with fail
  go_cut [4] (fun p4 wx => ∃ B : Nat, p4 = .pointer (some ⟨B, 0, none⟩) ∧ Held wx B 22 #[.string b, .string t] ∧ Below w.heap.size w wx ∧ w.heap.size ≤ B)
  case first =>
    go_wp2_with fail
    go_meet
    exact ⟨_, rfl, Held.new2 _ _ _ _, below_alloc2 _ _ _, by simp⟩
  case rest =>
    obtain ⟨wo, rfl⟩ : ∃ wo : World, wo = wc := ⟨_, rfl⟩
    obtain ⟨B, rfl, hB, hbw, hB0⟩ := hcut
    clear hb ht hq hk1 hk0 q0 q1
    have hBC := hB.lt
    go_wp2_with fail
    go_loopw [6, 7] (FormsRel w B wo.heap.size b t) (fun _ i _ => b.size - (intOf i).toNat)
    case atStart =>
      exact ⟨0, rfl, Nat.zero_le _, by simpa [feedR] using runes_nil _ _, hB.alloc _, Held.new _ _ _, hbw.alloc hbw.size _⟩
    case round =>
      obtain ⟨k, rfl, hle, hrun, hx, hst, hbw'⟩ := hrel
      have hsnoc : Hid (∀ h : k < b.size, (bytesOf b).take (k + 1) = (bytesOf b).take k ++ [(b[k].toNat : Int)]) := fun h => bytesOf_snoc b k h
      have hsok : (feedS U.zero ((bytesOf b).take k)).Ok := feedS_ok _ _ U.zero_ok
      have hrl : (feedR U.zero ((bytesOf b).take k)).length ≤ 8 := by have := feedR_len U.zero ((bytesOf b).take k); have := List.length_take_le k (bytesOf b); omega
      obtain ⟨s, hs⟩ : ∃ s, s = feedS U.zero ((bytesOf b).take k) := ⟨_, rfl⟩
      obtain ⟨rs, hrs⟩ : ∃ rs, rs = feedR U.zero ((bytesOf b).take k) := ⟨_, rfl⟩
      rw [← hs] at hst hsok
      rw [← hrs] at hrun hrl
      have HS := Lib.hid hs
      have HR := Lib.hid hrs
      clear hs hrs
      have x0 : wr.cell? ⟨B, 0, none⟩ = some (.string b) := (hx.cell 0).trans rfl
      have s0 : wr.cell? ⟨wo.heap.size, 0, none⟩ = some (.int .i64 s.n) := (hst.cell 0).trans rfl
      have s1 : wr.cell? ⟨wo.heap.size, 1, none⟩ = some (.int .i64 s.m) := (hst.cell 1).trans rfl
      have s2 : wr.cell? ⟨wo.heap.size, 2, none⟩ = some (.int .i64 s.g) := (hst.cell 2).trans rfl
      have hCr := hst.lt
      have hBr := hx.lt
      by_cases hlt : k < b.size
      · have hki : (k : Int) < (b.size : Int) := by omega
        go_upto_region 8 with fail
        go_cut [8, 9] (SteppedAt wr (nx s (b[k].toNat : Int)) (nxR s (b[k].toNat : Int)))
        case first =>
          have hxD : Held wr.drew B 22 #[.string b, .string t] := hx
          have hstD : Held wr.drew wo.heap.size 25 (stateCells s) := hst
          have hxA : Held (wr.alloc (.cells #[.int .i64 0, .int .i64 0, .int .i64 0] 25)).drew B 22 #[.string b, .string t] := hx.alloc _
          have hstA : Held (wr.alloc (.cells #[.int .i64 0, .int .i64 0, .int .i64 0] 25)).drew wo.heap.size 25 (stateCells s) := hst.alloc _
          go_region_held3 (fun w' => w'.cell? ⟨B, 0, none⟩ = some (.string b) ∧ w'.cell? ⟨wo.heap.size, 0, none⟩ = some (.int .i64 s.n) ∧ w'.cell? ⟨wo.heap.size, 1, none⟩ = some (.int .i64 s.m) ∧ w'.cell? ⟨wo.heap.size, 2, none⟩ = some (.int .i64 s.g))
            (first
              | with_reducible exact forms_S hxD hstD
              | with_reducible exact forms_S hxA hstA
              | with_reducible exact forms_S yB zC
              | with_reducible exact forms_S (yB.alloc _) (zC.alloc _)
              | with_reducible exact forms_S (yB.far3 (Nat.ne_of_lt hBr) _ _ _) (zC.far3 (Nat.ne_of_lt hCr) _ _ _)
              | fail)
            (first
              | (go_at_call 7
                 (with_reducible refine (step_any s _ wr.drew hsok (by exact Int.natCast_nonneg _) (by exact u8_le _)).mono ?_)
                 rintro e w1 ⟨v, rfl, hv, hb1⟩
                 have yB : Held w1 B 22 #[.string b, .string t] := Held.below (w := wr.drew) hx hb1 hBr
                 have zC : Held w1 wo.heap.size 25 (stateCells s) := Held.below (w := wr.drew) hst hb1 hCr
                 have hb1' : Below wr.heap.size wr w1 := ((Below.refl _ wr).drew).trans hb1
                 have fin : Hid (SteppedAt wr (nx s (b[k].toNat : Int)) (nxR s (b[k].toNat : Int)) _ v _) := stepped_after hv hb1')
              | (go_at_call 7
                 (with_reducible refine (step_any s _ _ hsok (by exact Int.natCast_nonneg _) (by exact u8_le _)).mono ?_)
                 rintro e w1 ⟨v, rfl, hv, hb1⟩
                 have yB : Held w1 B 22 #[.string b, .string t] := Held.below (w := (wr.alloc _).drew) (hx.alloc _) hb1 (by simp; omega)
                 have zC : Held w1 wo.heap.size 25 (stateCells s) := Held.below (w := (wr.alloc _).drew) (hst.alloc _) hb1 (by simp; omega)
                 have tT : Held w1 wr.heap.size 25 #[.int .i64 0, .int .i64 0, .int .i64 0] := Held.below (w := (wr.alloc _).drew) (Held.new _ _ _) hb1 (by simp)
                 have t0 : w1.cell? ⟨wr.heap.size, 0, none⟩ = some (.int .i64 0) := (tT.cell 0).trans rfl
                 have t1 : w1.cell? ⟨wr.heap.size, 1, none⟩ = some (.int .i64 0) := (tT.cell 1).trans rfl
                 have t2 : w1.cell? ⟨wr.heap.size, 2, none⟩ = some (.int .i64 0) := (tT.cell 2).trans rfl
                 have tf := tT.frozen
                 have hb1' : Below wr.heap.size wr w1 := (((Below.refl _ wr).alloc (Nat.le_refl _) _).drew).trans (hb1.mono (by simp))
                 have fin : Hid (SteppedAt wr (nx s (b[k].toNat : Int)) (nxR s (b[k].toNat : Int)) _ v _) := stepped_ahead (by simp) hv hb1' tT))
          all_goals (go_wp2_with fail; go_meet; exact fin)
        case rest =>
          obtain ⟨T, rfl, hTs, hTr, hTb, hTn, hTa⟩ := hcut
          have hz := hTb.size
          have yB : Held wc B 22 #[.string b, .string t] := hx.below hTb hBr
          have zC : Held wc wo.heap.size 25 (stateCells s) := hst.below hTb hCr
          have hg : Runes wc (wo.heap.size + 1) u6 rs := own_below hrun hTb (Nat.le_refl _)
          have hgT : u6.ownBlock ≠ some T := own_ge_ne hrun hTn
          have hT0 : wc.cell? ⟨T, 0, none⟩ = some (.int .i64 (nx s (b[k].toNat : Int)).n) := (hTs.cell 0).trans rfl
          have hT1 : wc.cell? ⟨T, 1, none⟩ = some (.int .i64 (nx s (b[k].toNat : Int)).m) := (hTs.cell 1).trans rfl
          have hT2 : wc.cell? ⟨T, 2, none⟩ = some (.int .i64 (nx s (b[k].toNat : Int)).g) := (hTs.cell 2).trans rfl
          have hnl := nxR_len s (b[k].toNat : Int)
          have htT := hTs.lt
          have hCT : wo.heap.size ≠ T := by omega
          clear s0 s1 s2 x0
          obtain ⟨s', es⟩ : ∃ s', s' = nx s (b[k].toNat : Int) := ⟨_, rfl⟩
          obtain ⟨r', er⟩ : ∃ r', r' = nxR s (b[k].toNat : Int) := ⟨_, rfl⟩
          rw [← es] at hT0 hT1 hT2 hTs
          rw [← er] at hTr hnl
          have ES := Lib.hid es
          have ER := Lib.hid er
          clear es er
          have hTsD : Held wc.drew T 25 (stateCells s') := hTs
          go_wp2_with fail
          go_region_held3 (fun w' => w'.cell? ⟨T, 0, none⟩ = some (.int .i64 s'.n) ∧ w'.cell? ⟨T, 1, none⟩ = some (.int .i64 s'.m) ∧ w'.cell? ⟨T, 2, none⟩ = some (.int .i64 s'.g))
            (first
              | with_reducible exact state_S hTsD
              | with_reducible exact state_S hT3
              | with_reducible exact state_S (hT3.far3 (Ne.symm hCT) _ _ _)
              | fail)
            ((refine step_append_rows _ (by rfl) _ _ _ (by rfl) rowRune (wo.heap.size + 1) wr.heap.size rs.length r'.length u6 u9 (i32s rs) (i32s r') (by rfl) (by rfl) (by exact hg) (by exact hTr) (i32s_one _) (by omega) (by simp; omega) ?_
              intro v3 w3 hap
              have hb3 : Below (wo.heap.size + 1) wc w3 := ((Below.refl _ wc).drew).trans (hap.below (w := wc.drew) hg (by simp; omega))
              have zC3 : Held w3 wo.heap.size 25 (stateCells s) := zC.below hb3 (by omega)
              have yB3 : Held w3 B 22 #[.string b, .string t] := yB.below hb3 (by omega)
              have hT3 : Held w3 T 25 (stateCells s') := (hap.grown.block T (by simpa using htT) (Ne.symm hgT)).trans hTs
              have q0 : w3.cell? ⟨wo.heap.size, 0, none⟩ = some (.int .i64 s.n) := (zC3.cell 0).trans rfl
              have q1 : w3.cell? ⟨wo.heap.size, 1, none⟩ = some (.int .i64 s.m) := (zC3.cell 1).trans rfl
              have q2 : w3.cell? ⟨wo.heap.size, 2, none⟩ = some (.int .i64 s.g) := (zC3.cell 2).trans rfl
              have qf := zC3.frozen))
          go_wp2_with fail
          go_roundw
          case rel =>
            have e2 : feedS U.zero ((bytesOf b).take (k + 1)) = s' := by rw [hsnoc.out hlt, feedS_snoc, ← HS.out, ES.out]
            have e1 : feedR U.zero ((bytesOf b).take (k + 1)) = rs ++ r' := by rw [hsnoc.out hlt, feedR_snoc, ← HR.out, ← HS.out, ER.out]
            refine ⟨k + 1, by go_num, by omega, ?_, yB3.far3 (by omega) _ _ _, ?_, ?_⟩
            · rw [e1]
              exact runes_set3 (runes_app hap.own) (by omega) _ _ _
            · rw [e2]
              exact Held.set3 zC3 _ _ _
            · exact below_set3 ((hbw'.trans (hTb.mono hbw'.size)).trans (hb3.mono (by omega))) hbw.size _ _ _
          case measure => simp [intOf]; omega
      · have ek : k = b.size := by omega
        have hl : List.take k (bytesOf b) = bytesOf b := List.take_of_length_le (by rw [bytesOf_len]; omega)
        rw [hl] at HS HR
        clear hl ek hsnoc
        have x1 : wr.cell? ⟨B, 1, none⟩ = some (.string t) := (hx.cell 1).trans rfl
        go_wp2_with fail
        go_region_law
          (first
            | (go_simp; go_at_call 8
               refine (end_any s.n s.m s.g _).mono ?_
               rintro e w1 ⟨v, rfl, hv, hb1⟩
               have hb1' : Below wr.heap.size wr w1 := ((Below.refl _ wr).drew).trans hb1
               have yB : Held w1 B 22 #[.string b, .string t] := hx.below hb1' hBr
               have zC : Held w1 wo.heap.size 25 (stateCells s) := hst.below hb1' hCr
               have y0 : w1.cell? ⟨B, 1, none⟩ = some (.string t) := (yB.cell 1).trans rfl
               have z0 : w1.cell? ⟨wo.heap.size, 0, none⟩ = some (.int .i64 s.n) := (zC.cell 0).trans rfl
               have z1 : w1.cell? ⟨wo.heap.size, 1, none⟩ = some (.int .i64 s.m) := (zC.cell 1).trans rfl
               have z2 : w1.cell? ⟨wo.heap.size, 2, none⟩ = some (.int .i64 s.g) := (zC.cell 2).trans rfl)
            | (refine step_append_rows _ (by rfl) _ _ _ (by rfl) rowRune (wo.heap.size + 1) wr.heap.size rs.length (enR s.n).length u6 v (i32s rs) (i32s (enR s.n)) (by rfl) (by rfl) (by exact own_below hrun hb1' (Nat.le_refl _)) (by exact hv) (i32s_one _) (by have := enR_len s.n; omega) (by have := hb1'.size; omega) ?_
               intro v3 w3 hap
               have hb3 : Below (wo.heap.size + 1) w1 w3 := hap.below (own_below hrun hb1' (Nat.le_refl _)) (by have := hb1'.size; omega)
               have yB3 : Held w3 B 22 #[.string b, .string t] := yB.below hb3 (by omega)
               have zC3 : Held w3 wo.heap.size 25 (stateCells s) := zC.below hb3 (by omega)
               have p0 : w3.cell? ⟨B, 1, none⟩ = some (.string t) := (yB3.cell 1).trans rfl
               have p1 : w3.cell? ⟨wo.heap.size, 0, none⟩ = some (.int .i64 s.n) := (zC3.cell 0).trans rfl
               have p2 : w3.cell? ⟨wo.heap.size, 1, none⟩ = some (.int .i64 s.m) := (zC3.cell 1).trans rfl
               have p3 : w3.cell? ⟨wo.heap.size, 2, none⟩ = some (.int .i64 s.g) := (zC3.cell 2).trans rfl
               have cv : (convert 26 9 v3).run Try.prog w3 = .ok (.string t) w3 := by
                 rw [run_runes (P := Try.prog) (runes_app hap.own) (src := 26) (dst := 9) Try.underlying26 Try.underlying21 Try.underlying9, HR.out, HS.out, HG.out])
            | (go_simp; go_at_call 9
               refine (awake_any _).mono ?_
               rintro e w4 ⟨rfl, hb4⟩
               have b0 : w4.cell? ⟨B, 1, none⟩ = some (.string t) := (hb4.cell (p := ⟨B, 1, none⟩) yB3.lt).trans p0
               have b1 : w4.cell? ⟨wo.heap.size, 0, none⟩ = some (.int .i64 s.n) := (hb4.cell (p := ⟨wo.heap.size, 0, none⟩) zC3.lt).trans p1
               have b2 : w4.cell? ⟨wo.heap.size, 1, none⟩ = some (.int .i64 s.m) := (hb4.cell (p := ⟨wo.heap.size, 1, none⟩) zC3.lt).trans p2
               have b3 : w4.cell? ⟨wo.heap.size, 2, none⟩ = some (.int .i64 s.g) := (hb4.cell (p := ⟨wo.heap.size, 2, none⟩) zC3.lt).trans p3
               have fin : Below w.heap.size w w4 := ((hbw'.trans (hb1'.mono hbw'.size)).trans (hb3.mono (Nat.le_trans hbw.size (Nat.le_succ _)))).trans (hb4.mono (Nat.le_trans hbw'.size (Nat.le_trans hb1'.size hb3.size)))))
        all_goals (go_wp2; go_ret; exact ⟨rfl, fin⟩)
end Go.Proofs.Ytijjkpaagkfiiaa
