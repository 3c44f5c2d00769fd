/-
  The walk of Feed of package pane. Conditions: as in PFeed.
-/
import Derived.Test.YtpcpmeihebgncaaPFeed
namespace Go.Proofs.Ytpcpmeihebgncaa
open Go.RowKit
set_option maxRecDepth 100000
set_option linter.unusedSimpArgs false

namespace Esca
theorem ctl_par (b : Int) : ∀ a ∈ ctl b, a.par = [] := by
  intro a h
  unfold ctl at h
  split at h
  · cases h
  · simp only [List.mem_singleton] at h
    rw [h]
theorem finPar_len (e : E) (h : e.Ok) : (finPar e).length ≤ 16 := by
  unfold finPar
  split
  · exact wPar_len _ _ h.par
  · exact h.par
theorem nxE_par (e : E) (b : Int) (h : e.Ok) : ∀ a ∈ (nxE e b).2, a.par.length ≤ 16 := by
  intro a ha
  have hc : ∀ a ∈ ctl b, a.par.length ≤ 16 := fun a h => by rw [ctl_par b a h]; simp
  unfold nxE at ha
  split at ha
  · rcases List.mem_append.1 ha with h1 | h1
    · unfold prints at h1
      obtain ⟨r, _, rfl⟩ := List.mem_map.1 h1
      simp
    · exact hc a h1
  split at ha
  · unfold escE at ha
    repeat' split at ha
    all_goals first
      | exact hc a ha
      | (simp only [List.mem_singleton] at ha; rw [ha]; simp)
      | cases ha
  split at ha
  · unfold csiE at ha
    repeat' split at ha
    all_goals first
      | exact hc a ha
      | (unfold fin at ha
         split at ha
         · cases ha
         · simp only [List.mem_singleton] at ha
           rw [ha]
           exact finPar_len e h)
      | cases ha
  repeat' split at ha
  all_goals cases ha
end Esca

set_option maxHeartbeats 8000000 in
theorem pfeed_any {W H : Nat} (q0 : PM) (bs : List Int) (F D E V : Option Addr) (f qq n c m d cv B : Nat) (w : World) (ok : q0.Ok W H) (hp : Esca.Ints w B (.slice F f qq) q0.e.par) (hs : Scr 0 w D E n c m d q0.s.L q0.s.B) (hv : Esca.ReadB w (.slice V bs.length cv) bs) (hn : bs.length ≤ 300000) :
    Calls Try.prog 20 #[pv q0.e (.slice F f qq) q0.s.p (.slice D n c) (.slice E m d), .slice V bs.length cv] w (PanePost w (feedP q0 bs).e (feedP q0 bs).s.p (feedP q0 bs).s.L (feedP q0 bs).s.B) := by
  have HS := Lib.hid (QS.start w q0.e (.slice F f qq) q0.s.p (.slice D n c) (.slice E m d))
  have HV : Hid (∀ k : Nat, k < bs.length → ∃ (b off : Nat) (z : Int), V = some ⟨b, off, none⟩ ∧ b < w.heap.size ∧ bs[k]? = some z ∧ w.cell? ⟨b, off + k, none⟩ = some (.int .u8 z) ∧ 0 ≤ z ∧ z ≤ 255) := by
    obtain ⟨V', c', e, h⟩ := hv
    cases e
    exact h
  have HO : Hid (∀ wx, Below w.heap.size w wx → Calls Try.prog 40 #[pv q0.e (.slice F f qq) q0.s.p (.slice D n c) (.slice E m d)] wx (PanePost wx q0.e q0.s.p q0.s.L q0.s.B)) := fun wx hb =>
    pown_any q0.e F f qq B q0.s.p D E n c m d q0.s.L q0.s.B wx (hp.below hb (Nat.le_refl _)) (by have := ok.e.par; omega) (hs.below hb (Nat.le_refl _)) (by rw [← hs.nr, ok.k.ok.ln]; have := ok.k.H2; omega) (by rw [← hs.nb]; exact ok.k.ok.bn) ok.k.rows ok.k.ok.back
  have HK := Lib.hid ok
  clear ok hp hs hv
  unfold pv pcs
  go_enter Try.func20, Try.ntmps20
  go_upto_region 1 with fail
  refine wp_world (fun wq => QS w q0.e (.slice F f qq) q0.s.p (.slice D n c) (.slice E m d) wq) HS.out ?_
  clear HS
  intro w2 rs
  have x2 := rs.box
  go_upto_region 2 with (first
    | (with_reducible refine wpList_loadP x2 (x := .tmp 2) ?_ ?_ ?_ ?_
       · with_reducible rfl
       · rfl
       · rfl)
    | (go_at_call 40
       refine (HO.out _ rs.below).mono ?_
       rintro e w3 ⟨F3, f3, q3, D3, n3, c3, E3, m3, d3, rfl, i3, s3, b3⟩
       have r3 := rs.next b3
       have x3 := r3.box)
    | (with_reducible refine wpList_storeP x3 (x := .tmp 2) (y := .tmp 12) (e' := q0.e) (p' := q0.s.p) (F := F3) (f := f3) (q := q3) (D := D3) (E := E3) (n := n3) (c := c3) (m := m3) (d := d3) ?_ ?_ ?_ ?_ ?_
       · with_reducible rfl
       · rfl
       · rfl
       · rfl))
  have hz2 := rs.ans.lt
  refine wp_world (fun wq => FS w q0 F3 D3 E3 f3 q3 n3 c3 m3 d3 wq) ⟨x3.setRow _ _ _ _ _, r3.ans.other (by omega) _, ints_put (i3.base (by omega)) (by omega) _, (s3.weak (by omega)).put (by omega) _, below_setRow r3.below (Nat.le_refl _) _⟩ ?_
  clear rs x2 r3 x3 i3 s3 b3 hz2 HO
  intro w4 st0
  go_wp2_with fail
  go_loopw [15] (FRel w q0 bs) (fun i _ => bs.length - (intOf i).toNat)
  case atStart => exact ⟨0, _, _, _, _, _, _, _, _, _, rfl, Nat.zero_le _, st0⟩
  case round =>
    clear st0
    obtain ⟨k, F, D, E, f, qq, n, c, m, d, rfl, hkl, st⟩ := hrel
    by_cases hlt : k < bs.length
    · have hki : (k : Int) < (bs.length : Int) := by omega
      obtain ⟨vb, vo, z, rfl, hvb, hzk, hcell, hz0, hz255⟩ := HV.out k hlt
      have hcell' : wr.cell? ⟨vb, vo + k, none⟩ = some (.int .u8 z) := (st.below.cell (p := ⟨vb, vo + k, none⟩) hvb).trans hcell
      clear hcell
      have HN := Lib.hid (feedP_take q0 bs k z hzk)
      have HQ := Lib.hid (HK.out.feedP (bs.take k))
      generalize feedP q0 (bs.take k) = q at *
      have HT : Hid (∀ wx, Below wr.heap.size wr wx → Calls Try.prog 41 #[Esca.escV q.e (.slice F f qq), .int .u8 z] wx (Esca.StepP wx.heap.size wx (Esca.nxE q.e z).1 (Esca.nxE q.e z).2)) := fun wx hb => Esca.stepE_any q.e z _ _ wx (st.par.below hb (Nat.le_refl _)) HQ.out.e hz0 hz255
      have HL := Lib.hid (Esca.nxE_len q.e z)
      have HE : Hid (feed1 q z = ⟨(Esca.nxE q.e z).1, actsF q.s (Esca.nxE q.e z).2⟩) := Lib.hid rfl
      have HOK : Hid (∀ j, Wk W H (actsF q.s ((Esca.nxE q.e z).2.take j))) := fun j => (actsF_ok ((Esca.nxE q.e z).2.take j) q.s HQ.out.k HQ.out.w).1
      have HPL : Hid (∀ a ∈ (Esca.nxE q.e z).2, a.par.length ≤ 1000000) := fun a ha => by have := Esca.nxE_par q.e z HQ.out.e a ha; omega
      generalize (Esca.nxE q.e z).1 = e1 at *
      generalize (Esca.nxE q.e z).2 = l1 at *
      clear hzk
      have x0 := st.box
      go_upto_region 5 with fail
      go_upto_region 6 with (first
        | (with_reducible refine wpList_loadPE x0 (x := .tmp 20) ?_ ?_ ?_ ?_
           · with_reducible rfl
           · rfl
           · rfl)
        | (go_at_call 41
           refine (HT.out _ (Below.refl _ _)).mono ?_
           rintro x w3 ⟨P3, v3, rfl, i3, a3, b3⟩
           obtain ⟨F3, q3, rfl⟩ := Esca.ints_form i3
           obtain ⟨AD, ac, rfl⟩ := Esca.acts_form a3
           have st3 := st.next b3)
        | (with_reducible refine wpList_storeE' (x := .tmp 7) (y := .tmp 24) (e := e1) (F := F3) (f := e1.par.length) (q := q3) ?_ ?_ ?_ ?_ ?_ ?_
           · with_reducible rfl
           · rfl
           · rfl
           · rfl
           · rfl))
      have hz3 := b3.size
      have hzr := st.ans.lt
      have hzl : l1.length ≤ 3 := HL.out
      have E0 : Hid (EBox (w3.alloc (.cells (Esca.escC e1 (.slice F3 e1.par.length q3)) 32)) w3.heap.size e1 (.slice F3 e1.par.length q3)) := Held.new _ _ _
      refine wp_world (fun wq => FS w q F D E f qq n c m d wq ∧ EBox wq w3.heap.size e1 (.slice F3 e1.par.length q3) ∧ Esca.Ints wq (w.heap.size + 2) (.slice F3 e1.par.length q3) e1.par ∧ Esca.Acts wq (w.heap.size + 2) (.slice AD l1.length ac) l1) ⟨st3.next ((Below.refl _ _).alloc (Nat.le_refl _) _), E0.out, (i3.base (by omega)).alloc _, (a3.base (by omega)).alloc _⟩ ?_
      clear st3 E0 i3 a3 HT x0 hcell'
      rintro w4 ⟨st4, xe, i4, a4⟩
      have x4 := st4.box
      have hz4 := xe.lt
      go_upto_region 7 with (first
        | (with_reducible refine wpList_loadE' xe (x := .tmp 7) ?_ ?_ ?_ ?_
           · with_reducible rfl
           · rfl
           · rfl)
        | (with_reducible refine wpList_storePE x4 (x := .tmp 27) (y := .tmp 26) (e' := e1) (F' := F3) (f' := e1.par.length) (q' := q3) ?_ ?_ ?_ ?_ ?_
           · with_reducible rfl
           · rfl
           · rfl
           · rfl))
      refine wp_world (fun wq => FS w ⟨e1, q.s⟩ F3 D E e1.par.length q3 n c m d wq ∧ Esca.Acts wq (w.heap.size + 2) (.slice AD l1.length ac) l1) ⟨⟨x4.setRow _ _ _ _ _, st4.ans.other (by omega) _, ints_put i4 (by omega) _, st4.scr.put (by omega) _, below_setRow st4.below (Nat.le_refl _) _⟩, acts_put a4 (by omega) _⟩ ?_
      clear st4 x4 xe i4 a4 b3 st hz3 hzr hz4
      rintro w5 ⟨st5, a5⟩
      go_wp2_with fail
      go_loopw [30] (ARel w e1 q.s l1 (.slice AD l1.length ac)) (fun i _ => l1.length - (intOf i).toNat)
      case atStart => exact ⟨0, _, _, _, _, _, _, _, _, _, rfl, Nat.zero_le _, st5, a5⟩
      case round =>
        clear st5 a5
        obtain ⟨j, F, D, E, f, qq, n, c, m, d, rfl, hjl, st, a6⟩ := hrel
        by_cases hlt : j < l1.length
        · have hji : (j : Int) < (l1.length : Int) := by omega
          obtain ⟨AD', ac', eA, hA⟩ := a6.read
          cases eA
          obtain ⟨ab, ⟨ak, ar, ap⟩, P, rfl, hzj, y0, y1, y2, iP⟩ := hA j hlt
          clear hA
          dsimp only at y0 y1 y2 iP
          have HN2 := Lib.hid (actsF_take q.s l1 j _ hzj)
          have hap : ap.length ≤ 1000000 := HPL.out _ (List.mem_of_getElem? hzj)
          have hk := HOK.out j
          generalize actsF q.s (l1.take j) = s at *
          have hR := readI_ints iP
          obtain ⟨PD, pc, rfl⟩ := Esca.ints_form iP
          have HA := fun wx (hb : Below wr.heap.size wr wx) => act_all ak ar PD D E pc n c m d ap wx ((st.scr.weak (Nat.zero_le _)).below hb (Nat.le_refl _)) hk (hR.below hb (Nat.le_refl _)) hap
          dsimp only at HA
          have HAH := Lib.hid HA
          clear HA hzj hR iP hk
          have x6 := st.box
          go_upto_region 10 with fail
          have hzr := st.ans.lt
          refine wp_world (fun wq => FS w ⟨e1, s⟩ F D E f qq n c m d wq ∧ Held wq wr.heap.size 44 #[.int .i64 ak, .int .i32 ar, .slice PD ap.length pc] ∧ Below wr.heap.size wr wq) ⟨st.next (by repeat (first | exact (Below.refl _ _).alloc (Nat.le_refl _) _ | refine Below.setCell ?_ (by exact Nat.le_refl _) _)), by first | exact Held.new _ _ _ | exact (((Held.new wr 44 _).set1 0 _).set1 1 _).set1 2 _, by repeat (first | exact (Below.refl _ _).alloc (Nat.le_refl _) _ | refine Below.setCell ?_ (by exact Nat.le_refl _) _)⟩ ?_
          clear y0 y1 y2 x6
          rintro w6 ⟨st6, ha, b6⟩
          have x6 := st6.box
          have y0 := ha.cell 0
          have y1 := ha.cell 1
          have y2 := ha.cell 2
          simp only [List.getElem?_toArray, List.getElem?_cons_zero, List.getElem?_cons_succ] at y0 y1 y2
          go_upto_region 11 with (first
            | (with_reducible refine wpList_loadPG x6 (x := .tmp 34) ?_ ?_ ?_ ?_
               · with_reducible rfl
               · rfl
               · rfl)
            | (go_at_call 14
               refine (HAH.out _ b6).mono ?_
               rintro x w7 ⟨D7, E7, n7, c7, m7, d7, rfl, s7, b7⟩
               have st7 := st6.next b7
               have x7 := st7.box)
            | (with_reducible refine wpList_storePG x7 (x := .tmp 38) (y := .tmp 37) (p' := (actF s ak ar ap).p) (D' := D7) (n' := n7) (c' := c7) (E' := E7) (m' := m7) (d' := d7) ?_ ?_ ?_ ?_ ?_
               · with_reducible rfl
               · rfl
               · rfl
               · rfl))
          go_wp2_with fail
          go_roundw
          case rel =>
            refine ⟨j + 1, F, D7, E7, f, qq, n7, c7, m7, d7, by go_num, by omega, ?_, acts_put ((a6.below (Below.refl _ _) (Nat.le_refl _)).below (b6.trans (b7.mono b6.size)) (Nat.le_refl _)) (by omega) _⟩
            rw [HN2.out]
            have hz7 := b6.size
            exact ⟨x7.setRow _ _ _ _ _, st7.ans.other (by omega) _, ints_put st7.par (by omega) _, (s7.weak (by omega)).put (by omega) _, below_setRow st7.below (Nat.le_refl _) _⟩
          case measure => simp [intOf]; omega
        · have hji : ¬ (j : Int) < (l1.length : Int) := by omega
          have hj : j = l1.length := by omega
          subst hj
          rw [List.take_length] at st
          clear a6
          go_wp2_with fail
          go_roundw
          case rel =>
            refine ⟨k + 1, F, D, E, f, qq, n, c, m, d, by go_num, by omega, ?_⟩
            rw [HN.out, HE.out]
            exact st
          case measure => simp [intOf]; omega
    · have hki : ¬ (k : Int) < (bs.length : Int) := by omega
      have hk : k = bs.length := by omega
      subst hk
      rw [List.take_length] at st
      have x2 := st.box
      have xa := st.ans
      clear HV HK
      obtain ⟨q, hq⟩ : ∃ q, q = feedP q0 bs := ⟨_, rfl⟩
      rw [← hq] at st x2
      have HQ := Lib.hid hq
      clear hq
      go_wp2_with (first
        | (with_reducible refine wpList_loadP x2 (x := .tmp 2) ?_ ?_ ?_ ?_
           · with_reducible rfl
           · rfl
           · rfl)
        | (with_reducible refine wpList_storeP xa (x := .tmp 4) (y := .tmp 41) (e' := q.e) (p' := q.s.p) (F := F) (f := f) (q := qq) (D := D) (E := E) (n := n) (c := c) (m := m) (d := d) ?_ ?_ ?_ ?_ ?_
           · with_reducible rfl
           · rfl
           · rfl
           · rfl))
      refine bodyPost_ret (v := pv q.e (.slice F f qq) q.s.p (.slice D n c) (.slice E m d)) (results_cell_row (P := Try.prog) Try.results20 _ _ (w.heap.size + 1) 37 _ (0, 0) _ rfl (xa.setRow _ _ _ _ _) Try.underlying37 rfl pbox_size) rfl ?_
      rw [← HQ.out]
      exact ⟨_, _, _, _, _, _, _, _, _, rfl, (ints_put (k := w.heap.size + 1) st.par (by omega) _).base (show w.heap.size ≤ w.heap.size + 2 by omega), (st.scr.put (k := w.heap.size + 1) (by omega) _).weak (show w.heap.size ≤ w.heap.size + 2 by omega), below_setRow st.below (Nat.le_succ _) _⟩
end Go.Proofs.Ytpcpmeihebgncaa
