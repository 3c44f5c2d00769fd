/-
  What Up of package grid answers. Conditions: a screen of one to a thousand rows, rows of at most a thousand cells, at most fifty lines that went.
-/
import Derived.Test.YtpcpmeihebgncaaBox
import Derived.Test.YtpcpmeihebgncaaChg
import Derived.Deep.Cut
import Derived.Deep.DeepCutAuto
namespace Go.Proofs.Ytpcpmeihebgncaa
open Go.RowKit
set_option maxRecDepth 100000

/-- The rows behind Up: f to t are those that go, by k. -/
def upL (L : List (List C)) (f t k : Nat) (x : Int) : List (List C) := [L.take f, (L.take t).drop (f + k), blankL x k, L.drop t].flatten
/-- The lines that went, behind Up. -/
def upBack (L Bk : List (List C)) (f k : Nat) : List (List C) := if f = 0 then [Bk, L.take k].flatten.drop ([Bk, L.take k].flatten.length - 50) else Bk

theorem upL_len {L : List (List C)} {f t k n : Nat} (x : Int) (hn : L.length = n) (h1 : f + k ≤ t) (h2 : t ≤ n) : (upL L f t k x).length = n := by
  simp only [upL, blankL, List.flatten_cons, List.flatten_nil, List.length_append, List.length_take, List.length_drop, List.length_replicate, List.length_nil]
  omega
theorem blankF_le (x : Int) : (blankF x).length ≤ 1000 := by rw [blankF_len]; unfold withinF; omega
theorem upL_rows {L : List (List C)} {f t k : Nat} {x : Int} (hl : ∀ r ∈ L, r.length ≤ 1000) : ∀ r ∈ upL L f t k x, r.length ≤ 1000 := by
  intro r hr
  simp only [upL, List.flatten_cons, List.flatten_nil, List.mem_append, List.append_nil] at hr
  rcases hr with h | h | h | h
  · exact hl r (List.mem_of_mem_take h)
  · exact hl r (List.mem_of_mem_take (List.mem_of_mem_drop h))
  · rw [(List.mem_replicate.1 h).2]; exact blankF_le x
  · exact hl r (List.mem_of_mem_drop h)
theorem upBack_len {L Bk : List (List C)} {f k : Nat} (hb : Bk.length ≤ 50) : (upBack L Bk f k).length ≤ 50 := by
  unfold upBack
  split
  · rw [List.length_drop]; omega
  · exact hb
theorem upBack_rows {L Bk : List (List C)} {f k : Nat} (hl : ∀ r ∈ L, r.length ≤ 1000) (hb : ∀ r ∈ Bk, r.length ≤ 1000) : ∀ r ∈ upBack L Bk f k, r.length ≤ 1000 := by
  intro r hr
  unfold upBack at hr
  split at hr
  · have := List.mem_of_mem_drop hr
    simp only [List.flatten_cons, List.flatten_nil, List.mem_append, List.append_nil] at this
    rcases this with h | h
    · exact hb r h
    · exact hl r (List.mem_of_mem_take h)
  · exact hb r hr
theorem tabs4 {w : World} {rb ro c n f t k g q : Nat} {vs bvs : List Value} {E1 E2 : Option Addr} (hvs : TabAt 0 w (some ⟨rb, ro, none⟩) vs) (hvl : vs.length = n) (hnc : n ≤ c) (hft : f + k ≤ t) (htn : t ≤ n)
    (hE1 : (if c = f + k then some (⟨rb, ro, none⟩ : Addr) else some ⟨rb, ro + (f + k), none⟩) = E1) (hE2 : (if c = t then some (⟨rb, ro, none⟩ : Addr) else some ⟨rb, ro + t, none⟩) = E2) (hb : TabAt 0 w (some ⟨g, 0, none⟩) bvs) (hq : bvs.length = q) :
    TabsV w [.slice (some ⟨rb, ro, none⟩) f c, .slice E1 (t - (f + k)) (c - (f + k)), .slice (some ⟨g, 0, none⟩) q q, .slice E2 (n - t) (c - t)] [vs.take f, (vs.take t).drop (f + k), bvs, vs.drop t] := by
  refine ⟨rfl, fun j h1 h2 => ?_⟩
  subst hE1 hE2 hq
  match j, h1 with
  | 0, _ => exact ⟨_, c, by rw [show f = (vs.take f).length by rw [List.length_take]; omega]; simp, hvs.take f⟩
  | 1, _ => exact ⟨_, c - (f + k), by have : ((vs.take t).drop (f + k)).length = t - (f + k) := by rw [List.length_drop, List.length_take]; omega
                                      simp [this], (hvs.take t).cut (lo := f + k) (cap := c) (by rw [List.length_take]; omega)⟩
  | 2, _ => exact ⟨_, bvs.length, rfl, hb⟩
  | 3, _ => exact ⟨_, c - t, by have : (vs.drop t).length = n - t := by rw [List.length_drop]; omega
                                simp [this], hvs.cut (lo := t) (cap := c) (by omega)⟩

/-- What stands ahead of the copy: the box, the answer's place, the lines that will have gone. -/
def BackRel (w : World) (p : Nm) (r b : Value) (Bk' : List (List C)) (v : Value) (wx : World) : Prop :=
  ∃ D c vs, v = .slice D vs.length c ∧ vs.length ≤ c ∧ TabAt 0 wx D vs ∧ RowsV 0 wx vs Bk' ∧ Box wx w.heap.size p r b ∧ Box wx (w.heap.size + 1) zeroNm nilV nilV ∧ Below w.heap.size w wx

set_option maxRecDepth 100000 in
theorem OTab.put15 {B : Nat} {w : World} {k : Nat} {L : List (List C)} (h : OTab B w k L) {g : Nat} (hg : g < B) (p : Nm) (r b : Value) : OTab B (Ytpcpmeihebgncaa.put15 w g p r b) k L :=
  (((((((((((((((h.far (p := ⟨g, 0, none⟩) hg _).far (p := ⟨g, 1, none⟩) hg _).far (p := ⟨g, 2, none⟩) hg _).far (p := ⟨g, 3, none⟩) hg _).far (p := ⟨g, 4, none⟩) hg _).far (p := ⟨g, 5, none⟩) hg _).far (p := ⟨g, 6, none⟩) hg _).far (p := ⟨g, 7, none⟩) hg _).far (p := ⟨g, 8, none⟩) hg _).far (p := ⟨g, 9, none⟩) hg _).far (p := ⟨g, 10, none⟩) hg _).far (p := ⟨g, 11, none⟩) hg _).far (p := ⟨g, 12, none⟩) hg _).far (p := ⟨g, 13, none⟩) hg _).far (p := ⟨g, 14, none⟩) hg _)
set_option maxHeartbeats 400000 in
theorem gownO_any (D : Option Addr) (c : Nat) (M : List (List C)) (w : World) (hr : Lines 0 w D M) (hn : M.length ≤ 1050) (hl : ∀ r ∈ M, r.length ≤ 1000) : Calls Try.prog 92 #[.slice D M.length c] w (OLPost w M) := by
  have hm := run_makeL w M.length (by omega)
  have HS := Lib.hid (FillSt.start w M)
  have HR := Lib.hid hr
  clear hr
  go_enter Try.func92, Try.ntmps92
  go_wp2_with fail
  go_loopw [11] (FillRel w w.heap.size M) (fun i _ => M.length - (intOf i).toNat)
  case atStart => exact ⟨[], rfl, HS.out⟩
  case round =>
    obtain ⟨vs, rfl, hst⟩ := hrel
    by_cases hlt : vs.length < M.length
    · have hki : (vs.length : Int) < (M.length : Int) := by omega
      obtain ⟨b, off, E, ce, rfl, _, hbl, _, hcell, hce, hrow⟩ := (HR.out.below hst.below (Nat.le_refl _)).at vs.length hlt
      have hrn : M[vs.length].length ≤ 1000 := hl _ (List.getElem_mem _)
      have HROW := Lib.hid hrow
      clear hrow
      have HCL := Lib.hid (clone_any E ce M[vs.length] wr HROW.out hrn)
      have HST := Lib.hid hst
      have hfl := fillV_cell hst.table hlt
      have hgl := hst.table.lt
      have hfz := hst.table.frozen
      clear hst hrn
      generalize hq : M[vs.length] = q at *
      have HQ := Lib.hid hq
      clear hq
      go_wp2_with (
        go_at_call 95
        refine HCL.out.mono ?_
        rintro e w1 ⟨D1, c1, rfl, hc1, hr1, hb1⟩
        have hfl1 := (fillV_cell (HST.out.table.below hb1 hgl) hlt)
        have hfz1 := (HST.out.table.below hb1 hgl).frozen)
      go_roundw
      case rel =>
        refine ⟨vs ++ [.slice D1 q.length c1], by simp, HST.out.next (Nat.le_refl _) hb1 hlt ⟨D1, c1, ?_, ?_, ?_⟩⟩
        · rw [HQ.out]
        · rw [HQ.out]; exact hc1
        · rw [HQ.out]; exact hr1
      case measure => simp [intOf]; omega
    · have ek : vs.length = M.length := by have := hst.le; omega
      have hki : ¬ (vs.length : Int) < (M.length : Int) := by omega
      have HP := Lib.hid (hst.opost (Nat.le_refl _) ek)
      clear hst ek
      go_wp2_with fail
      go_ret
      exact HP.out

theorem own_ownO (B n : Nat) (v : Value) (vs : List Value) (M : List (List C)) (w : World) (h : w.ownsRow B 46 1 v n vs) (hr : RowsV 0 w vs M) (hn : M.length ≤ 1050) (hl : ∀ r ∈ M, r.length ≤ 1000) : Calls Try.prog 92 #[v] w (OLPost w M) := by
  obtain ⟨D, c, rfl, _, ht⟩ := own_tab h
  rw [hr.1]
  exact gownO_any D c M w ⟨vs, ht.weak (Nat.zero_le _), hr⟩ hn hl

set_option maxHeartbeats 4000000 in
theorem upO_any (p : Nm) (D E : Option Addr) (n c m d : Nat) (L Bk : List (List C)) (top bottom z : Int) (w : World) (hs : Scr 0 w D E n c m d L Bk) (h0 : 1 ≤ n) (hn : n ≤ 1000) (hm : m ≤ 50) (hl : ∀ r ∈ L, r.length ≤ 1000) (hlb : ∀ r ∈ Bk, r.length ≤ 1000) :
    Calls Try.prog 96 #[gv p (.slice D n c) (.slice E m d), .int .i64 top, .int .i64 bottom, .int .i64 z] w
      (OwnPost w p (upL L (fromF n top) (toF n top bottom) (withinF z (toF n top bottom - fromF n top)).toNat p.w) (upBack L Bk (fromF n top) (withinF z (toF n top bottom - fromF n top)).toNat)) := by
  have hft : fromF n top ≤ toF n top bottom := by unfold toF; omega
  have htn : toF n top bottom ≤ n := by unfold toF fromF withinF; omega
  have HP := Lib.hid (fun w => part_any p D n c (.slice E m d) top bottom w h0 (by omega))
  generalize fromF n top = f at *
  generalize toF n top bottom = t at *
  obtain ⟨k, hk⟩ : ∃ k : Nat, withinF z ((t : Int) - f) = k := ⟨(withinF z (t - f)).toNat, by unfold withinF; omega⟩
  have hkt : f + k ≤ t := by have : withinF z ((t : Int) - f) ≤ t - f := by unfold withinF; omega
                             omega
  have HK : Hid (∀ w, Calls Try.prog 91 #[.int .i64 z, .int .i64 ((t : Int) - f)] w fun e w' => e = .returned (.int .i64 k) ∧ w = w') := fun w => by rw [← hk]; exact gwithin_any z _ w
  rw [hk, Int.toNat_natCast]
  clear hk
  obtain ⟨rb, ro, rfl⟩ := hs.some h0
  have HS := Lib.hid hs
  clear hs
  unfold gv gcs
  go_enter Try.func96, Try.ntmps96
  go_wp2_with fail
  refine (HP.out _).mono ?_
  rintro e w1 ⟨rfl, hb1⟩
  have x1 : Box w1 w.heap.size p (.slice (some ⟨rb, ro, none⟩) n c) (.slice E m d) := ((Box.new w p _ _).alloc _).below hb1 (by simp; omega)
  have x2 : Box w1 (w.heap.size + 1) zeroNm nilV nilV := by
    have := (Box.new (w.alloc (.cells (gcs p (.slice (some ⟨rb, ro, none⟩) n c) (.slice E m d)) 35)) zeroNm nilV nilV).below hb1 (by simp)
    simpa using this
  have b1 : Below w.heap.size w w1 := ((Below.refl _ _).alloc (Nat.le_refl _) _).alloc (by simp) _ |>.trans (hb1.mono (by simp; omega))
  clear hb1
  have y14 := x1.cells.c14
  go_upto_if 28 with (go_at_call 91; refine (HK.out _).mono ?_; rintro e w' ⟨rfl, rfl⟩)
  go_cut [11] (BackRel w p (.slice (some ⟨rb, ro, none⟩) n c) (.slice E m d) (upBack L Bk f k))
  case first =>
    by_cases hf : f = 0
    · have hfi : ((f : Int) == 0) = true := by rw [hf]; rfl
      have HF := Lib.hid hf
      clear hf
      have y13 := x1.cells.c13
      obtain ⟨vs, hvs, hrv⟩ := HS.out.rows
      obtain ⟨us, hus, hru⟩ := HS.out.back
      have hvl : vs.length = n := by rw [hrv.1, HS.out.nr]
      have hul : us.length = m := by rw [hru.1, HS.out.nb]
      have hkc : (k : Int) ≤ c := by have := HS.out.cr; omega
      have HV := Lib.hid hvl
      have HU := Lib.hid hul
      clear hvl hul
      go_wp2_with fail
      go_still_tail 6, (by kernel_rfl)
      change wpList _ _ _ _ _ w1.drew
      have b2 : Below w.heap.size w w1.drew := below_drewN b1 1
      have x12 : Box w1.drew w.heap.size p (.slice (some ⟨rb, ro, none⟩) n c) (.slice E m d) := x1
      have x22 : Box w1.drew (w.heap.size + 1) zeroNm nilV nilV := x2
      generalize w1.drew = w2 at *
      have HT : Hid (TabsV (w2.alloc (.cells #[.slice E m d, .slice (some ⟨rb, ro, none⟩) k c] 33)) [.slice E m d, .slice (some ⟨rb, ro, none⟩) k c] [us, vs.take k]) := by
        refine ⟨rfl, fun j h1 h2 => ?_⟩
        have b3 : Below w.heap.size w (w2.alloc (.cells #[.slice E m d, .slice (some ⟨rb, ro, none⟩) k c] 33)) := b2.alloc b2.size _
        match j, h1 with
        | 0, _ => exact ⟨E, d, by simp [HU.out], hus.below b3 (Nat.le_refl _)⟩
        | 1, _ => exact ⟨_, c, by have : min k vs.length = k := by have := HV.out; omega
                                  simp [this], (hvs.take k).below b3 (Nat.le_refl _)⟩
      have HFL : Hid ([us, vs.take k].flatten.length ≤ 100000) := by
        have h1 := HV.out
        have h2 := HU.out
        show _ ≤ _
        simp
        omega
      have H1 := Lib.hid (hru.append ((hrv.take k).append (RowsV.nil _ _))).one_cell
      go_wp2_with (first
        | (go_at_call 135
           refine (concat_any _ _ [us, vs.take k] _ (Held.new _ _ _) HT.out H1.out HFL.out (by simp)).mono ?_
           rintro e w3 ⟨v3, rfl, ho3, hb3⟩)
        | (go_at_call 134
           refine (newest_own _ _ _ _ _ ho3 HFL.out).mono ?_
           rintro e w' ⟨E4, d4, rfl, hd4, ht4, rfl⟩))
      go_meet
      have b3 : Below w.heap.size w w3 := (b2.alloc b2.size _).trans (hb3.mono (by simp; have := b2.size; omega))
      have b23 : Below w2.heap.size w2 w3 := ((Below.refl _ _).alloc (Nat.le_refl _) _).trans (hb3.mono (by simp))
      refine ⟨E4, d4, _, by simp, hd4, ht4, ?_, x12.below b23 x12.lt, x22.below b23 x22.lt, b3⟩
      have hq : RowsV 0 w3 [us, vs.take k].flatten [Bk, L.take k].flatten := (hru.append ((hrv.take k).append (RowsV.nil _ _))).below b3 (Nat.le_refl _)
      unfold upBack
      rw [if_pos HF.out, ← hq.1]
      exact hq.drop _
    · have hfi : ((f : Int) == 0) = false := beq_eq_false_iff_ne.2 (by omega)
      go_wp2_with fail
      go_meet
      obtain ⟨us, hus, hru⟩ := (HS.out.back.below b1 (Nat.le_refl _))
      have e : us.length = m := by rw [hru.1, HS.out.nb]
      refine ⟨E, d, us, by rw [e], by rw [e]; exact HS.out.cb, hus, ?_, x1, x2, b1⟩
      unfold upBack
      rw [if_neg hf]
      exact hru
  case rest =>
    clear x1 x2 b1 y14
    obtain ⟨Eb, cb, ws, rfl, hcb, htb, hrb, x1, x2, b1⟩ := hcut
    have hz1 := x1.lt
    have hz2 := x2.lt
    have hx := x1.cells
    obtain ⟨y0, y1, y2, y3, y4, y5, y6, y7, y8, y9, y10, y11, y12, y13, y14, yf⟩ := hx
    go_wp2_with fail
    refine wp_world (fun wq => Box wq w.heap.size p (.slice (some ⟨rb, ro, none⟩) n c) (.slice E m d) ∧ Box wq (w.heap.size + 1) zeroNm nilV nilV ∧ Box wq wc.heap.size p (.slice (some ⟨rb, ro, none⟩) n c) (.slice E m d) ∧ Below wc.heap.size wc wq)
      ⟨x1.alloc _, x2.alloc _, Box.new wc p _ _, (Below.refl _ _).alloc (Nat.le_refl _) _⟩ ?_
    clear y0 y1 y2 y3 y4 y5 y6 y7 y8 y9 y10 y11 y12 y13 y14 yf x1 x2
    rintro wq ⟨x1, x2, x3, bq⟩
    have hz3 := x3.lt
    have x1d : Box wq.drew w.heap.size p (.slice (some ⟨rb, ro, none⟩) n c) (.slice E m d) := x1
    have x2d : Box wq.drew (w.heap.size + 1) zeroNm nilV nilV := x2
    have x3d : Box wq.drew wc.heap.size p (.slice (some ⟨rb, ro, none⟩) n c) (.slice E m d) := x3
    have bqd : Below wc.heap.size wc wq.drew := below_drewN bq 1
    clear x1 x2 x3 bq
    have y0 := x1d.cells.c0
    have y13 := x1d.cells.c13
    obtain ⟨E1, hE1⟩ : ∃ E1, (if c = f + k then some (⟨rb, ro, none⟩ : Addr) else some ⟨rb, ro + (f + k), none⟩) = E1 := ⟨_, rfl⟩
    obtain ⟨E2, hE2⟩ : ∃ E2, (if c = t then some (⟨rb, ro, none⟩ : Addr) else some ⟨rb, ro + t, none⟩) = E2 := ⟨_, rfl⟩
    have s1 : IntKind.i64.wrap ((f : Int) + k) = (f : Int) + k := IntWalk.i64_in _ (by omega)
    have hnc := HS.out.cr
    have t1 : (0 : Int) ≤ (f : Int) + k := by omega
    have t2 : ((f : Int) + k).toNat = f + k := by omega
    have t3 : (f : Int) + k ≤ (t : Int) := by omega
    have t4 : (f : Int) ≤ (c : Int) := by omega
    have t5 : (t : Int) ≤ (c : Int) := by omega
    have t6 : (t : Int) ≤ (n : Int) := by omega
    have t7 : (f : Int) + k ≤ (c : Int) := by omega
    have t8 : f + k ≤ t := by omega
    obtain ⟨vs, hvs, hrv⟩ := HS.out.rows
    have HV := Lib.hid (hrv.1.trans HS.out.nr)
    have HE1 := Lib.hid hE1
    have HE2 := Lib.hid hE2
    have HUL := Lib.hid (upL_len p.w HS.out.nr hkt htn)
    go_region_held3 (fun w' => w'.cell? ⟨w.heap.size, 0, none⟩ = some (.int .i64 p.w) ∧ w'.cell? ⟨w.heap.size, 13, none⟩ = some (.slice (some ⟨rb, ro, none⟩) n c))
      (first
        | with_reducible exact ⟨y0, y13⟩
        | with_reducible exact ⟨y04, y134⟩
        | with_reducible exact ⟨y05, y135⟩
        | with_reducible exact ⟨y06, y136⟩
        | with_reducible exact ⟨y07, y137⟩
        | with_reducible exact ⟨y08, y138⟩
        | fail)
      (first
        | (go_at_call 88
           (with_reducible refine (gblanks_any p.w k _ (by omega)).mono ?_)
           rintro e w4 ⟨g4, rfl, hl4, hb4⟩
           have hz4 := hb4.size
           have bq4 : Below wc.heap.size wc w4 := bqd.trans (hb4.mono bqd.size)
           obtain ⟨bvs, hbt, hbr⟩ := hl4
           have HB4 := Lib.hid hbr.1
           have hT4 := fun (w5 : World) (h : Below w4.heap.size w4 w5) => tabs4 ((hvs.below b1 (Nat.le_refl _)).below (bq4.trans (h.mono bq4.size)) (Nat.le_refl _)) HV.out hnc hkt htn HE1.out HE2.out ((hbt.weak (Nat.zero_le _)).below h (Nat.le_refl _)) HB4.out
           have HT4 := Lib.hid hT4
           have hr4 : ∀ w5, Below w4.heap.size w4 w5 → RowsV 0 w5 [vs.take f, (vs.take t).drop (f + k), bvs, vs.drop t].flatten (upL L f t k p.w) := fun w5 h => by
             have hx := (hrv.below b1 (Nat.le_refl _)).below (bq4.trans (h.mono bq4.size)) (Nat.le_refl _)
             exact (hx.take f).append (((hx.take t).drop (f + k)).append (((hbr.weak (Nat.zero_le _)).below h (Nat.le_refl _)).append ((hx.drop t).append (RowsV.nil _ _))))
           have HR4 := Lib.hid hr4
           have x14 := x1d.below hb4 (by exact x1d.lt)
           have x24 := x2d.below hb4 (by exact x2d.lt)
           have x34 := x3d.below hb4 (by exact x3d.lt)
           have y04 := x14.cells.c0
           have y134 := x14.cells.c13
           have x15 := x14.alloc (.cells #[.slice (some ⟨rb, ro, none⟩) f c, .slice E1 (t - (f + k)) (c - (f + k)), .slice (some ⟨g4, 0, none⟩) (blankL p.w k).length (blankL p.w k).length, .slice E2 (n - t) (c - t)] 33)
           have y05 := x15.cells.c0
           have y135 := x15.cells.c13
           clear hbt hbr hT4 hr4)
        | (go_at_call 135
           have b45 : Below w4.heap.size w4 (w4.alloc (.cells #[.slice (some ⟨rb, ro, none⟩) f c, .slice E1 (t - (f + k)) (c - (f + k)), .slice (some ⟨g4, 0, none⟩) (blankL p.w k).length (blankL p.w k).length, .slice E2 (n - t) (c - t)] 33)) := (Below.refl _ _).alloc (Nat.le_refl _) _
           refine (concat_any _ _ [vs.take f, (vs.take t).drop (f + k), bvs, vs.drop t] _ (Held.new _ _ _) (HT4.out _ b45) (HR4.out _ b45).one_cell (by rw [(HR4.out _ b45).1, HUL.out]; omega) (by simp)).mono ?_
           rintro e w6 ⟨v6, rfl, ho6, hb6⟩
           have b46 : Below w4.heap.size w4 w6 := b45.trans (hb6.mono (by simp))
           have x16 := x14.below b46 x14.lt
           have x26 := x24.below b46 x24.lt
           have x36 := x34.below b46 x34.lt
           have y06 := x16.cells.c0
           have y136 := x16.cells.c13)
        | (go_at_call 92
           refine (own_ownO _ _ _ _ _ _ ho6 (HR4.out _ b46) (by rw [HUL.out]; omega) (upL_rows hl)).mono ?_
           rintro e w7 ⟨g7, rfl, hl7, hb7⟩
           have x17 := x16.below hb7 x16.lt
           have x27 := x26.below hb7 x26.lt
           have x37 := x36.below hb7 x36.lt
           have y07 := x17.cells.c0
           have y137 := x17.cells.c13
           have x18 := x17.far (q := ⟨wc.heap.size, 13, none⟩) (by exact (by omega : w.heap.size ≠ wc.heap.size)) (.slice (some ⟨g7, 0, none⟩) (upL L f t k p.w).length (upL L f t k p.w).length)
           have y08 := x18.cells.c0
           have y138 := x18.cells.c13
           have z13 := x37.cells.c13
           have zf := x37.cells.free))
    have hq6 : wc.heap.size < w6.heap.size := x36.lt
    have x28 := x27.far (q := ⟨wc.heap.size, 13, none⟩) (by exact (by omega : w.heap.size + 1 ≠ wc.heap.size)) (.slice (some ⟨g7, 0, none⟩) (upL L f t k p.w).length (upL L f t k p.w).length)
    have x38 := x37.set_rows (.slice (some ⟨g7, 0, none⟩) (upL L f t k p.w).length (upL L f t k p.w).length)
    have l8 := hl7.far (p := ⟨wc.heap.size, 13, none⟩) (by exact hq6) (.slice (some ⟨g7, 0, none⟩) (upL L f t k p.w).length (upL L f t k p.w).length)
    have b47 : Below wc.heap.size wc w7 := (bq4.trans (b46.mono bq4.size)).trans (hb7.mono (by omega))
    have b8 := b47.setCell (p := ⟨wc.heap.size, 13, none⟩) (by exact Nat.le_refl _) (.slice (some ⟨g7, 0, none⟩) (upL L f t k p.w).length (upL L f t k p.w).length)
    have hw6 := b46.size
    have hw4 := bq4.size
    clear x18 y08 y138 z13 zf y07 y137 x17 x27 x37 hl7 hb7 b47
    generalize (w7.setCell ⟨wc.heap.size, 13, none⟩ (.slice (some ⟨g7, 0, none⟩) (upL L f t k p.w).length (upL L f t k p.w).length)) = w8 at *
    clear x16 x26 x36 y06 y136 ho6 hb6 b45 x15 y05 y135 x14 x24 x34 y04 y134 hb4 bqd x1d x2d x3d y0 y13
    have HO8 : Hid (Calls Try.prog 92 #[.slice Eb ws.length cb] w8 (OLPost w8 (upBack L Bk f k))) := by
      show Calls _ _ _ _ _
      rw [hrb.1]
      exact gownO_any Eb cb _ w8 ⟨ws, htb.below b8 (Nat.le_refl _), hrb.below b8 (Nat.le_refl _)⟩ (Nat.le_trans (upBack_len (by rw [HS.out.nb]; exact hm)) (by decide)) (upBack_rows hl hlb)
    go_wp2_with fail
    refine HO8.out.mono ?_
    rintro e w9 ⟨g9, rfl, l9, hb9⟩
    have hne : g7 ≠ g9 := by have := l8.lt; have := l9.low; omega
    have x29 := x28.below hb9 x28.lt
    have x39 := x38.below hb9 x38.lt
    have l89 := l8.below hb9 (Nat.le_refl _)
    have y14 := x39.cells.c14
    have yf := x39.cells.free
    have hq8 := x38.lt
    have b9 : Below wc.heap.size wc w9 := b8.trans (hb9.mono b8.size)
    have x2a := x29.far (q := ⟨wc.heap.size, 14, none⟩) (by exact (by omega : w.heap.size + 1 ≠ wc.heap.size)) (.slice (some ⟨g9, 0, none⟩) (upBack L Bk f k).length (upBack L Bk f k).length)
    have x3a := x39.set_back (.slice (some ⟨g9, 0, none⟩) (upBack L Bk f k).length (upBack L Bk f k).length)
    have l8a := l89.far (p := ⟨wc.heap.size, 14, none⟩) (by exact hq6) (.slice (some ⟨g9, 0, none⟩) (upBack L Bk f k).length (upBack L Bk f k).length)
    have l9a := l9.far (p := ⟨wc.heap.size, 14, none⟩) (by exact hq8) (.slice (some ⟨g9, 0, none⟩) (upBack L Bk f k).length (upBack L Bk f k).length)
    have ba := b9.setCell (p := ⟨wc.heap.size, 14, none⟩) (by exact Nat.le_refl _) (.slice (some ⟨g9, 0, none⟩) (upBack L Bk f k).length (upBack L Bk f k).length)
    have s9 := hb9.size
    go_upto_region 9 with fail
    clear y14 yf x29 x39 l89 l9 x28 x38 l8 b9 hb9 b8
    generalize (w9.setCell ⟨wc.heap.size, 14, none⟩ (.slice (some ⟨g9, 0, none⟩) (upBack L Bk f k).length (upBack L Bk f k).length)) = wa at *
    have HZ := Lib.hid (put15_box x2a (p := p) (.slice (some ⟨g7, 0, none⟩) (upL L f t k p.w).length (upL L f t k p.w).length) (.slice (some ⟨g9, 0, none⟩) (upBack L Bk f k).length (upBack L Bk f k).length)).cells
    have hc2 := x2a.cells
    have hc3 := x3a.cells
    simp only [zeroNm] at hc2
    obtain ⟨a0, a1, a2, a3, a4, a5, a6, a7, a8, a9, a10, a11, a12, a13, a14, af⟩ := hc2
    obtain ⟨y0, y1, y2, y3, y4, y5, y6, y7, y8, y9, y10, y11, y12, y13, y14, yf⟩ := hc3
    have HL8 := Lib.hid (l8a.put15 (g := w.heap.size + 1) (by omega) p (.slice (some ⟨g7, 0, none⟩) (upL L f t k p.w).length (upL L f t k p.w).length) (.slice (some ⟨g9, 0, none⟩) (upBack L Bk f k).length (upBack L Bk f k).length))
    have HL9 := Lib.hid (l9a.put15 (g := w.heap.size + 1) (by omega) p (.slice (some ⟨g7, 0, none⟩) (upL L f t k p.w).length (upL L f t k p.w).length) (.slice (some ⟨g9, 0, none⟩) (upBack L Bk f k).length (upBack L Bk f k).length))
    have hBA := put15_below (b1.trans (ba.mono b1.size)) (Nat.le_succ _) p (.slice (some ⟨g7, 0, none⟩) (upL L f t k p.w).length (upL L f t k p.w).length) (.slice (some ⟨g9, 0, none⟩) (upBack L Bk f k).length (upBack L Bk f k).length)
    have hs1 := b1.size
    have hzz := x2a.lt
    clear x2a x3a l8a l9a
    go_wp2_with fail
    change bodyPost _ _ _ _ _ (put15 wa (w.heap.size + 1) p (.slice (some ⟨g7, 0, none⟩) (upL L f t k p.w).length (upL L f t k p.w).length) (.slice (some ⟨g9, 0, none⟩) (upBack L Bk f k).length (upBack L Bk f k).length))
    clear a0 a1 a2 a3 a4 a5 a6 a7 a8 a9 a10 a11 a12 a13 a14 af y0 y1 y2 y3 y4 y5 y6 y7 y8 y9 y10 y11 y12 y13 y14 yf
    generalize (put15 wa (w.heap.size + 1) p (.slice (some ⟨g7, 0, none⟩) (upL L f t k p.w).length (upL L f t k p.w).length) (.slice (some ⟨g9, 0, none⟩) (upBack L Bk f k).length (upBack L Bk f k).length)) = wz at *
    obtain ⟨y0, y1, y2, y3, y4, y5, y6, y7, y8, y9, y10, y11, y12, y13, y14, yf⟩ := HZ.out
    refine bodyPost_ret (v := gv p (.slice (some ⟨g7, 0, none⟩) (upL L f t k p.w).length (upL L f t k p.w).length) (.slice (some ⟨g9, 0, none⟩) (upBack L Bk f k).length (upBack L Bk f k).length)) (by simp [results, Try.results96, go_sem, gv, gcs, y0, y1, y2, y3, y4, y5, y6, y7, y8, y9, y10, y11, y12, y13, y14]) rfl ?_
    exact ⟨g7, g9, rfl, ⟨HL8.out.weak (by omega), HL9.out.weak (by omega), hne⟩, hBA⟩
theorem up_any (p : Nm) (D E : Option Addr) (n c m d : Nat) (L Bk : List (List C)) (top bottom z : Int) (w : World) (hs : Scr 0 w D E n c m d L Bk) (h0 : 1 ≤ n) (hn : n ≤ 1000) (hm : m ≤ 50) (hl : ∀ r ∈ L, r.length ≤ 1000) (hlb : ∀ r ∈ Bk, r.length ≤ 1000) :
    Calls Try.prog 96 #[gv p (.slice D n c) (.slice E m d), .int .i64 top, .int .i64 bottom, .int .i64 z] w
      (GridPost w p (upL L (fromF n top) (toF n top bottom) (withinF z (toF n top bottom - fromF n top)).toNat p.w) (upBack L Bk (fromF n top) (withinF z (toF n top bottom - fromF n top)).toNat)) :=
  (upO_any p D E n c m d L Bk top bottom z w hs h0 hn hm hl hlb).mono fun _ _ ⟨_, _, e, s, b⟩ => ⟨_, _, _, _, _, _, e, s.scr, b⟩
end Go.Proofs.Ytpcpmeihebgncaa
