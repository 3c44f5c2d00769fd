/-
  What Up of package grid answers. Conditions: a screen of one to a thousand rows, rows of at most a thousand cells, at most fifty lines that went.
-/
import Derived.Test.YtpcpmeihebgncaaB2
import Derived.Test.YtpcpmeihebgncaaB3
import Derived.Deep.Cut
import Derived.Deep.DeepCutAuto
namespace Go.Proofs.Ytpcpmeihebgncaa
open Go.RowKit
set_option maxRecDepth 100000

/-- The rows behind Up: f to t are those that go, by k. -/
def upL (L : List (List C)) (f t k : Nat) (x : Int) : List (List C) := [L.take f, (L.take t).drop (f + k), blankL x k, L.drop t].flatten
/-- The lines that went, behind Up. -/
def upBack (L Bk : List (List C)) (f k : Nat) : List (List C) := if f = 0 then [Bk, L.take k].flatten.drop ([Bk, L.take k].flatten.length - 50) else Bk

theorem upL_len {L : List (List C)} {f t k n : Nat} (x : Int) (hn : L.length = n) (h1 : f + k ≤ t) (h2 : t ≤ n) : (upL L f t k x).length = n := by
  simp only [upL, blankL, List.flatten_cons, List.flatten_nil, List.length_append, List.length_take, List.length_drop, List.length_replicate, List.length_nil]
  omega
theorem blankF_le (x : Int) : (blankF x).length ≤ 1000 := by rw [blankF_len]; unfold withinF; omega
theorem upL_rows {L : List (List C)} {f t k : Nat} {x : Int} (hl : ∀ r ∈ L, r.length ≤ 1000) : ∀ r ∈ upL L f t k x, r.length ≤ 1000 := by
  intro r hr
  simp only [upL, List.flatten_cons, List.flatten_nil, List.mem_append, List.append_nil] at hr
  rcases hr with h | h | h | h
  · exact hl r (List.mem_of_mem_take h)
  · exact hl r (List.mem_of_mem_take (List.mem_of_mem_drop h))
  · rw [(List.mem_replicate.1 h).2]; exact blankF_le x
  · exact hl r (List.mem_of_mem_drop h)
theorem upBack_len {L Bk : List (List C)} {f k : Nat} (hb : Bk.length ≤ 50) : (upBack L Bk f k).length ≤ 50 := by
  unfold upBack
  split
  · rw [List.length_drop]; omega
  · exact hb
theorem upBack_rows {L Bk : List (List C)} {f k : Nat} (hl : ∀ r ∈ L, r.length ≤ 1000) (hb : ∀ r ∈ Bk, r.length ≤ 1000) : ∀ r ∈ upBack L Bk f k, r.length ≤ 1000 := by
  intro r hr
  unfold upBack at hr
  split at hr
  · have := List.mem_of_mem_drop hr
    simp only [List.flatten_cons, List.flatten_nil, List.mem_append, List.append_nil] at this
    rcases this with h | h
    · exact hb r h
    · exact hl r (List.mem_of_mem_take h)
  · exact hb r hr
theorem tabs4 {w : World} {rb ro c n f t k g q : Nat} {vs bvs : List Value} {E1 E2 : Option Addr} (hvs : TabAt 0 w (some ⟨rb, ro, none⟩) vs) (hvl : vs.length = n) (hnc : n ≤ c) (hft : f + k ≤ t) (htn : t ≤ n)
    (hE1 : (if c = f + k then some (⟨rb, ro, none⟩ : Addr) else some ⟨rb, ro + (f + k), none⟩) = E1) (hE2 : (if c = t then some (⟨rb, ro, none⟩ : Addr) else some ⟨rb, ro + t, none⟩) = E2) (hb : TabAt 0 w (some ⟨g, 0, none⟩) bvs) (hq : bvs.length = q) :
    TabsV w [.slice (some ⟨rb, ro, none⟩) f c, .slice E1 (t - (f + k)) (c - (f + k)), .slice (some ⟨g, 0, none⟩) q q, .slice E2 (n - t) (c - t)] [vs.take f, (vs.take t).drop (f + k), bvs, vs.drop t] := by
  refine ⟨rfl, fun j h1 h2 => ?_⟩
  subst hE1 hE2 hq
  match j, h1 with
  | 0, _ => exact ⟨_, c, by rw [show f = (vs.take f).length by rw [List.length_take]; omega]; simp, hvs.take f⟩
  | 1, _ => exact ⟨_, c - (f + k), by have : ((vs.take t).drop (f + k)).length = t - (f + k) := by rw [List.length_drop, List.length_take]; omega
                                      simp [this], (hvs.take t).cut (lo := f + k) (cap := c) (by rw [List.length_take]; omega)⟩
  | 2, _ => exact ⟨_, bvs.length, rfl, hb⟩
  | 3, _ => exact ⟨_, c - t, by have : (vs.drop t).length = n - t := by rw [List.length_drop]; omega
                                simp [this], hvs.cut (lo := t) (cap := c) (by omega)⟩

/-- What stands ahead of the copy: the box, the answer's place, the lines that will have gone. -/
def BackRel (w : World) (p : Nm) (r b : Value) (Bk' : List (List C)) (v : Value) (wx : World) : Prop :=
  ∃ D c vs, v = .slice D vs.length c ∧ vs.length ≤ c ∧ TabAt 0 wx D vs ∧ RowsV 0 wx vs Bk' ∧ Box wx w.heap.size p r b ∧ Box wx (w.heap.size + 1) zeroNm nilV nilV ∧ Below w.heap.size w wx

set_option maxRecDepth 100000 in
theorem OTab.put15 {B : Nat} {w : World} {k : Nat} {L : List (List C)} (h : OTab B w k L) {g : Nat} (hg : g < B) (p : Nm) (r b : Value) : OTab B (Ytpcpmeihebgncaa.put15 w g p r b) k L :=
  (((((((((((((((h.far (p := ⟨g, 0, none⟩) hg _).far (p := ⟨g, 1, none⟩) hg _).far (p := ⟨g, 2, none⟩) hg _).far (p := ⟨g, 3, none⟩) hg _).far (p := ⟨g, 4, none⟩) hg _).far (p := ⟨g, 5, none⟩) hg _).far (p := ⟨g, 6, none⟩) hg _).far (p := ⟨g, 7, none⟩) hg _).far (p := ⟨g, 8, none⟩) hg _).far (p := ⟨g, 9, none⟩) hg _).far (p := ⟨g, 10, none⟩) hg _).far (p := ⟨g, 11, none⟩) hg _).far (p := ⟨g, 12, none⟩) hg _).far (p := ⟨g, 13, none⟩) hg _).far (p := ⟨g, 14, none⟩) hg _)
set_option maxHeartbeats 400000 in
theorem gownO_any (D : Option Addr) (c : Nat) (M : List (List C)) (w : World) (hr : Lines 0 w D M) (hn : M.length ≤ 1050) (hl : ∀ r ∈ M, r.length ≤ 1000) : Calls Try.prog 92 #[.slice D M.length c] w (OLPost w M) := by
  have hm := run_makeL w M.length (by omega)
  have HS := Lib.hid (FillSt.start w M)
  have HR := Lib.hid hr
  clear hr
  go_enter Try.func92, Try.ntmps92
  go_wp2_with fail
  go_loopw [11] (FillRel w w.heap.size M) (fun i _ => M.length - (intOf i).toNat)
  case atStart => exact ⟨[], rfl, HS.out⟩
  case round =>
    obtain ⟨vs, rfl, hst⟩ := hrel
    by_cases hlt : vs.length < M.length
    · have hki : (vs.length : Int) < (M.length : Int) := by omega
      obtain ⟨b, off, E, ce, rfl, _, hbl, _, hcell, hce, hrow⟩ := (HR.out.below hst.below (Nat.le_refl _)).at vs.length hlt
      have hrn : M[vs.length].length ≤ 1000 := hl _ (List.getElem_mem _)
      have HROW := Lib.hid hrow
      clear hrow
      have HCL := Lib.hid (clone_any E ce M[vs.length] wr HROW.out hrn)
      have HST := Lib.hid hst
      have hfl := fillV_cell hst.table hlt
      have hgl := hst.table.lt
      have hfz := hst.table.frozen
      clear hst hrn
      generalize hq : M[vs.length] = q at *
      have HQ := Lib.hid hq
      clear hq
      go_wp2_with (
        go_at_call 95
        refine HCL.out.mono ?_
        rintro e w1 ⟨D1, c1, rfl, hc1, hr1, hb1⟩
        have hfl1 := (fillV_cell (HST.out.table.below hb1 hgl) hlt)
        have hfz1 := (HST.out.table.below hb1 hgl).frozen)
      go_roundw
      case rel =>
        refine ⟨vs ++ [.slice D1 q.length c1], by simp, HST.out.next (Nat.le_refl _) hb1 hlt ⟨D1, c1, ?_, ?_, ?_⟩⟩
        · rw [HQ.out]
        · rw [HQ.out]; exact hc1
        · rw [HQ.out]; exact hr1
      case measure => simp [intOf]; omega
    · have ek : vs.length = M.length := by have := hst.le; omega
      have hki : ¬ (vs.length : Int) < (M.length : Int) := by omega
      have HP := Lib.hid (hst.opost (Nat.le_refl _) ek)
      clear hst ek
      go_wp2_with fail
      go_ret
      exact HP.out

theorem own_ownO (B n : Nat) (v : Value) (vs : List Value) (M : List (List C)) (w : World) (h : w.ownsRow B 46 1 v n vs) (hr : RowsV 0 w vs M) (hn : M.length ≤ 1050) (hl : ∀ r ∈ M, r.length ≤ 1000) : Calls Try.prog 92 #[v] w (OLPost w M) := by
  obtain ⟨D, c, rfl, _, ht⟩ := own_tab h
  rw [hr.1]
  exact gownO_any D c M w ⟨vs, ht.weak (Nat.zero_le _), hr⟩ hn hl

set_option maxHeartbeats 4000000 in
theorem upO_any (p : Nm) (D E : Option Addr) (n c m d : Nat) (L Bk : List (List C)) (top bottom z : Int) (w : World) (hs : Scr 0 w D E n c m d L Bk) (h0 : 1 ≤ n) (hn : n ≤ 1000) (hm : m ≤ 50) (hl : ∀ r ∈ L, r.length ≤ 1000) (hlb : ∀ r ∈ Bk, r.length ≤ 1000) :
    Calls Try.prog 96 #[gv p (.slice D n c) (.slice E m d), .int .i64 top, .int .i64 bottom, .int .i64 z] w
      (OwnPost w p (upL L (fromF n top) (toF n top bottom) (withinF z (toF n top bottom - fromF n top)).toNat p.w) (upBack L Bk (fromF n top) (withinF z (toF n top bottom - fromF n top)).toNat)) := by
  have hft : fromF n top ≤ toF n top bottom := by unfold toF; omega
  have htn : toF n top bottom ≤ n := by unfold toF fromF withinF; omega
  have HP := Lib.hid (fun w => part_any p D n c (.slice E m d) top bottom w h0 (by omega))
  generalize fromF n top = f at *
  generalize toF n top bottom = t at *
  obtain ⟨k, hk⟩ : ∃ k : Nat, withinF z ((t : Int) - f) = k := ⟨(withinF z (t - f)).toNat, by unfold withinF; omega⟩
  have hkt : f + k ≤ t := by have : withinF z ((t : Int) - f) ≤ t - f := by unfold withinF; omega
                             omega
  have HK : Hid (∀ w, Calls Try.prog 91 #[.int .i64 z, .int .i64 ((t : Int) - f)] w fun e w' => e = .returned (.int .i64 k) ∧ w = w') := fun w => by rw [← hk]; exact gwithin_any z _ w
  rw [hk, Int.toNat_natCast]
  clear hk
  obtain ⟨rb, ro, rfl⟩ := hs.some h0
  have HS := Lib.hid hs
  clear hs
  unfold gv gcs
  go_enter Try.func96, Try.ntmps96
  go_wp2_with fail
  refine (HP.out _).mono ?_
  rintro e w1 ⟨rfl, hb1⟩
  have x1 : Box w1 w.heap.size p (.slice (some ⟨rb, ro, none⟩) n c) (.slice E m d) := ((Box.new w p _ _).alloc _).below hb1 (by simp; omega)
  have x2 : Box w1 (w.heap.size + 1) zeroNm nilV nilV := by
    have := (Box.new (w.alloc (.cells (gcs p (.slice (some ⟨rb, ro, none⟩) n c) (.slice E m d)) 35)) zeroNm nilV nilV).below hb1 (by simp)
    simpa using this
  have b1 : Below w.heap.size w w1 := ((Below.refl _ _).alloc (Nat.le_refl _) _).alloc (by simp) _ |>.trans (hb1.mono (by simp; omega))
  clear hb1
  have y14 := x1.cells.c14
  go_upto_if 28 with (go_at_call 91; refine (HK.out _).mono ?_; rintro e w' ⟨rfl, rfl⟩)
  go_cut [11] (BackRel w p (.slice (some ⟨rb, ro, none⟩) n c) (.slice E m d) (upBack L Bk f k))
  case first =>
    by_cases hf : f = 0
    · have hfi : ((f : Int) == 0) = true := by rw [hf]; rfl
      have HF := Lib.hid hf
      clear hf
      have y13 := x1.cells.c13
      obtain ⟨vs, hvs, hrv⟩ := HS.out.rows
      obtain ⟨us, hus, hru⟩ := HS.out.back
      have hvl : vs.length = n := by rw [hrv.1, HS.out.nr]
      have hul : us.length = m := by rw [hru.1, HS.out.nb]
      have hkc : (k : Int) ≤ c := by have := HS.out.cr; omega
      have HV := Lib.hid hvl
      have HU := Lib.hid hul
      clear hvl hul
      go_wp2_with fail
      go_still_tail 6, (by kernel_rfl)
      change wpList _ _ _ _ _ w1.drew
      have b2 : Below w.heap.size w w1.drew := below_drewN b1 1
      have x12 : Box w1.drew w.heap.size p (.slice (some ⟨rb, ro, none⟩) n c) (.slice E m d) := x1
      have x22 : Box w1.drew (w.heap.size + 1) zeroNm nilV nilV := x2
      generalize w1.drew = w2 at *
      have HT : Hid (TabsV (w2.alloc (.cells #[.slice E m d, .slice (some ⟨rb, ro, none⟩) k c] 33)) [.slice E m d, .slice (some ⟨rb, ro, none⟩) k c] [us, vs.take k]) := by
        refine ⟨rfl, fun j h1 h2 => ?_⟩
        have b3 : Below w.heap.size w (w2.alloc (.cells #[.slice E m d, .slice (some ⟨rb, ro, none⟩) k c] 33)) := b2.alloc b2.size _
        match j, h1 with
        | 0, _ => exact ⟨E, d, by simp [HU.out], hus.below b3 (Nat.le_refl _)⟩
        | 1, _ => exact ⟨_, c, by have : min k vs.length = k := by have := HV.out; omega
                                  simp [this], (hvs.take k).below b3 (Nat.le_refl _)⟩
      have HFL : Hid ([us, vs.take k].flatten.length ≤ 100000) := by
        have h1 := HV.out
        have h2 := HU.out
        show _ ≤ _
        simp
        omega
      have H1 := Lib.hid (hru.append ((hrv.take k).append (RowsV.nil _ _))).one_cell
      go_wp2_with (first
        | (go_at_call 135
           refine (concat_any _ _ [us, vs.take k] _ (Held.new _ _ _) HT.out H1.out HFL.out (by simp)).mono ?_
           rintro e w3 ⟨v3, rfl, ho3, hb3⟩)
        | (go_at_call 134
           refine (newest_own _ _ _ _ _ ho3 HFL.out).mono ?_
           rintro e w' ⟨E4, d4, rfl, hd4, ht4, rfl⟩))
      go_meet
      have b3 : Below w.heap.size w w3 := (b2.alloc b2.size _).trans (hb3.mono (by simp; have := b2.size; omega))
      have b23 : Below w2.heap.size w2 w3 := ((Below.refl _ _).alloc (Nat.le_refl _) _).trans (hb3.mono (by simp))
      refine ⟨E4, d4, _, by simp, hd4, ht4, ?_, x12.below b23 x12.lt, x22.below b23 x22.lt, b3⟩
      have hq : RowsV 0 w3 [us, vs.take k].flatten [Bk, L.take k].flatten := (hru.append ((hrv.take k).append (RowsV.nil _ _))).below b3 (Nat.le_refl _)
      unfold upBack
      rw [if_pos HF.out, ← hq.1]
      exact hq.drop _
    · have hfi : ((f : Int) == 0) = false := beq_eq_false_iff_ne.2 (by omega)
      go_wp2_with fail
      go_meet
      obtain ⟨us, hus, hru⟩ := (HS.out.back.below b1 (Nat.le_refl _))
      have e : us.length = m := by rw [hru.1, HS.out.nb]
      refine ⟨E, d, us, by rw [e], by rw [e]; exact HS.out.cb, hus, ?_, x1, x2, b1⟩
      unfold upBack
      rw [if_neg hf]
      exact hru
  case rest =>
    clear x1 x2 b1 y14
    obtain ⟨Eb, cb, ws, rfl, hcb, htb, hrb, x1, x2, b1⟩ := hcut
    have hz1 := x1.lt
    have hz2 := x2.lt
    have hx := x1.cells
    obtain ⟨y0, y1, y2, y3, y4, y5, y6, y7, y8, y9, y10, y11, y12, y13, y14, yf⟩ := hx
    go_wp2_with fail
    refine wp_world (fun wq => Box wq w.heap.size p (.slice (some ⟨rb, ro, none⟩) n c) (.slice E m d) ∧ Box wq (w.heap.size + 1) zeroNm nilV nilV ∧ Box wq wc.heap.size p (.slice (some ⟨rb, ro, none⟩) n c) (.slice E m d) ∧ Below wc.heap.size wc wq)
      ⟨x1.alloc _, x2.alloc _, Box.new wc p _ _, (Below.refl _ _).alloc (Nat.le_refl _) _⟩ ?_
    clear y0 y1 y2 y3 y4 y5 y6 y7 y8 y9 y10 y11 y12 y13 y14 yf x1 x2
    rintro wq ⟨x1, x2, x3, bq⟩
    have hz3 := x3.lt
    have x1d : Box wq.drew w.heap.size p (.slice (some ⟨rb, ro, none⟩) n c) (.slice E m d) := x1
    have x2d : Box wq.drew (w.heap.size + 1) zeroNm nilV nilV := x2
    have x3d : Box wq.drew wc.heap.size p (.slice (some ⟨rb, ro, none⟩) n c) (.slice E m d) := x3
    have bqd : Below wc.heap.size wc wq.drew := below_drewN bq 1
    clear x1 x2 x3 bq
    have y0 := x1d.cells.c0
    have y13 := x1d.cells.c13
    obtain ⟨E1, hE1⟩ : ∃ E1, (if c = f + k then some (⟨rb, ro, none⟩ : Addr) else some ⟨rb, ro + (f + k), none⟩) = E1 := ⟨_, rfl⟩
    obtain ⟨E2, hE2⟩ : ∃ E2, (if c = t then some (⟨rb, ro, none⟩ : Addr) else some ⟨rb, ro + t, none⟩) = E2 := ⟨_, rfl⟩
    have s1 : IntKind.i64.wrap ((f : Int) + k) = (f : Int) + k := IntWalk.i64_in _ (by omega)
    have hnc := HS.out.cr
    have t1 : (0 : Int) ≤ (f : Int) + k := by omega
    have t2 : ((f : Int) + k).toNat = f + k := by omega
    have t3 : (f : Int) + k ≤ (t : Int) := by omega
    have t4 : (f : Int) ≤ (c : Int) := by omega
    have t5 : (t : Int) ≤ (c : Int) := by omega
    have t6 : (t : Int) ≤ (n : Int) := by omega
    have t7 : (f : Int) + k ≤ (c : Int) := by omega
    have t8 : f + k ≤ t := by omega
    obtain ⟨vs, hvs, hrv⟩ := HS.out.rows
    have HV := Lib.hid (hrv.1.trans HS.out.nr)
    have HE1 := Lib.hid hE1
    have HE2 := Lib.hid hE2
    have HUL := Lib.hid (upL_len p.w HS.out.nr hkt htn)
    go_region_held3 (fun w' => w'.cell? ⟨w.heap.size, 0, none⟩ = some (.int .i64 p.w) ∧ w'.cell? ⟨w.heap.size, 13, none⟩ = some (.slice (some ⟨rb, ro, none⟩) n c))
      (first
        | with_reducible exact ⟨y0, y13⟩
        | with_reducible exact ⟨y04, y134⟩
        | with_reducible exact ⟨y05, y135⟩
        | with_reducible exact ⟨y06, y136⟩
        | with_reducible exact ⟨y07, y137⟩
        | with_reducible exact ⟨y08, y138⟩
        | fail)
      (first
        | (go_at_call 88
           (with_reducible refine (gblanks_any p.w k _ (by omega)).mono ?_)
           rintro e w4 ⟨g4, rfl, hl4, hb4⟩
           have hz4 := hb4.size
           have bq4 : Below wc.heap.size wc w4 := bqd.trans (hb4.mono bqd.size)
           obtain ⟨bvs, hbt, hbr⟩ := hl4
           have HB4 := Lib.hid hbr.1
           have hT4 := fun (w5 : World) (h : Below w4.heap.size w4 w5) => tabs4 ((hvs.below b1 (Nat.le_refl _)).below (bq4.trans (h.mono bq4.size)) (Nat.le_refl _)) HV.out hnc hkt htn HE1.out HE2.out ((hbt.weak (Nat.zero_le _)).below h (Nat.le_refl _)) HB4.out
           have HT4 := Lib.hid hT4
           have hr4 : ∀ w5, Below w4.heap.size w4 w5 → RowsV 0 w5 [vs.take f, (vs.take t).drop (f + k), bvs, vs.drop t].flatten (upL L f t k p.w) := fun w5 h => by
             have hx := (hrv.below b1 (Nat.le_refl _)).below (bq4.trans (h.mono bq4.size)) (Nat.le_refl _)
             exact (hx.take f).append (((hx.take t).drop (f + k)).append (((hbr.weak (Nat.zero_le _)).below h (Nat.le_refl _)).append ((hx.drop t).append (RowsV.nil _ _))))
           have HR4 := Lib.hid hr4
           have x14 := x1d.below hb4 (by exact x1d.lt)
           have x24 := x2d.below hb4 (by exact x2d.lt)
           have x34 := x3d.below hb4 (by exact x3d.lt)
           have y04 := x14.cells.c0
           have y134 := x14.cells.c13
           have x15 := x14.alloc (.cells #[.slice (some ⟨rb, ro, none⟩) f c, .slice E1 (t - (f + k)) (c - (f + k)), .slice (some ⟨g4, 0, none⟩) (blankL p.w k).length (blankL p.w k).length, .slice E2 (n - t) (c - t)] 33)
           have y05 := x15.cells.c0
           have y135 := x15.cells.c13
           clear hbt hbr hT4 hr4)
        | (go_at_call 135
           have b45 : Below w4.heap.size w4 (w4.alloc (.cells #[.slice (some ⟨rb, ro, none⟩) f c, .slice E1 (t - (f + k)) (c - (f + k)), .slice (some ⟨g4, 0, none⟩) (blankL p.w k).length (blankL p.w k).length, .slice E2 (n - t) (c - t)] 33)) := (Below.refl _ _).alloc (Nat.le_refl _) _
           refine (concat_any _ _ [vs.take f, (vs.take t).drop (f + k), bvs, vs.drop t] _ (Held.new _ _ _) (HT4.out _ b45) (HR4.out _ b45).one_cell (by rw [(HR4.out _ b45).1, HUL.out]; omega) (by simp)).mono ?_
           rintro e w6 ⟨v6, rfl, ho6, hb6⟩
           have b46 : Below w4.heap.size w4 w6 := b45.trans (hb6.mono (by simp))
           have x16 := x14.below b46 x14.lt
           have x26 := x24.below b46 x24.lt
           have x36 := x34.below b46 x34.lt
           have y06 := x16.cells.c0
           have y136 := x16.cells.c13)
        | (go_at_call 92
           refine (own_ownO _ _ _ _ _ _ ho6 (HR4.out _ b46) (by rw [HUL.out]; omega) (upL_rows hl)).mono ?_
           rintro e w7 ⟨g7, rfl, hl7, hb7⟩
           have x17 := x16.below hb7 x16.lt
           have x27 := x26.below hb7 x26.lt
           have x37 := x36.below hb7 x36.lt
           have y07 := x17.cells.c0
           have y137 := x17.cells.c13
           have x18 := x17.far (q := ⟨wc.heap.size, 13, none⟩) (by exact (by omega : w.heap.size ≠ wc.heap.size)) (.slice (some ⟨g7, 0, none⟩) (upL L f t k p.w).length (upL L f t k p.w).length)
           have y08 := x18.cells.c0
           have y138 := x18.cells.c13
           have z13 := x37.cells.c13
           have zf := x37.cells.free))
    have hq6 : wc.heap.size < w6.heap.size := x36.lt
    have x28 := x27.far (q := ⟨wc.heap.size, 13, none⟩) (by exact (by omega : w.heap.size + 1 ≠ wc.heap.size)) (.slice (some ⟨g7, 0, none⟩) (upL L f t k p.w).length (upL L f t k p.w).length)
    have x38 := x37.set_rows (.slice (some ⟨g7, 0, none⟩) (upL L f t k p.w).length (upL L f t k p.w).length)
    have l8 := hl7.far (p := ⟨wc.heap.size, 13, none⟩) (by exact hq6) (.slice (some ⟨g7, 0, none⟩) (upL L f t k p.w).length (upL L f t k p.w).length)
    have b47 : Below wc.heap.size wc w7 := (bq4.trans (b46.mono bq4.size)).trans (hb7.mono (by omega))
    have b8 := b47.setCell (p := ⟨wc.heap.size, 13, none⟩) (by exact Nat.le_refl _) (.slice (some ⟨g7, 0, none⟩) (upL L f t k p.w).length (upL L f t k p.w).length)
    have hw6 := b46.size
    have hw4 := bq4.size
    clear x18 y08 y138 z13 zf y07 y137 x17 x27 x37 hl7 hb7 b47
    generalize (w7.setCell ⟨wc.heap.size, 13, none⟩ (.slice (some ⟨g7, 0, none⟩) (upL L f t k p.w).length (upL L f t k p.w).length)) = w8 at *
    clear x16 x26 x36 y06 y136 ho6 hb6 b45 x15 y05 y135 x14 x24 x34 y04 y134 hb4 bqd x1d x2d x3d y0 y13
    have HO8 : Hid (Calls Try.prog 92 #[.slice Eb ws.length cb] w8 (OLPost w8 (upBack L Bk f k))) := by
      show Calls _ _ _ _ _
      rw [hrb.1]
      exact gownO_any Eb cb _ w8 ⟨ws, htb.below b8 (Nat.le_refl _), hrb.below b8 (Nat.le_refl _)⟩ (Nat.le_trans (upBack_len (by rw [HS.out.nb]; exact hm)) (by decide)) (upBack_rows hl hlb)
    go_wp2_with fail
    refine HO8.out.mono ?_
    rintro e w9 ⟨g9, rfl, l9, hb9⟩
    have hne : g7 ≠ g9 := by have := l8.lt; have := l9.low; omega
    have x29 := x28.below hb9 x28.lt
    have x39 := x38.below hb9 x38.lt
    have l89 := l8.below hb9 (Nat.le_refl _)
    have y14 := x39.cells.c14
    have yf := x39.cells.free
    have hq8 := x38.lt
    have b9 : Below wc.heap.size wc w9 := b8.trans (hb9.mono b8.size)
    have x2a := x29.far (q := ⟨wc.heap.size, 14, none⟩) (by exact (by omega : w.heap.size + 1 ≠ wc.heap.size)) (.slice (some ⟨g9, 0, none⟩) (upBack L Bk f k).length (upBack L Bk f k).length)
    have x3a := x39.set_back (.slice (some ⟨g9, 0, none⟩) (upBack L Bk f k).length (upBack L Bk f k).length)
    have l8a := l89.far (p := ⟨wc.heap.size, 14, none⟩) (by exact hq6) (.slice (some ⟨g9, 0, none⟩) (upBack L Bk f k).length (upBack L Bk f k).length)
    have l9a := l9.far (p := ⟨wc.heap.size, 14, none⟩) (by exact hq8) (.slice (some ⟨g9, 0, none⟩) (upBack L Bk f k).length (upBack L Bk f k).length)
    have ba := b9.setCell (p := ⟨wc.heap.size, 14, none⟩) (by exact Nat.le_refl _) (.slice (some ⟨g9, 0, none⟩) (upBack L Bk f k).length (upBack L Bk f k).length)
    have s9 := hb9.size
    go_upto_region 9 with fail
    clear y14 yf x29 x39 l89 l9 x28 x38 l8 b9 hb9 b8
    generalize (w9.setCell ⟨wc.heap.size, 14, none⟩ (.slice (some ⟨g9, 0, none⟩) (upBack L Bk f k).length (upBack L Bk f k).length)) = wa at *
    have HZ := Lib.hid (put15_box x2a (p := p) (.slice (some ⟨g7, 0, none⟩) (upL L f t k p.w).length (upL L f t k p.w).length) (.slice (some ⟨g9, 0, none⟩) (upBack L Bk f k).length (upBack L Bk f k).length)).cells
    have hc2 := x2a.cells
    have hc3 := x3a.cells
    simp only [zeroNm] at hc2
    obtain ⟨a0, a1, a2, a3, a4, a5, a6, a7, a8, a9, a10, a11, a12, a13, a14, af⟩ := hc2
    obtain ⟨y0, y1, y2, y3, y4, y5, y6, y7, y8, y9, y10, y11, y12, y13, y14, yf⟩ := hc3
    have HL8 := Lib.hid (l8a.put15 (g := w.heap.size + 1) (by omega) p (.slice (some ⟨g7, 0, none⟩) (upL L f t k p.w).length (upL L f t k p.w).length) (.slice (some ⟨g9, 0, none⟩) (upBack L Bk f k).length (upBack L Bk f k).length))
    have HL9 := Lib.hid (l9a.put15 (g := w.heap.size + 1) (by omega) p (.slice (some ⟨g7, 0, none⟩) (upL L f t k p.w).length (upL L f t k p.w).length) (.slice (some ⟨g9, 0, none⟩) (upBack L Bk f k).length (upBack L Bk f k).length))
    have hBA := put15_below (b1.trans (ba.mono b1.size)) (Nat.le_succ _) p (.slice (some ⟨g7, 0, none⟩) (upL L f t k p.w).length (upL L f t k p.w).length) (.slice (some ⟨g9, 0, none⟩) (upBack L Bk f k).length (upBack L Bk f k).length)
    have hs1 := b1.size
    have hzz := x2a.lt
    clear x2a x3a l8a l9a
    go_wp2_with fail
    change bodyPost _ _ _ _ _ (put15 wa (w.heap.size + 1) p (.slice (some ⟨g7, 0, none⟩) (upL L f t k p.w).length (upL L f t k p.w).length) (.slice (some ⟨g9, 0, none⟩) (upBack L Bk f k).length (upBack L Bk f k).length))
    clear a0 a1 a2 a3 a4 a5 a6 a7 a8 a9 a10 a11 a12 a13 a14 af y0 y1 y2 y3 y4 y5 y6 y7 y8 y9 y10 y11 y12 y13 y14 yf
    generalize (put15 wa (w.heap.size + 1) p (.slice (some ⟨g7, 0, none⟩) (upL L f t k p.w).length (upL L f t k p.w).length) (.slice (some ⟨g9, 0, none⟩) (upBack L Bk f k).length (upBack L Bk f k).length)) = wz at *
    obtain ⟨y0, y1, y2, y3, y4, y5, y6, y7, y8, y9, y10, y11, y12, y13, y14, yf⟩ := HZ.out
    refine bodyPost_ret (v := gv p (.slice (some ⟨g7, 0, none⟩) (upL L f t k p.w).length (upL L f t k p.w).length) (.slice (some ⟨g9, 0, none⟩) (upBack L Bk f k).length (upBack L Bk f k).length)) (by simp [results, Try.results96, go_sem, gv, gcs, y0, y1, y2, y3, y4, y5, y6, y7, y8, y9, y10, y11, y12, y13, y14]) rfl ?_
    exact ⟨g7, g9, rfl, ⟨HL8.out.weak (by omega), HL9.out.weak (by omega), hne⟩, hBA⟩
theorem up_any (p : Nm) (D E : Option Addr) (n c m d : Nat) (L Bk : List (List C)) (top bottom z : Int) (w : World) (hs : Scr 0 w D E n c m d L Bk) (h0 : 1 ≤ n) (hn : n ≤ 1000) (hm : m ≤ 50) (hl : ∀ r ∈ L, r.length ≤ 1000) (hlb : ∀ r ∈ Bk, r.length ≤ 1000) :
    Calls Try.prog 96 #[gv p (.slice D n c) (.slice E m d), .int .i64 top, .int .i64 bottom, .int .i64 z] w
      (GridPost w p (upL L (fromF n top) (toF n top bottom) (withinF z (toF n top bottom - fromF n top)).toNat p.w) (upBack L Bk (fromF n top) (withinF z (toF n top bottom - fromF n top)).toNat)) :=
  (upO_any p D E n c m d L Bk top bottom z w hs h0 hn hm hl hlb).mono fun _ _ ⟨_, _, e, s, b⟩ => ⟨_, _, _, _, _, _, e, s.scr, b⟩
end Go.Proofs.Ytpcpmeihebgncaa

/-
  What Down of package grid answers. Conditions: a screen of one to a thousand rows, rows of at most a thousand cells, at most fifty lines that went.
-/
namespace Go.Proofs.Ytpcpmeihebgncaa
open Go.RowKit
set_option maxRecDepth 100000

/-- The rows behind Down. -/
def downL (L : List (List C)) (f t k : Nat) (x : Int) : List (List C) := [L.take f, blankL x k, (L.take (t - k)).drop f, L.drop t].flatten
theorem downL_len {L : List (List C)} {f t k n : Nat} (x : Int) (hn : L.length = n) (h1 : f + k ≤ t) (h2 : t ≤ n) : (downL L f t k x).length = n := by
  simp only [downL, blankL, List.flatten_cons, List.flatten_nil, List.length_append, List.length_take, List.length_drop, List.length_replicate, List.length_nil]
  omega
theorem downL_rows {L : List (List C)} {f t k : Nat} {x : Int} (hl : ∀ r ∈ L, r.length ≤ 1000) : ∀ r ∈ downL L f t k x, r.length ≤ 1000 := by
  intro r hr
  simp only [downL, List.flatten_cons, List.flatten_nil, List.mem_append, List.append_nil] at hr
  rcases hr with h | h | h | h
  · exact hl r (List.mem_of_mem_take h)
  · rw [(List.mem_replicate.1 h).2]; exact blankF_le x
  · exact hl r (List.mem_of_mem_take (List.mem_of_mem_drop h))
  · exact hl r (List.mem_of_mem_drop h)
theorem tabs4d {w : World} {rb ro c n f t k g q : Nat} {vs bvs : List Value} {E1 E2 : Option Addr} (hvs : TabAt 0 w (some ⟨rb, ro, none⟩) vs) (hvl : vs.length = n) (hnc : n ≤ c) (hft : f + k ≤ t) (htn : t ≤ n)
    (hE1 : (if c = f then some (⟨rb, ro, none⟩ : Addr) else some ⟨rb, ro + f, none⟩) = E1) (hE2 : (if c = t then some (⟨rb, ro, none⟩ : Addr) else some ⟨rb, ro + t, none⟩) = E2) (hb : TabAt 0 w (some ⟨g, 0, none⟩) bvs) (hq : bvs.length = q) :
    TabsV w [.slice (some ⟨rb, ro, none⟩) f c, .slice (some ⟨g, 0, none⟩) q q, .slice E1 (t - k - f) (c - f), .slice E2 (n - t) (c - t)] [vs.take f, bvs, (vs.take (t - k)).drop f, vs.drop t] := by
  refine ⟨rfl, fun j h1 h2 => ?_⟩
  subst hE1 hE2 hq
  match j, h1 with
  | 0, _ => exact ⟨_, c, by rw [show f = (vs.take f).length by rw [List.length_take]; omega]; simp, hvs.take f⟩
  | 1, _ => exact ⟨_, bvs.length, rfl, hb⟩
  | 2, _ => exact ⟨_, c - f, by have : ((vs.take (t - k)).drop f).length = t - k - f := by rw [List.length_drop, List.length_take]; omega
                                simp [this], (hvs.take (t - k)).cut (lo := f) (cap := c) (by rw [List.length_take]; omega)⟩
  | 3, _ => exact ⟨_, c - t, by have : (vs.drop t).length = n - t := by rw [List.length_drop]; omega
                                simp [this], hvs.cut (lo := t) (cap := c) (by omega)⟩

set_option maxRecDepth 100000 in
set_option maxHeartbeats 4000000 in
theorem downO_any (p : Nm) (D E : Option Addr) (n c m d : Nat) (L Bk : List (List C)) (top bottom z : Int) (w : World) (hs : Scr 0 w D E n c m d L Bk) (h0 : 1 ≤ n) (hn : n ≤ 1000) (hm : m ≤ 50) (hl : ∀ r ∈ L, r.length ≤ 1000) (hlb : ∀ r ∈ Bk, r.length ≤ 1000) :
    Calls Try.prog 100 #[gv p (.slice D n c) (.slice E m d), .int .i64 top, .int .i64 bottom, .int .i64 z] w
      (OwnPost w p (downL L (fromF n top) (toF n top bottom) (withinF z (toF n top bottom - fromF n top)).toNat p.w) Bk) := by
  have hft : fromF n top ≤ toF n top bottom := by unfold toF; omega
  have htn : toF n top bottom ≤ n := by unfold toF fromF withinF; omega
  have HP := Lib.hid (fun w => part_any p D n c (.slice E m d) top bottom w h0 (by omega))
  generalize fromF n top = f at *
  generalize toF n top bottom = t at *
  obtain ⟨k, hk⟩ : ∃ k : Nat, withinF z ((t : Int) - f) = k := ⟨(withinF z (t - f)).toNat, by unfold withinF; omega⟩
  have hkt : f + k ≤ t := by have : withinF z ((t : Int) - f) ≤ t - f := by unfold withinF; omega
                             omega
  have HK : Hid (∀ w, Calls Try.prog 91 #[.int .i64 z, .int .i64 ((t : Int) - f)] w fun e w' => e = .returned (.int .i64 k) ∧ w = w') := fun w => by rw [← hk]; exact gwithin_any z _ w
  rw [hk, Int.toNat_natCast]
  clear hk
  obtain ⟨rb, ro, rfl⟩ := hs.some h0
  have HS := Lib.hid hs
  clear hs
  unfold gv gcs
  go_enter Try.func100, Try.ntmps100
  go_wp2_with fail
  refine (HP.out _).mono ?_
  rintro e w1 ⟨rfl, hb1⟩
  have x1 : Box w1 w.heap.size p (.slice (some ⟨rb, ro, none⟩) n c) (.slice E m d) := ((Box.new w p _ _).alloc _).below hb1 (by simp; omega)
  have x2 : Box w1 (w.heap.size + 1) zeroNm nilV nilV := by
    have := (Box.new (w.alloc (.cells (gcs p (.slice (some ⟨rb, ro, none⟩) n c) (.slice E m d)) 35)) zeroNm nilV nilV).below hb1 (by simp)
    simpa using this
  have b1 : Below w.heap.size w w1 := ((Below.refl _ _).alloc (Nat.le_refl _) _).alloc (by simp) _ |>.trans (hb1.mono (by simp; omega))
  clear hb1
  have hx := x1.cells
  obtain ⟨y0, y1, y2, y3, y4, y5, y6, y7, y8, y9, y10, y11, y12, y13, y14, yf⟩ := hx
  have hz1 := x1.lt
  have hz2 := x2.lt
  go_upto_region 4 with (go_at_call 91; refine (HK.out _).mono ?_; rintro e w' ⟨rfl, rfl⟩)
  refine wp_world (fun wq => Box wq w.heap.size p (.slice (some ⟨rb, ro, none⟩) n c) (.slice E m d) ∧ Box wq (w.heap.size + 1) zeroNm nilV nilV ∧ Box wq w1.heap.size p (.slice (some ⟨rb, ro, none⟩) n c) (.slice E m d) ∧ Below w1.heap.size w1 wq)
    ⟨x1.alloc _, x2.alloc _, Box.new w1 p _ _, (Below.refl _ _).alloc (Nat.le_refl _) _⟩ ?_
  clear y0 y1 y2 y3 y4 y5 y6 y7 y8 y9 y10 y11 y12 y13 y14 yf x1 x2
  rintro wq ⟨x1, x2, x3, bq⟩
  have hz3 := x3.lt
  have x1d : Box wq.drew w.heap.size p (.slice (some ⟨rb, ro, none⟩) n c) (.slice E m d) := x1
  have x2d : Box wq.drew (w.heap.size + 1) zeroNm nilV nilV := x2
  have x3d : Box wq.drew w1.heap.size p (.slice (some ⟨rb, ro, none⟩) n c) (.slice E m d) := x3
  have bqd : Below w1.heap.size w1 wq.drew := below_drewN bq 1
  clear x1 x2 x3 bq
  have y0 := x1d.cells.c0
  have y13 := x1d.cells.c13
  obtain ⟨E1, hE1⟩ : ∃ E1, (if c = f then some (⟨rb, ro, none⟩ : Addr) else some ⟨rb, ro + f, none⟩) = E1 := ⟨_, rfl⟩
  obtain ⟨E2, hE2⟩ : ∃ E2, (if c = t then some (⟨rb, ro, none⟩ : Addr) else some ⟨rb, ro + t, none⟩) = E2 := ⟨_, rfl⟩
  have s1 : IntKind.i64.wrap ((t : Int) - k) = (t : Int) - k := IntWalk.i64_in _ (by omega)
  have hnc := HS.out.cr
  have t1 : (0 : Int) ≤ (t : Int) - k := by omega
  have t2 : ((t : Int) - k).toNat = t - k := by omega
  have t3 : (f : Int) ≤ (t : Int) - k := by omega
  have t4 : (f : Int) ≤ (c : Int) := by omega
  have t5 : (t : Int) ≤ (c : Int) := by omega
  have t6 : (t : Int) ≤ (n : Int) := by omega
  have t7 : (t : Int) - k ≤ (c : Int) := by omega
  have t8 : f ≤ t - k := by omega
  have t9 : (k : Int) ≤ (t : Int) := by omega
  obtain ⟨vs, hvs, hrv⟩ := HS.out.rows
  have HV := Lib.hid (hrv.1.trans HS.out.nr)
  have HE1 := Lib.hid hE1
  have HE2 := Lib.hid hE2
  have HUL := Lib.hid (downL_len p.w HS.out.nr hkt htn)
  go_region_held3 (fun w' => w'.cell? ⟨w.heap.size, 0, none⟩ = some (.int .i64 p.w) ∧ w'.cell? ⟨w.heap.size, 13, none⟩ = some (.slice (some ⟨rb, ro, none⟩) n c))
    (first
      | with_reducible exact ⟨y0, y13⟩
      | with_reducible exact ⟨y04, y134⟩
      | with_reducible exact ⟨y05, y135⟩
      | with_reducible exact ⟨y06, y136⟩
      | with_reducible exact ⟨y07, y137⟩
      | with_reducible exact ⟨y08, y138⟩
      | fail)
    (first
      | (go_at_call 88
         (with_reducible refine (gblanks_any p.w k _ (by omega)).mono ?_)
         rintro e w4 ⟨g4, rfl, hl4, hb4⟩
         have hz4 := hb4.size
         have bq4 : Below w1.heap.size w1 w4 := bqd.trans (hb4.mono bqd.size)
         obtain ⟨bvs, hbt, hbr⟩ := hl4
         have HB4 := Lib.hid hbr.1
         have hT4 := fun (w5 : World) (h : Below w4.heap.size w4 w5) => tabs4d ((hvs.below b1 (Nat.le_refl _)).below (bq4.trans (h.mono bq4.size)) (Nat.le_refl _)) HV.out hnc hkt htn HE1.out HE2.out ((hbt.weak (Nat.zero_le _)).below h (Nat.le_refl _)) HB4.out
         have HT4 := Lib.hid hT4
         have hr4 : ∀ w5, Below w4.heap.size w4 w5 → RowsV 0 w5 [vs.take f, bvs, (vs.take (t - k)).drop f, vs.drop t].flatten (downL L f t k p.w) := fun w5 h => by
           have hx := (hrv.below b1 (Nat.le_refl _)).below (bq4.trans (h.mono bq4.size)) (Nat.le_refl _)
           exact (hx.take f).append (((hbr.weak (Nat.zero_le _)).below h (Nat.le_refl _)).append (((hx.take (t - k)).drop f).append ((hx.drop t).append (RowsV.nil _ _))))
         have HR4 := Lib.hid hr4
         have x14 := x1d.below hb4 (by exact x1d.lt)
         have x24 := x2d.below hb4 (by exact x2d.lt)
         have x34 := x3d.below hb4 (by exact x3d.lt)
         have y04 := x14.cells.c0
         have y134 := x14.cells.c13
         have x15 := x14.alloc (.cells #[.slice (some ⟨rb, ro, none⟩) f c, .slice (some ⟨g4, 0, none⟩) (blankL p.w k).length (blankL p.w k).length, .slice E1 (t - k - f) (c - f), .slice E2 (n - t) (c - t)] 33)
         have y05 := x15.cells.c0
         have y135 := x15.cells.c13
         clear hbt hbr hT4 hr4)
      | (go_at_call 135
         have b45 : Below w4.heap.size w4 (w4.alloc (.cells #[.slice (some ⟨rb, ro, none⟩) f c, .slice (some ⟨g4, 0, none⟩) (blankL p.w k).length (blankL p.w k).length, .slice E1 (t - k - f) (c - f), .slice E2 (n - t) (c - t)] 33)) := (Below.refl _ _).alloc (Nat.le_refl _) _
         refine (concat_any _ _ [vs.take f, bvs, (vs.take (t - k)).drop f, vs.drop t] _ (Held.new _ _ _) (HT4.out _ b45) (HR4.out _ b45).one_cell (by rw [(HR4.out _ b45).1, HUL.out]; omega) (by simp)).mono ?_
         rintro e w6 ⟨v6, rfl, ho6, hb6⟩
         have b46 : Below w4.heap.size w4 w6 := b45.trans (hb6.mono (by simp))
         have x16 := x14.below b46 x14.lt
         have x26 := x24.below b46 x24.lt
         have x36 := x34.below b46 x34.lt
         have y06 := x16.cells.c0
         have y136 := x16.cells.c13)
      | (go_at_call 92
         refine (own_ownO _ _ _ _ _ _ ho6 (HR4.out _ b46) (by rw [HUL.out]; omega) (downL_rows hl)).mono ?_
         rintro e w7 ⟨g7, rfl, hl7, hb7⟩
         have x17 := x16.below hb7 x16.lt
         have x27 := x26.below hb7 x26.lt
         have x37 := x36.below hb7 x36.lt
         have y07 := x17.cells.c0
         have y137 := x17.cells.c13
         have x18 := x17.far (q := ⟨w1.heap.size, 13, none⟩) (by exact (by omega : w.heap.size ≠ w1.heap.size)) (.slice (some ⟨g7, 0, none⟩) (downL L f t k p.w).length (downL L f t k p.w).length)
         have y08 := x18.cells.c0
         have y138 := x18.cells.c13
         have z13 := x37.cells.c13
         have zf := x37.cells.free))
  have hq6 : w1.heap.size < w6.heap.size := x36.lt
  have x28 := x27.far (q := ⟨w1.heap.size, 13, none⟩) (by exact (by omega : w.heap.size + 1 ≠ w1.heap.size)) (.slice (some ⟨g7, 0, none⟩) (downL L f t k p.w).length (downL L f t k p.w).length)
  have x38 := x37.set_rows (.slice (some ⟨g7, 0, none⟩) (downL L f t k p.w).length (downL L f t k p.w).length)
  have l8 := hl7.far (p := ⟨w1.heap.size, 13, none⟩) (by exact hq6) (.slice (some ⟨g7, 0, none⟩) (downL L f t k p.w).length (downL L f t k p.w).length)
  have b47 : Below w1.heap.size w1 w7 := (bq4.trans (b46.mono bq4.size)).trans (hb7.mono (by omega))
  have b8 := b47.setCell (p := ⟨w1.heap.size, 13, none⟩) (by exact Nat.le_refl _) (.slice (some ⟨g7, 0, none⟩) (downL L f t k p.w).length (downL L f t k p.w).length)
  have hw6 := b46.size
  have hw4 := bq4.size
  clear y08 y138 z13 zf y07 y137 x17 x27 x37 hl7 hb7 b47
  generalize (w7.setCell ⟨w1.heap.size, 13, none⟩ (.slice (some ⟨g7, 0, none⟩) (downL L f t k p.w).length (downL L f t k p.w).length)) = w8 at *
  clear x16 x26 x36 y06 y136 ho6 hb6 b45 x15 y05 y135 x14 x24 x34 y04 y134 hb4 bqd x1d x2d x3d y0 y13
  have HO8 : Hid (Calls Try.prog 92 #[.slice E m d] w8 (OLPost w8 Bk)) := by
    show Calls _ _ _ _ _
    rw [← HS.out.nb]
    exact gownO_any E d _ w8 ((HS.out.back.below b1 (Nat.le_refl _)).below b8 (Nat.le_refl _)) (by rw [HS.out.nb]; omega) hlb
  have y148 := x18.cells.c14
  go_wp2_with fail
  refine HO8.out.mono ?_
  rintro e w9 ⟨g9, rfl, l9, hb9⟩
  have hne : g7 ≠ g9 := by have := l8.lt; have := l9.low; omega
  have x29 := x28.below hb9 x28.lt
  have x39 := x38.below hb9 x38.lt
  have l89 := l8.below hb9 (Nat.le_refl _)
  have y14 := x39.cells.c14
  have yf := x39.cells.free
  have hq8 := x38.lt
  have b9 : Below w1.heap.size w1 w9 := b8.trans (hb9.mono b8.size)
  have x2a := x29.far (q := ⟨w1.heap.size, 14, none⟩) (by exact (by omega : w.heap.size + 1 ≠ w1.heap.size)) (.slice (some ⟨g9, 0, none⟩) (Bk).length (Bk).length)
  have x3a := x39.set_back (.slice (some ⟨g9, 0, none⟩) (Bk).length (Bk).length)
  have l8a := l89.far (p := ⟨w1.heap.size, 14, none⟩) (by exact hq6) (.slice (some ⟨g9, 0, none⟩) (Bk).length (Bk).length)
  have l9a := l9.far (p := ⟨w1.heap.size, 14, none⟩) (by exact hq8) (.slice (some ⟨g9, 0, none⟩) (Bk).length (Bk).length)
  have ba := b9.setCell (p := ⟨w1.heap.size, 14, none⟩) (by exact Nat.le_refl _) (.slice (some ⟨g9, 0, none⟩) (Bk).length (Bk).length)
  have s9 := hb9.size
  go_upto_region 6 with fail
  clear y14 yf x29 x39 l89 l9 x28 x38 l8 b9 hb9 b8
  generalize (w9.setCell ⟨w1.heap.size, 14, none⟩ (.slice (some ⟨g9, 0, none⟩) (Bk).length (Bk).length)) = wa at *
  have HZ := Lib.hid (put15_box x2a (p := p) (.slice (some ⟨g7, 0, none⟩) (downL L f t k p.w).length (downL L f t k p.w).length) (.slice (some ⟨g9, 0, none⟩) (Bk).length (Bk).length)).cells
  have hc2 := x2a.cells
  have hc3 := x3a.cells
  simp only [zeroNm] at hc2
  obtain ⟨a0, a1, a2, a3, a4, a5, a6, a7, a8, a9, a10, a11, a12, a13, a14, af⟩ := hc2
  obtain ⟨y0, y1, y2, y3, y4, y5, y6, y7, y8, y9, y10, y11, y12, y13, y14, yf⟩ := hc3
  have HL8 := Lib.hid (l8a.put15 (g := w.heap.size + 1) (by omega) p (.slice (some ⟨g7, 0, none⟩) (downL L f t k p.w).length (downL L f t k p.w).length) (.slice (some ⟨g9, 0, none⟩) (Bk).length (Bk).length))
  have HL9 := Lib.hid (l9a.put15 (g := w.heap.size + 1) (by omega) p (.slice (some ⟨g7, 0, none⟩) (downL L f t k p.w).length (downL L f t k p.w).length) (.slice (some ⟨g9, 0, none⟩) (Bk).length (Bk).length))
  have hBA := put15_below (b1.trans (ba.mono b1.size)) (Nat.le_succ _) p (.slice (some ⟨g7, 0, none⟩) (downL L f t k p.w).length (downL L f t k p.w).length) (.slice (some ⟨g9, 0, none⟩) (Bk).length (Bk).length)
  have hs1 := b1.size
  have hzz := x2a.lt
  clear x2a x3a l8a l9a
  go_wp2_with fail
  change bodyPost _ _ _ _ _ (put15 wa (w.heap.size + 1) p (.slice (some ⟨g7, 0, none⟩) (downL L f t k p.w).length (downL L f t k p.w).length) (.slice (some ⟨g9, 0, none⟩) (Bk).length (Bk).length))
  clear a0 a1 a2 a3 a4 a5 a6 a7 a8 a9 a10 a11 a12 a13 a14 af y0 y1 y2 y3 y4 y5 y6 y7 y8 y9 y10 y11 y12 y13 y14 yf
  generalize (put15 wa (w.heap.size + 1) p (.slice (some ⟨g7, 0, none⟩) (downL L f t k p.w).length (downL L f t k p.w).length) (.slice (some ⟨g9, 0, none⟩) (Bk).length (Bk).length)) = wz at *
  obtain ⟨y0, y1, y2, y3, y4, y5, y6, y7, y8, y9, y10, y11, y12, y13, y14, yf⟩ := HZ.out
  refine bodyPost_ret (v := gv p (.slice (some ⟨g7, 0, none⟩) (downL L f t k p.w).length (downL L f t k p.w).length) (.slice (some ⟨g9, 0, none⟩) (Bk).length (Bk).length)) (by simp [results, Try.results100, go_sem, gv, gcs, y0, y1, y2, y3, y4, y5, y6, y7, y8, y9, y10, y11, y12, y13, y14]) rfl ?_
  exact ⟨g7, g9, rfl, ⟨HL8.out.weak (by omega), HL9.out.weak (by omega), hne⟩, hBA⟩
theorem down_any (p : Nm) (D E : Option Addr) (n c m d : Nat) (L Bk : List (List C)) (top bottom z : Int) (w : World) (hs : Scr 0 w D E n c m d L Bk) (h0 : 1 ≤ n) (hn : n ≤ 1000) (hm : m ≤ 50) (hl : ∀ r ∈ L, r.length ≤ 1000) (hlb : ∀ r ∈ Bk, r.length ≤ 1000) :
    Calls Try.prog 100 #[gv p (.slice D n c) (.slice E m d), .int .i64 top, .int .i64 bottom, .int .i64 z] w
      (GridPost w p (downL L (fromF n top) (toF n top bottom) (withinF z (toF n top bottom - fromF n top)).toNat p.w) Bk) :=
  (downO_any p D E n c m d L Bk top bottom z w hs h0 hn hm hl hlb).mono fun _ _ ⟨_, _, e, s, b⟩ => ⟨_, _, _, _, _, _, e, s.scr, b⟩
end Go.Proofs.Ytpcpmeihebgncaa

/-
  What line and lineBack of package acts answer at the region's edges, what escaped answers for D and M there, what bounded answers, and sequenced for r. Conditions: at most a thousand rows of at most a thousand cells, at most fifty lines that went; the screen's sides lie between 1 and 1,000, the cursor is on it.
-/
namespace Go.Proofs.Ytpcpmeihebgncaa
open Go.RowKit
set_option maxRecDepth 100000

/-- The rows behind a line feed at the region's last row, and the lines that went. -/
def upG (p : Nm) (L : List (List C)) : List (List C) := upL L (fromF L.length p.top) (toF L.length p.top p.bottom) (withinF 1 (toF L.length p.top p.bottom - fromF L.length p.top)).toNat p.w
def upGB (p : Nm) (L Bk : List (List C)) : List (List C) := upBack L Bk (fromF L.length p.top) (withinF 1 (toF L.length p.top p.bottom - fromF L.length p.top)).toNat
/-- The rows behind a line back at the region's first row. -/
def downG (p : Nm) (L : List (List C)) : List (List C) := downL L (fromF L.length p.top) (toF L.length p.top p.bottom) (withinF 1 (toF L.length p.top p.bottom - fromF L.length p.top)).toNat p.w

set_option maxHeartbeats 4000000 in
theorem lineUp_any (B : Nat) (p : Nm) (g h : Nat) (L Bk : List (List C)) (w : World) (hs : OScr B w g h L Bk) (hy : p.y = p.bottom) (h0 : 1 ≤ L.length) (hn : L.length ≤ 1000) (hm : Bk.length ≤ 50) (hl : ∀ r ∈ L, r.length ≤ 1000) (hlb : ∀ r ∈ Bk, r.length ≤ 1000) :
    Calls Try.prog 50 #[ov p g h L Bk] w (LinePost B g w p (upG p L) (upGB p L Bk)) := by
  have HS := Lib.hid (MS.start w p (.slice (some ⟨g, 0, none⟩) L.length L.length) (.slice (some ⟨h, 0, none⟩) Bk.length Bk.length))
  have hB : B ≤ w.heap.size := by have := hs.rows.low; have := hs.rows.lt; omega
  have HU : Hid (∀ wx, Below w.heap.size w wx → Calls Try.prog 96 #[gv p (.slice (some ⟨g, 0, none⟩) L.length L.length) (.slice (some ⟨h, 0, none⟩) Bk.length Bk.length), .int .i64 p.top, .int .i64 p.bottom, .int .i64 1] wx (OwnPost wx p (upG p L) (upGB p L Bk))) := fun wx hb => upO_any p _ _ L.length L.length Bk.length Bk.length L Bk p.top p.bottom 1 wx ((hs.below hb (Nat.le_refl _)).weak (Nat.zero_le _)).scr h0 hn hm hl hlb
  clear hs hl hlb hn hm h0
  generalize upG p L = L2 at *
  generalize upGB p L Bk = Bk2 at *
  have HY := Lib.hid hy
  clear hy
  unfold ov gv gcs
  go_enter Try.func50, Try.ntmps50
  go_upto_region 1 with fail
  refine wp_world (fun wq => MS w p (.slice (some ⟨g, 0, none⟩) L.length L.length) (.slice (some ⟨h, 0, none⟩) Bk.length Bk.length) wq) HS.out ?_
  clear HS
  intro w2 ms
  have xg := ms.box
  have u3 := xg.cells.c3
  have u6 := xg.cells.c6
  have u7 := xg.cells.c7
  rw [HY.out] at u3
  go_wp2_with (first
    | (with_reducible refine wpList_loadB xg (x := .tmp 1) ?_ ?_ ?_ ?_
       · with_reducible rfl
       · rfl
       · rfl)
    | (go_at_call 96
       refine (HU.out w2 ms.below).mono ?_
       clear HU
       rintro e w3 ⟨g3, h3, rfl, s3, b3⟩
       have a3 := ms.ans.below b3 ms.ans.lt)
    | (with_reducible refine wpList_storeA a3 (x := .tmp 2) (y := .tmp 13) (p := p) (D := some ⟨g3, 0, none⟩) (E := some ⟨h3, 0, none⟩) (n := L2.length) (c := L2.length) (m := Bk2.length) (d := Bk2.length) ?_ ?_ ?_ ?_ ?_
       · with_reducible rfl
       · rfl
       · rfl
       · rfl))
  have hz := ms.below.size
  have hlow := s3.rows.low
  refine bodyPost_ret (v := gv p (.slice (some ⟨g3, 0, none⟩) L2.length L2.length) (.slice (some ⟨h3, 0, none⟩) Bk2.length Bk2.length)) (results_cell_row (P := Try.prog) Try.results50 _ _ (w.heap.size + 1) 35 _ (0, 0) _ rfl (a3.setRow _ _ _) Try.underlying35 rfl box_size) rfl ?_
  exact ⟨g3, h3, rfl, (s3.bput a3 _).weak (by omega), by omega, below_setRow (ms.below.trans (b3.mono ms.below.size)) (Nat.le_succ _) _⟩

set_option maxHeartbeats 4000000 in
theorem escD_any (B : Nat) (p q : Nm) (g h : Nat) (L Bk L1 Bk1 : List (List C)) (w : World) (hs : OScr B w g h L Bk) (hq : On q)
    (hT : ∀ wx, Below w.heap.size w wx → Calls Try.prog 50 #[ov p g h L Bk] wx (LinePost B g wx q L1 Bk1)) :
    Calls Try.prog 29 #[ov p g h L Bk, .int .i32 68] w (InPost B g w (movedNm q q.x q.y) L1 Bk1) := by
  have HS := Lib.hid (MS.start w p (.slice (some ⟨g, 0, none⟩) L.length L.length) (.slice (some ⟨h, 0, none⟩) Bk.length Bk.length))
  have T : Hid (∀ wx, Below w.heap.size w wx → Calls Try.prog 50 #[gv p (.slice (some ⟨g, 0, none⟩) L.length L.length) (.slice (some ⟨h, 0, none⟩) Bk.length Bk.length)] wx (LinePost B g wx q L1 Bk1)) := hT
  have hgl := hs.rows.lt
  clear hT hs
  have HM := Lib.hid (fun D E n c m d w => moved_any q D E n c m d q.x q.y w hq.w0 hq.w1 hq.h0 hq.h1)
  clear hq
  unfold ov gv gcs
  go_enter Try.func29, Try.ntmps29
  go_upto_region 1 with fail
  refine wp_world (fun wq => MS w p (.slice (some ⟨g, 0, none⟩) L.length L.length) (.slice (some ⟨h, 0, none⟩) Bk.length Bk.length) wq) HS.out ?_
  clear HS
  intro w2 ms
  have xg := ms.box
  go_upto_region 4 with (first
    | (with_reducible refine wpList_loadB xg (x := .tmp 2) ?_ ?_ ?_ ?_
       · with_reducible rfl
       · rfl
       · rfl)
    | (go_at_call 50
       refine (T.out w2 ms.below).mono ?_
       clear T
       rintro e w3 ⟨g3, h3, rfl, s3, e3, b3⟩
       have x3 := ms.box.below b3 ms.box.lt)
    | (with_reducible refine wpList_storeA x3 (x := .tmp 2) (y := .tmp 10) (p := q) (D := some ⟨g3, 0, none⟩) (E := some ⟨h3, 0, none⟩) (n := L1.length) (c := L1.length) (m := Bk1.length) (d := Bk1.length) ?_ ?_ ?_ ?_ ?_
       · with_reducible rfl
       · rfl
       · rfl
       · rfl))
  have hz := ms.below.size
  refine wp_world (fun wq => Box wq w.heap.size q (.slice (some ⟨g3, 0, none⟩) L1.length L1.length) (.slice (some ⟨h3, 0, none⟩) Bk1.length Bk1.length) ∧ Box wq (w.heap.size + 1) zeroNm nilV nilV ∧ OScr B wq g3 h3 L1 Bk1 ∧ Below w.heap.size w wq)
    ⟨x3.setRow _ _ _, (setRow_other _ _ _ _ (by omega)).trans (ms.ans.below b3 ms.ans.lt), s3.bput x3 _, below_setRow (ms.below.trans (b3.mono ms.below.size)) (Nat.le_refl _) _⟩ ?_
  clear xg x3 ms s3 b3
  rintro w4 ⟨x4, a4, s4, b4⟩
  have u2 := x4.cells.c2
  have u3 := x4.cells.c3
  go_wp2_with (first
    | (with_reducible refine wpList_loadB x4 (x := .tmp 2) ?_ ?_ ?_ ?_
       · with_reducible rfl
       · rfl
       · rfl)
    | (go_at_call 54
       refine (HM.out _ _ _ _ _ _ w4).mono ?_
       clear HM
       rintro e w5 ⟨rfl, b5⟩
       have a5 := a4.below b5 a4.lt
       generalize hz : movedNm q q.x q.y = z at *)
    | (with_reducible refine wpList_storeA a5 (x := .tmp 4) (y := .tmp 16) (p := z) (D := some ⟨g3, 0, none⟩) (E := some ⟨h3, 0, none⟩) (n := L1.length) (c := L1.length) (m := Bk1.length) (d := Bk1.length) ?_ ?_ ?_ ?_ ?_
       · with_reducible rfl
       · rfl
       · rfl
       · rfl))
  refine bodyPost_ret (v := gv z (.slice (some ⟨g3, 0, none⟩) L1.length L1.length) (.slice (some ⟨h3, 0, none⟩) Bk1.length Bk1.length)) (results_cell_row (P := Try.prog) Try.results29 _ _ (w.heap.size + 1) 35 _ (0, 0) _ rfl (a5.setRow _ _ _) Try.underlying35 rfl box_size) rfl ?_
  exact ⟨g3, h3, rfl, (s4.below b5 (Nat.le_refl _)).bput a5 _, (Chg.of (below_setRow (b4.trans (b5.mono b4.size)) (Nat.le_succ _) _) hgl)⟩
end Go.Proofs.Ytpcpmeihebgncaa

/-
  What lineBack of package acts answers at the region's first row, what escaped answers for M there, what bounded answers where two rows or more scroll, and sequenced for r. Conditions: at most a thousand rows of at most a thousand cells, at most fifty lines that went; the screen's sides lie between 1 and 1,000, the cursor is on it.
-/
namespace Go.Proofs.Ytpcpmeihebgncaa
open Go.RowKit
set_option maxRecDepth 100000

set_option maxHeartbeats 4000000 in
theorem lineBack_any (B : Nat) (p : Nm) (g h : Nat) (L Bk : List (List C)) (w : World) (hs : OScr B w g h L Bk) (hq : On p) (hy : p.y = p.top) (h0 : 1 ≤ L.length) (hn : L.length ≤ 1000) (hm : Bk.length ≤ 50) (hl : ∀ r ∈ L, r.length ≤ 1000) (hlb : ∀ r ∈ Bk, r.length ≤ 1000) :
    Calls Try.prog 55 #[ov p g h L Bk] w (LinePost B g w (movedNm p p.x p.y) (downG p L) Bk) := by
  have HS := Lib.hid (MS.start w p (.slice (some ⟨g, 0, none⟩) L.length L.length) (.slice (some ⟨h, 0, none⟩) Bk.length Bk.length))
  have hB : B ≤ w.heap.size := by have := hs.rows.low; have := hs.rows.lt; omega
  have HU : Hid (∀ wx, Below w.heap.size w wx → Calls Try.prog 100 #[gv p (.slice (some ⟨g, 0, none⟩) L.length L.length) (.slice (some ⟨h, 0, none⟩) Bk.length Bk.length), .int .i64 p.top, .int .i64 p.bottom, .int .i64 1] wx (OwnPost wx p (downG p L) Bk)) := fun wx hb => downO_any p _ _ L.length L.length Bk.length Bk.length L Bk p.top p.bottom 1 wx ((hs.below hb (Nat.le_refl _)).weak (Nat.zero_le _)).scr h0 hn hm hl hlb
  have HM := Lib.hid (fun D E n c m d w => moved_any p D E n c m d p.x p.y w hq.w0 hq.w1 hq.h0 hq.h1)
  clear hs hl hlb hn hm h0 hq
  generalize downG p L = L2 at *
  have HY := Lib.hid hy
  clear hy
  unfold ov gv gcs
  go_enter Try.func55, Try.ntmps55
  go_upto_region 1 with fail
  refine wp_world (fun wq => MS w p (.slice (some ⟨g, 0, none⟩) L.length L.length) (.slice (some ⟨h, 0, none⟩) Bk.length Bk.length) wq) HS.out ?_
  clear HS
  intro w2 ms
  have xg := ms.box
  have u3 := xg.cells.c3
  have u6 := xg.cells.c6
  have u7 := xg.cells.c7
  rw [HY.out] at u3
  go_upto_region 3 with (first
    | (with_reducible refine wpList_loadB xg (x := .tmp 1) ?_ ?_ ?_ ?_
       · with_reducible rfl
       · rfl
       · rfl)
    | (go_at_call 100
       refine (HU.out w2 ms.below).mono ?_
       clear HU
       rintro e w3 ⟨g3, h3, rfl, s3, b3⟩
       have x3 := ms.box.below b3 ms.box.lt)
    | (with_reducible refine wpList_storeA x3 (x := .tmp 1) (y := .tmp 13) (p := p) (D := some ⟨g3, 0, none⟩) (E := some ⟨h3, 0, none⟩) (n := L2.length) (c := L2.length) (m := Bk.length) (d := Bk.length) ?_ ?_ ?_ ?_ ?_
       · with_reducible rfl
       · rfl
       · rfl
       · rfl))
  have hz := ms.below.size
  have hlow := s3.rows.low
  have hfree : w.heap.size ≤ g3 := by omega
  refine wp_world (fun wq => Box wq w.heap.size p (.slice (some ⟨g3, 0, none⟩) L2.length L2.length) (.slice (some ⟨h3, 0, none⟩) Bk.length Bk.length) ∧ Box wq (w.heap.size + 1) zeroNm nilV nilV ∧ OScr B wq g3 h3 L2 Bk ∧ Below w.heap.size w wq)
    ⟨x3.setRow _ _ _, (setRow_other _ _ _ _ (by omega)).trans (ms.ans.below b3 ms.ans.lt), (s3.bput x3 _).weak (by omega), below_setRow (ms.below.trans (b3.mono ms.below.size)) (Nat.le_refl _) _⟩ ?_
  clear xg x3 ms s3 b3 u3 u6 u7 hlow hz
  rintro w4 ⟨x4, a4, s4, b4⟩
  have u2 := x4.cells.c2
  have u3 := x4.cells.c3
  go_wp2_with (first
    | (with_reducible refine wpList_loadB x4 (x := .tmp 1) ?_ ?_ ?_ ?_
       · with_reducible rfl
       · rfl
       · rfl)
    | (go_at_call 54
       refine (HM.out _ _ _ _ _ _ w4).mono ?_
       clear HM
       rintro e w5 ⟨rfl, b5⟩
       have a5 := a4.below b5 a4.lt
       generalize hz : movedNm p p.x p.y = z at *)
    | (with_reducible refine wpList_storeA a5 (x := .tmp 2) (y := .tmp 19) (p := z) (D := some ⟨g3, 0, none⟩) (E := some ⟨h3, 0, none⟩) (n := L2.length) (c := L2.length) (m := Bk.length) (d := Bk.length) ?_ ?_ ?_ ?_ ?_
       · with_reducible rfl
       · rfl
       · rfl
       · rfl))
  refine bodyPost_ret (v := gv z (.slice (some ⟨g3, 0, none⟩) L2.length L2.length) (.slice (some ⟨h3, 0, none⟩) Bk.length Bk.length)) (results_cell_row (P := Try.prog) Try.results55 _ _ (w.heap.size + 1) 35 _ (0, 0) _ rfl (a5.setRow _ _ _) Try.underlying35 rfl box_size) rfl ?_
  exact ⟨g3, h3, rfl, (s4.below b5 (Nat.le_refl _)).bput a5 _, .inr hfree, below_setRow (b4.trans (b5.mono b4.size)) (Nat.le_succ _) _⟩

set_option maxHeartbeats 4000000 in
theorem escM_any (B : Nat) (p q : Nm) (g h : Nat) (L Bk L1 Bk1 : List (List C)) (w : World) (hs : OScr B w g h L Bk)
    (hT : ∀ wx, Below w.heap.size w wx → Calls Try.prog 55 #[ov p g h L Bk] wx (LinePost B g wx q L1 Bk1)) :
    Calls Try.prog 29 #[ov p g h L Bk, .int .i32 77] w (InPost B g w q L1 Bk1) := by
  have HS := Lib.hid (MS.start w p (.slice (some ⟨g, 0, none⟩) L.length L.length) (.slice (some ⟨h, 0, none⟩) Bk.length Bk.length))
  have T : Hid (∀ wx, Below w.heap.size w wx → Calls Try.prog 55 #[gv p (.slice (some ⟨g, 0, none⟩) L.length L.length) (.slice (some ⟨h, 0, none⟩) Bk.length Bk.length)] wx (LinePost B g wx q L1 Bk1)) := hT
  have hgl := hs.rows.lt
  clear hT hs
  unfold ov gv gcs
  go_enter Try.func29, Try.ntmps29
  go_upto_region 1 with fail
  refine wp_world (fun wq => MS w p (.slice (some ⟨g, 0, none⟩) L.length L.length) (.slice (some ⟨h, 0, none⟩) Bk.length Bk.length) wq) HS.out ?_
  clear HS
  intro w2 ms
  have xg := ms.box
  go_wp2_with (first
    | (with_reducible refine wpList_loadB xg (x := .tmp 2) ?_ ?_ ?_ ?_
       · with_reducible rfl
       · rfl
       · rfl)
    | (go_at_call 55
       refine (T.out w2 ms.below).mono ?_
       clear T
       rintro e w3 ⟨g3, h3, rfl, s3, e3, b3⟩
       have a3 := ms.ans.below b3 ms.ans.lt)
    | (with_reducible refine wpList_storeA a3 (x := .tmp 4) (y := .tmp 20) (p := q) (D := some ⟨g3, 0, none⟩) (E := some ⟨h3, 0, none⟩) (n := L1.length) (c := L1.length) (m := Bk1.length) (d := Bk1.length) ?_ ?_ ?_ ?_ ?_
       · with_reducible rfl
       · rfl
       · rfl
       · rfl))
  refine bodyPost_ret (v := gv q (.slice (some ⟨g3, 0, none⟩) L1.length L1.length) (.slice (some ⟨h3, 0, none⟩) Bk1.length Bk1.length)) (results_cell_row (P := Try.prog) Try.results29 _ _ (w.heap.size + 1) 35 _ (0, 0) _ rfl (a3.setRow _ _ _) Try.underlying35 rfl box_size) rfl ?_
  exact ⟨g3, h3, rfl, s3.bput a3 _, Chg.of (below_setRow (ms.below.trans (b3.mono ms.below.size)) (Nat.le_succ _) _) hgl⟩

set_option maxHeartbeats 4000000 in
theorem bounded_any (p : Nm) (D E : Option Addr) (n c m d : Nat) (a b t u : Int) (w : World) (hq : On p) (ht : withinF a (p.h - 1) = t) (hu : withinF b (p.h - 1) = u) (htu : t < u) :
    Calls Try.prog 57 #[gv p (.slice D n c) (.slice E m d), .int .i64 a, .int .i64 b] w (ValPost (gv (movedNm { p with top := t, bottom := u } 0 0) (.slice D n c) (.slice E m d)) w) := by
  have HS := Lib.hid (MS.start w p (.slice D n c) (.slice E m d))
  obtain ⟨q, hq0⟩ : ∃ q : Nm, { p with top := t, bottom := u } = q := ⟨_, rfl⟩
  have HM : Hid (∀ w, Calls Try.prog 54 #[gv q (.slice D n c) (.slice E m d), .int .i64 0, .int .i64 0] w (ValPost (gv (movedNm q 0 0) (.slice D n c) (.slice E m d)) w)) := fun w => by
    rw [← hq0]
    exact moved_any { p with top := t, bottom := u } D E n c m d 0 0 w hq.w0 hq.w1 hq.h0 hq.h1
  rw [hq0]
  have HQ0 := Lib.hid hq0
  clear hq0
  have HA : Hid (∀ w, Calls Try.prog 99 #[.int .i64 a, .int .i64 (p.h - 1)] w fun e w' => e = .returned (.int .i64 t) ∧ w = w') := fun w => by rw [← ht]; exact awithin_any a _ w
  have HB : Hid (∀ w, Calls Try.prog 99 #[.int .i64 b, .int .i64 (p.h - 1)] w fun e w' => e = .returned (.int .i64 u) ∧ w = w') := fun w => by rw [← hu]; exact awithin_any b _ w
  have s1 : IntKind.i64.wrap (p.h - 1) = p.h - 1 := IntWalk.i64_in _ (by have := hq.h0; have := hq.h1; omega)
  clear hq ht hu
  unfold gv gcs
  go_enter Try.func57, Try.ntmps57
  go_upto_region 1 with fail
  refine wp_world (fun wq => MS w p (.slice D n c) (.slice E m d) wq) HS.out ?_
  clear HS
  intro w2 ms
  have msd := ms.drew
  have u1 := msd.box.cells.c1
  go_cut [1, 2] (fun x y wx => x = .int .i64 t ∧ y = .int .i64 u ∧ wx = w2.drew)
  case first =>
    go_region_held3 (fun w' => w'.cell? ⟨w.heap.size, 1, none⟩ = some (.int .i64 p.h))
      (first | with_reducible exact u1 | fail)
      (first
        | (go_at_call 99
           (with_reducible refine (HA.out _).mono ?_)
           rintro e w' ⟨rfl, rfl⟩)
        | (go_at_call 99
           (with_reducible refine (HB.out _).mono ?_)
           rintro e w' ⟨rfl, rfl⟩))
    all_goals go_wp2_with fail
    all_goals go_meet
    all_goals exact ⟨rfl, rfl, rfl⟩
  case rest =>
    obtain ⟨rfl, rfl, rfl⟩ := hcut
    clear ms u1 HA HB s1
    generalize w2.drew = wd at *
    have htu' : ¬ t ≥ u := by omega
    have v6 := msd.box.cells.c6
    have v7 := msd.box.cells.c7
    have vf := msd.box.cells.free
    have hz1 := msd.box.lt
    go_upto_region 5 with fail
    have m1 := msd.far (msd.box.set_top t)
    have m2 : MS w q (.slice D n c) (.slice E m d) ((wd.setCell ⟨w.heap.size, 6, none⟩ (.int .i64 t)).setCell ⟨w.heap.size, 7, none⟩ (.int .i64 u)) := by rw [← HQ0.out]; exact m1.far (m1.box.set_bottom u)
    clear v6 v7 vf hz1 m1 msd
    generalize ((wd.setCell ⟨w.heap.size, 6, none⟩ (.int .i64 t)).setCell ⟨w.heap.size, 7, none⟩ (.int .i64 u)) = w3 at *
    have xg := m2.box
    go_wp2_with (first
      | (with_reducible refine wpList_loadB xg (x := .tmp 3) ?_ ?_ ?_ ?_
         · with_reducible rfl
         · rfl
         · rfl)
      | (go_at_call 54
         with_reducible refine (HM.out w3).mono ?_
         clear HM
         rintro e w5 ⟨rfl, b5⟩
         have a5 := m2.ans.below b5 m2.ans.lt
         generalize hz : movedNm q 0 0 = z at *)
      | (with_reducible refine wpList_storeA a5 (x := .tmp 6) (y := .tmp 26) (p := z) (D := D) (E := E) (n := n) (c := c) (m := m) (d := d) ?_ ?_ ?_ ?_ ?_
         · with_reducible rfl
         · rfl
         · rfl
         · rfl))
    refine bodyPost_ret (v := gv z (.slice D n c) (.slice E m d)) (results_cell_row (P := Try.prog) Try.results57 _ _ (w.heap.size + 1) 35 _ (0, 0) _ rfl (a5.setRow _ _ _) Try.underlying35 rfl box_size) rfl ?_
    exact ⟨rfl, below_setRow (m2.below.trans (b5.mono m2.below.size)) (Nat.le_succ _) _⟩

set_option maxHeartbeats 4000000 in
theorem seq_r (p : Nm) (D E PD : Option Addr) (n c m d pc : Nat) (xs : List Int) (t u : Int) (w : World) (hr : ReadI w (.slice PD xs.length pc) xs) (hp : On p) (ht : withinF (toldF xs 0 1 - 1) (p.h - 1) = t) (hu : withinF (toldF xs 1 p.h - 1) (p.h - 1) = u) (htu : t < u) :
    Calls Try.prog 30 #[gv p (.slice D n c) (.slice E m d), .int .i32 114, .slice PD xs.length pc] w (ValPost (gv (movedNm { p with top := t, bottom := u } 0 0) (.slice D n c) (.slice E m d)) w) := by
  have HS := Lib.hid (MS.start w p (.slice D n c) (.slice E m d))
  have HT : Hid (∀ wx, Below w.heap.size w wx → Calls Try.prog 56 #[.slice PD xs.length pc, .int .i64 0, .int .i64 1] wx fun e w' => e = .returned (.int .i64 (toldF xs 0 1)) ∧ wx = w') := fun wx hb => told_any PD pc xs 0 1 wx (hr.below hb (Nat.le_refl _))
  have HT1 : Hid (∀ wx, Below w.heap.size w wx → Calls Try.prog 56 #[.slice PD xs.length pc, .int .i64 1, .int .i64 p.h] wx fun e w' => e = .returned (.int .i64 (toldF xs 1 p.h)) ∧ wx = w') := fun wx hb => told_any PD pc xs 1 p.h wx (hr.below hb (Nat.le_refl _))
  obtain ⟨k0, k1⟩ := told_le (xs := xs) (i := 0) (o := 1) (by omega) (by omega)
  obtain ⟨j0, j1⟩ := told_le (xs := xs) (i := 1) (o := p.h) hp.h0 (by have := hp.h1; omega)
  generalize toldF xs 0 1 = k at *
  generalize toldF xs 1 p.h = j at *
  have HBD := Lib.hid (fun w => bounded_any p D E n c m d (k - 1) (j - 1) t u w hp ht hu htu)
  have s1 : IntKind.i64.wrap (k - 1) = k - 1 := IntWalk.i64_in _ (by omega)
  have s2 : IntKind.i64.wrap (j - 1) = j - 1 := IntWalk.i64_in _ (by omega)
  clear hr hp ht hu htu
  unfold gv gcs
  go_enter Try.func30, Try.ntmps30
  go_upto_region 1 with fail
  refine wp_world (fun wq => MS w p (.slice D n c) (.slice E m d) wq) HS.out ?_
  clear HS
  intro w2 rs
  have HR0 := Lib.hid rs
  clear rs
  go_upto_region 19 with (
    go_at_call 56
    refine (HT.out _ HR0.out.below).mono ?_
    rintro e w' ⟨rfl, rfl⟩)
  have HR := Lib.hid HR0.out.drew
  clear HR0 HT
  refine wp_region_held_drew (S := fun w' => Box w' w.heap.size p (.slice D n c) (.slice E m d) ∧ w'.cell? ⟨w.heap.size, 1, none⟩ = some (.int .i64 p.h)) (by kernel_rfl) (by exact ⟨HR.out.box, HR.out.box.cells.c1⟩) (fun hH0 => ?_)
  refine wpAnyH_take (i := 0) (oi := _) (v := gv p (.slice D n c) (.slice E m d)) rfl (by kernel_rfl) (by kernel_rfl) (by kernel_rfl) (fun _ _ _ h => h) (yields_loadB (by rfl) rfl (by rfl) (fun _ h => h.1)) hH0 ?_
  change wpAnyH _ _ _ _ _ _ _ (Act.put _ (some 79) (gv p (.slice D n c) (.slice E m d))) _
  simp only [Act.put, List.setIfInBounds_toArray, List.set_cons_zero, List.set_cons_succ]
  refine wpAnyH_take (i := 1) (oi := _) (v := .int .i64 k) rfl (by kernel_rfl) (by kernel_rfl) (by kernel_rfl) (fun _ _ _ h => h) (Or.inl ⟨by rfl, ?_⟩) hH0 ?_
  · intro wv hSw
    try dsimp only at hSw
    go_simp
  change wpAnyH _ _ _ _ _ _ _ (Act.put _ (some 80) (.int .i64 k)) _
  simp only [Act.put, List.setIfInBounds_toArray, List.set_cons_zero, List.set_cons_succ]
  refine wpAnyH_take (i := 2) (oi := _) (v := .int .i64 (k - 1)) rfl (by kernel_rfl) (by kernel_rfl) (by kernel_rfl) (fun _ _ _ h => h) (Or.inl ⟨by rfl, ?_⟩) hH0 ?_
  · intro wv hSw
    try dsimp only at hSw
    go_simp
  change wpAnyH _ _ _ _ _ _ _ (Act.put _ (some 81) (.int .i64 (k - 1))) _
  simp only [Act.put, List.setIfInBounds_toArray, List.set_cons_zero, List.set_cons_succ]
  refine wpAnyH_take (i := 3) (oi := _) (v := .slice PD xs.length pc) rfl (by kernel_rfl) (by kernel_rfl) (by kernel_rfl) (fun _ _ _ h => h) (Or.inl ⟨by rfl, ?_⟩) hH0 ?_
  · intro wv hSw
    try dsimp only at hSw
    go_simp
  change wpAnyH _ _ _ _ _ _ _ (Act.put _ (some 82) (.slice PD xs.length pc)) _
  simp only [Act.put, List.setIfInBounds_toArray, List.set_cons_zero, List.set_cons_succ]
  refine wpAnyH_take (i := 4) (oi := _) (v := .pointer (some ⟨w.heap.size, 1, none⟩)) rfl (by kernel_rfl) (by kernel_rfl) (by kernel_rfl) (fun _ _ _ h => h) (Or.inl ⟨by rfl, ?_⟩) hH0 ?_
  · intro wv hSw
    try dsimp only at hSw
    go_simp
  change wpAnyH _ _ _ _ _ _ _ (Act.put _ (some 83) (.pointer (some ⟨w.heap.size, 1, none⟩))) _
  simp only [Act.put, List.setIfInBounds_toArray, List.set_cons_zero, List.set_cons_succ]
  refine wpAnyH_take (i := 5) (oi := _) (v := .int .i64 p.h) rfl (by kernel_rfl) (by kernel_rfl) (by kernel_rfl) (fun _ _ _ h => h) (Or.inl ⟨by rfl, ?_⟩) hH0 ?_
  · intro wv hSw
    try dsimp only at hSw
    go_simp
  change wpAnyH _ _ _ _ _ _ _ (Act.put _ (some 84) (.int .i64 p.h)) _
  simp only [Act.put, List.setIfInBounds_toArray, List.set_cons_zero, List.set_cons_succ]
  refine wpAnyH_ready (rs := [6]) (by kernel_rfl) (by simp) ?_
  refine AllReadyH.cons (o := _) rfl (fun K hK => ?_) AllReadyH.nil
  go_simp
  refine (HT1.out _ HR.out.below).mono ?_
  rintro e w' ⟨rfl, rfl⟩
  go_wp2_with fail
  refine hK.out _ _ (by exact ⟨HR.out.box, HR.out.box.cells.c1⟩) (fun hH1 => ?_)
  clear hK K
  try simp only [Act.put, List.setIfInBounds_toArray, List.set_cons_zero, List.set_cons_succ]
  refine wpAnyH_take (i := 7) (oi := _) (v := .int .i64 (j - 1)) rfl (by kernel_rfl) (by kernel_rfl) (by kernel_rfl) (fun _ _ _ h => h) (Or.inl ⟨by rfl, ?_⟩) hH1 ?_
  · intro wv hSw
    try dsimp only at hSw
    go_simp
  change wpAnyH _ _ _ _ _ _ _ (Act.put _ (some 86) (.int .i64 (j - 1))) _
  simp only [Act.put, List.setIfInBounds_toArray, List.set_cons_zero, List.set_cons_succ]
  refine wpAnyH_ready (rs := [8]) (by kernel_rfl) (by simp) ?_
  refine AllReadyH.cons (o := _) rfl (fun K hK => ?_) AllReadyH.nil
  go_simp
  refine (HBD.out w2.drew).mono ?_
  rintro e w5 ⟨rfl, b5⟩
  have x5 := HR.out.box.below b5 HR.out.box.lt
  have a5 := HR.out.ans.below b5 HR.out.ans.lt
  generalize hz : movedNm { p with top := t, bottom := u } 0 0 = z at *
  go_wp2_with fail
  refine hK.out _ _ (by exact ⟨x5, x5.cells.c1⟩) (fun hH2 => ?_)
  clear hK K
  try simp only [Act.put, List.setIfInBounds_toArray, List.set_cons_zero, List.set_cons_succ]
  refine wpAnyH_ready (rs := [9]) (by kernel_rfl) (by simp) ?_
  refine AllReadyH.cons (o := _) rfl (fun K hK => ?_) AllReadyH.nil
  rw [if_pos (by rfl)]
  refine wp_storeA a5 (x := .tmp 6) (y := .tmp 87) (p := z) (D := D) (E := E) (n := n) (c := c) (m := m) (d := d) rfl rfl rfl ?_
  have x6 : Box (w5.setRow (w.heap.size + 1) (gcs z (.slice D n c) (.slice E m d))) w.heap.size p (.slice D n c) (.slice E m d) := (setRow_other _ _ _ _ (by omega)).trans x5
  refine hK.out _ _ (by exact ⟨x6, x6.cells.c1⟩) (fun hH3 => ?_)
  clear hK K
  dsimp only [Act.put]
  refine wpAnyH_done (by kernel_rfl) ?_ _
  clear hH0 hH1 hH2 hH3
  go_wp2_with fail
  refine bodyPost_ret (v := gv z (.slice D n c) (.slice E m d)) (results_cell_row (P := Try.prog) Try.results30 _ _ (w.heap.size + 1) 35 _ (0, 0) _ rfl (a5.setRow _ _ _) Try.underlying35 rfl box_size) rfl ?_
  exact ⟨rfl, below_setRow (HR.out.below.trans (b5.mono HR.out.below.size)) (Nat.le_succ _) _⟩
end Go.Proofs.Ytpcpmeihebgncaa

/-
  What controlled and escaped of package acts answer, rune by rune. Conditions: the screen's sides lie between 1 and 1,000, the cursor is on it.
-/
namespace Go.Proofs.Ytpcpmeihebgncaa
open Go.RowKit
set_option maxRecDepth 100000

set_option maxHeartbeats 4000000 in
theorem ctl_8 (p : Nm) (D E : Option Addr) (n c m d : Nat) (w : World) (hp : On p) :
    Calls Try.prog 28 #[gv p (.slice D n c) (.slice E m d), .int .i32 8] w (ValPost (gv (movedNm p (p.x - 1) p.y) (.slice D n c) (.slice E m d)) w) := by
  have HS := Lib.hid (MS.start w p (.slice D n c) (.slice E m d))
  obtain ⟨w0, w1, h0, h1, x0, x1, y0, y1⟩ := hp
  have s1 : IntKind.i64.wrap (p.x - 1) = p.x - 1 := IntWalk.i64_in _ (by omega)
  unfold gv gcs
  go_enter Try.func28, Try.ntmps28
  go_upto_region 1 with fail
  refine wp_world (fun wq => MS w p (.slice D n c) (.slice E m d) wq) HS.out ?_
  clear HS
  intro w2 rs
  have xg := rs.box
  have u2 := xg.cells.c2
  have u3 := xg.cells.c3
  have HM := Lib.hid (moved_any p D E n c m d (p.x - 1) p.y w2 w0 w1 h0 h1)
  have HR := Lib.hid rs
  clear rs w0 w1 h0 h1 x0 x1 y0 y1
  go_wp2_with (first
    | (with_reducible refine wpList_loadB xg (x := .tmp 2) ?_ ?_ ?_ ?_
       · with_reducible rfl
       · rfl
       · rfl)
    | (go_at_call 54
       refine HM.out.mono ?_
       clear HM
       rintro e w5 ⟨rfl, hb5⟩
       have xa := HR.out.ans.below hb5 HR.out.ans.lt
       generalize hq : movedNm p (p.x - 1) p.y = q at *)
    | (with_reducible refine wpList_storeA xa (x := .tmp 4) (y := .tmp 14) (p := q) (D := D) (E := E) (n := n) (c := c) (m := m) (d := d) ?_ ?_ ?_ ?_ ?_
       · with_reducible rfl
       · rfl
       · rfl
       · rfl))
  refine bodyPost_ret (v := gv q (.slice D n c) (.slice E m d)) (results_cell_row (P := Try.prog) Try.results28 _ _ (w.heap.size + 1) 35 _ (0, 0) _ rfl (xa.setRow q _ _) Try.underlying35 rfl box_size) rfl ?_
  exact ⟨rfl, below_setRow (HR.out.below.trans (hb5.mono HR.out.below.size)) (Nat.le_succ _) _⟩

set_option maxHeartbeats 4000000 in
theorem ctl_9 (p : Nm) (D E : Option Addr) (n c m d : Nat) (w : World) (hp : On p) :
    Calls Try.prog 28 #[gv p (.slice D n c) (.slice E m d), .int .i32 9] w (ValPost (gv (movedNm p ((p.x / 8 + 1) * 8) p.y) (.slice D n c) (.slice E m d)) w) := by
  have HS := Lib.hid (MS.start w p (.slice D n c) (.slice E m d))
  obtain ⟨w0, w1, h0, h1, x0, x1, y0, y1⟩ := hp
  have s0 : p.x.tdiv 8 = p.x / 8 := Int.tdiv_eq_ediv_of_nonneg x0
  have s1 : IntKind.i64.wrap (p.x / 8) = p.x / 8 := IntWalk.i64_in _ (by omega)
  have s2 : IntKind.i64.wrap (p.x / 8 + 1) = p.x / 8 + 1 := IntWalk.i64_in _ (by omega)
  have s3 : IntKind.i64.wrap ((p.x / 8 + 1) * 8) = (p.x / 8 + 1) * 8 := IntWalk.i64_in _ (by omega)
  unfold gv gcs
  go_enter Try.func28, Try.ntmps28
  go_upto_region 1 with fail
  refine wp_world (fun wq => MS w p (.slice D n c) (.slice E m d) wq) HS.out ?_
  clear HS
  intro w2 rs
  have xg := rs.box
  have u2 := xg.cells.c2
  have u3 := xg.cells.c3
  have HM := Lib.hid (moved_any p D E n c m d ((p.x / 8 + 1) * 8) p.y w2 w0 w1 h0 h1)
  have HR := Lib.hid rs
  clear rs w0 w1 h0 h1 x0 x1 y0 y1
  go_wp2_with (first
    | (with_reducible refine wpList_loadB xg (x := .tmp 2) ?_ ?_ ?_ ?_
       · with_reducible rfl
       · rfl
       · rfl)
    | (go_at_call 54
       refine HM.out.mono ?_
       clear HM
       rintro e w5 ⟨rfl, hb5⟩
       have xa := HR.out.ans.below hb5 HR.out.ans.lt
       generalize hq : movedNm p ((p.x / 8 + 1) * 8) p.y = q at *)
    | (with_reducible refine wpList_storeA xa (x := .tmp 4) (y := .tmp 25) (p := q) (D := D) (E := E) (n := n) (c := c) (m := m) (d := d) ?_ ?_ ?_ ?_ ?_
       · with_reducible rfl
       · rfl
       · rfl
       · rfl))
  refine bodyPost_ret (v := gv q (.slice D n c) (.slice E m d)) (results_cell_row (P := Try.prog) Try.results28 _ _ (w.heap.size + 1) 35 _ (0, 0) _ rfl (xa.setRow q _ _) Try.underlying35 rfl box_size) rfl ?_
  exact ⟨rfl, below_setRow (HR.out.below.trans (hb5.mono HR.out.below.size)) (Nat.le_succ _) _⟩

set_option maxHeartbeats 4000000 in
theorem ctl_13 (p : Nm) (D E : Option Addr) (n c m d : Nat) (w : World) (hp : On p) :
    Calls Try.prog 28 #[gv p (.slice D n c) (.slice E m d), .int .i32 13] w (ValPost (gv (movedNm p 0 p.y) (.slice D n c) (.slice E m d)) w) := by
  have HS := Lib.hid (MS.start w p (.slice D n c) (.slice E m d))
  obtain ⟨w0, w1, h0, h1, x0, x1, y0, y1⟩ := hp
  skip
  unfold gv gcs
  go_enter Try.func28, Try.ntmps28
  go_upto_region 1 with fail
  refine wp_world (fun wq => MS w p (.slice D n c) (.slice E m d) wq) HS.out ?_
  clear HS
  intro w2 rs
  have xg := rs.box
  have u2 := xg.cells.c2
  have u3 := xg.cells.c3
  have HM := Lib.hid (moved_any p D E n c m d 0 p.y w2 w0 w1 h0 h1)
  have HR := Lib.hid rs
  clear rs w0 w1 h0 h1 x0 x1 y0 y1
  go_wp2_with (first
    | (with_reducible refine wpList_loadB xg (x := .tmp 2) ?_ ?_ ?_ ?_
       · with_reducible rfl
       · rfl
       · rfl)
    | (go_at_call 54
       refine HM.out.mono ?_
       clear HM
       rintro e w5 ⟨rfl, hb5⟩
       have xa := HR.out.ans.below hb5 HR.out.ans.lt
       generalize hq : movedNm p 0 p.y = q at *)
    | (with_reducible refine wpList_storeA xa (x := .tmp 4) (y := .tmp 43) (p := q) (D := D) (E := E) (n := n) (c := c) (m := m) (d := d) ?_ ?_ ?_ ?_ ?_
       · with_reducible rfl
       · rfl
       · rfl
       · rfl))
  refine bodyPost_ret (v := gv q (.slice D n c) (.slice E m d)) (results_cell_row (P := Try.prog) Try.results28 _ _ (w.heap.size + 1) 35 _ (0, 0) _ rfl (xa.setRow q _ _) Try.underlying35 rfl box_size) rfl ?_
  exact ⟨rfl, below_setRow (HR.out.below.trans (hb5.mono HR.out.below.size)) (Nat.le_succ _) _⟩

def Noctl_no (r : Int) : Prop := r ≠ 8 ∧ r ≠ 9 ∧ r ≠ 10 ∧ r ≠ 11 ∧ r ≠ 12 ∧ r ≠ 13
set_option maxHeartbeats 4000000 in
theorem ctl_no (p : Nm) (D E : Option Addr) (n c m d : Nat) (r : Int) (w : World) (hr : Noctl_no r) :
    Calls Try.prog 28 #[gv p (.slice D n c) (.slice E m d), .int .i32 r] w (ValPost (gv p (.slice D n c) (.slice E m d)) w) := by
  have HS := Lib.hid (MS.start w p (.slice D n c) (.slice E m d))
  obtain ⟨n8, n9, n10, n11, n12, n13⟩ := hr
  unfold gv gcs
  go_enter Try.func28, Try.ntmps28
  go_upto_region 1 with fail
  refine wp_world (fun wq => MS w p (.slice D n c) (.slice E m d) wq) HS.out ?_
  clear HS
  intro w2 rs
  have xg := rs.box
  have xa := rs.ans
  go_wp2_with (first
    | (with_reducible refine wpList_loadB xg (x := .tmp 2) ?_ ?_ ?_ ?_
       · with_reducible rfl
       · rfl
       · rfl)
    | (with_reducible refine wpList_storeA xa (x := .tmp 4) (y := .tmp 44) (p := p) (D := D) (E := E) (n := n) (c := c) (m := m) (d := d) ?_ ?_ ?_ ?_ ?_
       · with_reducible rfl
       · rfl
       · rfl
       · rfl))
  refine bodyPost_ret (v := gv p (.slice D n c) (.slice E m d)) (results_cell_row (P := Try.prog) Try.results28 _ _ (w.heap.size + 1) 35 _ (0, 0) _ rfl (xa.setRow p _ _) Try.underlying35 rfl box_size) rfl ?_
  exact ⟨rfl, below_setRow rs.below (Nat.le_succ _) _⟩

def Noesc_no (r : Int) : Prop := r ≠ 68 ∧ r ≠ 77 ∧ r ≠ 69 ∧ r ≠ 55 ∧ r ≠ 56 ∧ r ≠ 99
set_option maxHeartbeats 4000000 in
theorem esc_no (p : Nm) (D E : Option Addr) (n c m d : Nat) (r : Int) (w : World) (hr : Noesc_no r) :
    Calls Try.prog 29 #[gv p (.slice D n c) (.slice E m d), .int .i32 r] w (ValPost (gv p (.slice D n c) (.slice E m d)) w) := by
  have HS := Lib.hid (MS.start w p (.slice D n c) (.slice E m d))
  obtain ⟨n68, n77, n69, n55, n56, n99⟩ := hr
  unfold gv gcs
  go_enter Try.func29, Try.ntmps29
  go_upto_region 1 with fail
  refine wp_world (fun wq => MS w p (.slice D n c) (.slice E m d) wq) HS.out ?_
  clear HS
  intro w2 rs
  have xg := rs.box
  have xa := rs.ans
  go_wp2_with (first
    | (with_reducible refine wpList_loadB xg (x := .tmp 2) ?_ ?_ ?_ ?_
       · with_reducible rfl
       · rfl
       · rfl)
    | (with_reducible refine wpList_storeA xa (x := .tmp 4) (y := .tmp 62) (p := p) (D := D) (E := E) (n := n) (c := c) (m := m) (d := d) ?_ ?_ ?_ ?_ ?_
       · with_reducible rfl
       · rfl
       · rfl
       · rfl))
  refine bodyPost_ret (v := gv p (.slice D n c) (.slice E m d)) (results_cell_row (P := Try.prog) Try.results29 _ _ (w.heap.size + 1) 35 _ (0, 0) _ rfl (xa.setRow p _ _) Try.underlying35 rfl box_size) rfl ?_
  exact ⟨rfl, below_setRow rs.below (Nat.le_succ _) _⟩

set_option maxHeartbeats 4000000 in
theorem ctl_10 (B : Nat) (p q : Nm) (g h : Nat) (L Bk L1 Bk1 : List (List C)) (w : World) (hs : OScr B w g h L Bk) (hq : On q)
    (hT : ∀ wx, Below w.heap.size w wx → Calls Try.prog 50 #[ov p g h L Bk] wx (LinePost B g wx q L1 Bk1)) :
    Calls Try.prog 28 #[ov p g h L Bk, .int .i32 10] w (InPost B g w (movedNm q q.x q.y) L1 Bk1) := by
  have HS := Lib.hid (MS.start w p (.slice (some ⟨g, 0, none⟩) L.length L.length) (.slice (some ⟨h, 0, none⟩) Bk.length Bk.length))
  have T : Hid (∀ wx, Below w.heap.size w wx → Calls Try.prog 50 #[gv p (.slice (some ⟨g, 0, none⟩) L.length L.length) (.slice (some ⟨h, 0, none⟩) Bk.length Bk.length)] wx (LinePost B g wx q L1 Bk1)) := hT
  have hgl := hs.rows.lt
  clear hT hs
  have HM := Lib.hid (fun D E n c m d w => moved_any q D E n c m d q.x q.y w hq.w0 hq.w1 hq.h0 hq.h1)
  clear hq
  
  unfold ov gv gcs
  go_enter Try.func28, Try.ntmps28
  go_upto_region 1 with fail
  refine wp_world (fun wq => MS w p (.slice (some ⟨g, 0, none⟩) L.length L.length) (.slice (some ⟨h, 0, none⟩) Bk.length Bk.length) wq) HS.out ?_
  clear HS
  intro w2 ms
  have xg := ms.box
  go_upto_region 10 with (first
    | (with_reducible refine wpList_loadB xg (x := .tmp 2) ?_ ?_ ?_ ?_
       · with_reducible rfl
       · rfl
       · rfl)
    | (go_at_call 50
       refine (T.out w2 ms.below).mono ?_
       clear T
       rintro e w3 ⟨g3, h3, rfl, s3, e3, b3⟩
       have x3 := ms.box.below b3 ms.box.lt)
    | (with_reducible refine wpList_storeA x3 (x := .tmp 2) (y := .tmp 31) (p := q) (D := some ⟨g3, 0, none⟩) (E := some ⟨h3, 0, none⟩) (n := L1.length) (c := L1.length) (m := Bk1.length) (d := Bk1.length) ?_ ?_ ?_ ?_ ?_
       · with_reducible rfl
       · rfl
       · rfl
       · rfl))
  have hz := ms.below.size
  refine wp_world (fun wq => Box wq w.heap.size q (.slice (some ⟨g3, 0, none⟩) L1.length L1.length) (.slice (some ⟨h3, 0, none⟩) Bk1.length Bk1.length) ∧ Box wq (w.heap.size + 1) zeroNm nilV nilV ∧ OScr B wq g3 h3 L1 Bk1 ∧ Below w.heap.size w wq)
    ⟨x3.setRow _ _ _, (setRow_other _ _ _ _ (by omega)).trans (ms.ans.below b3 ms.ans.lt), s3.bput x3 _, below_setRow (ms.below.trans (b3.mono ms.below.size)) (Nat.le_refl _) _⟩ ?_
  clear xg x3 ms s3 b3
  rintro w4 ⟨x4, a4, s4, b4⟩
  have u2 := x4.cells.c2
  have u3 := x4.cells.c3
  go_wp2_with (first
    | (with_reducible refine wpList_loadB x4 (x := .tmp 2) ?_ ?_ ?_ ?_
       · with_reducible rfl
       · rfl
       · rfl)
    | (go_at_call 54
       refine (HM.out _ _ _ _ _ _ w4).mono ?_
       clear HM
       rintro e w5 ⟨rfl, b5⟩
       have a5 := a4.below b5 a4.lt
       generalize hz : movedNm q q.x q.y = z at *)
    | (with_reducible refine wpList_storeA a5 (x := .tmp 4) (y := .tmp 37) (p := z) (D := some ⟨g3, 0, none⟩) (E := some ⟨h3, 0, none⟩) (n := L1.length) (c := L1.length) (m := Bk1.length) (d := Bk1.length) ?_ ?_ ?_ ?_ ?_
       · with_reducible rfl
       · rfl
       · rfl
       · rfl))
  refine bodyPost_ret (v := gv z (.slice (some ⟨g3, 0, none⟩) L1.length L1.length) (.slice (some ⟨h3, 0, none⟩) Bk1.length Bk1.length)) (results_cell_row (P := Try.prog) Try.results28 _ _ (w.heap.size + 1) 35 _ (0, 0) _ rfl (a5.setRow _ _ _) Try.underlying35 rfl box_size) rfl ?_
  exact ⟨g3, h3, rfl, (s4.below b5 (Nat.le_refl _)).bput a5 _, (Chg.of (below_setRow (b4.trans (b5.mono b4.size)) (Nat.le_succ _) _) hgl)⟩

set_option maxHeartbeats 4000000 in
theorem ctl_11 (B : Nat) (p q : Nm) (g h : Nat) (L Bk L1 Bk1 : List (List C)) (w : World) (hs : OScr B w g h L Bk) (hq : On q)
    (hT : ∀ wx, Below w.heap.size w wx → Calls Try.prog 50 #[ov p g h L Bk] wx (LinePost B g wx q L1 Bk1)) :
    Calls Try.prog 28 #[ov p g h L Bk, .int .i32 11] w (InPost B g w (movedNm q q.x q.y) L1 Bk1) := by
  have HS := Lib.hid (MS.start w p (.slice (some ⟨g, 0, none⟩) L.length L.length) (.slice (some ⟨h, 0, none⟩) Bk.length Bk.length))
  have T : Hid (∀ wx, Below w.heap.size w wx → Calls Try.prog 50 #[gv p (.slice (some ⟨g, 0, none⟩) L.length L.length) (.slice (some ⟨h, 0, none⟩) Bk.length Bk.length)] wx (LinePost B g wx q L1 Bk1)) := hT
  have hgl := hs.rows.lt
  clear hT hs
  have HM := Lib.hid (fun D E n c m d w => moved_any q D E n c m d q.x q.y w hq.w0 hq.w1 hq.h0 hq.h1)
  clear hq
  
  unfold ov gv gcs
  go_enter Try.func28, Try.ntmps28
  go_upto_region 1 with fail
  refine wp_world (fun wq => MS w p (.slice (some ⟨g, 0, none⟩) L.length L.length) (.slice (some ⟨h, 0, none⟩) Bk.length Bk.length) wq) HS.out ?_
  clear HS
  intro w2 ms
  have xg := ms.box
  go_upto_region 10 with (first
    | (with_reducible refine wpList_loadB xg (x := .tmp 2) ?_ ?_ ?_ ?_
       · with_reducible rfl
       · rfl
       · rfl)
    | (go_at_call 50
       refine (T.out w2 ms.below).mono ?_
       clear T
       rintro e w3 ⟨g3, h3, rfl, s3, e3, b3⟩
       have x3 := ms.box.below b3 ms.box.lt)
    | (with_reducible refine wpList_storeA x3 (x := .tmp 2) (y := .tmp 31) (p := q) (D := some ⟨g3, 0, none⟩) (E := some ⟨h3, 0, none⟩) (n := L1.length) (c := L1.length) (m := Bk1.length) (d := Bk1.length) ?_ ?_ ?_ ?_ ?_
       · with_reducible rfl
       · rfl
       · rfl
       · rfl))
  have hz := ms.below.size
  refine wp_world (fun wq => Box wq w.heap.size q (.slice (some ⟨g3, 0, none⟩) L1.length L1.length) (.slice (some ⟨h3, 0, none⟩) Bk1.length Bk1.length) ∧ Box wq (w.heap.size + 1) zeroNm nilV nilV ∧ OScr B wq g3 h3 L1 Bk1 ∧ Below w.heap.size w wq)
    ⟨x3.setRow _ _ _, (setRow_other _ _ _ _ (by omega)).trans (ms.ans.below b3 ms.ans.lt), s3.bput x3 _, below_setRow (ms.below.trans (b3.mono ms.below.size)) (Nat.le_refl _) _⟩ ?_
  clear xg x3 ms s3 b3
  rintro w4 ⟨x4, a4, s4, b4⟩
  have u2 := x4.cells.c2
  have u3 := x4.cells.c3
  go_wp2_with (first
    | (with_reducible refine wpList_loadB x4 (x := .tmp 2) ?_ ?_ ?_ ?_
       · with_reducible rfl
       · rfl
       · rfl)
    | (go_at_call 54
       refine (HM.out _ _ _ _ _ _ w4).mono ?_
       clear HM
       rintro e w5 ⟨rfl, b5⟩
       have a5 := a4.below b5 a4.lt
       generalize hz : movedNm q q.x q.y = z at *)
    | (with_reducible refine wpList_storeA a5 (x := .tmp 4) (y := .tmp 37) (p := z) (D := some ⟨g3, 0, none⟩) (E := some ⟨h3, 0, none⟩) (n := L1.length) (c := L1.length) (m := Bk1.length) (d := Bk1.length) ?_ ?_ ?_ ?_ ?_
       · with_reducible rfl
       · rfl
       · rfl
       · rfl))
  refine bodyPost_ret (v := gv z (.slice (some ⟨g3, 0, none⟩) L1.length L1.length) (.slice (some ⟨h3, 0, none⟩) Bk1.length Bk1.length)) (results_cell_row (P := Try.prog) Try.results28 _ _ (w.heap.size + 1) 35 _ (0, 0) _ rfl (a5.setRow _ _ _) Try.underlying35 rfl box_size) rfl ?_
  exact ⟨g3, h3, rfl, (s4.below b5 (Nat.le_refl _)).bput a5 _, (Chg.of (below_setRow (b4.trans (b5.mono b4.size)) (Nat.le_succ _) _) hgl)⟩

set_option maxHeartbeats 4000000 in
theorem ctl_12 (B : Nat) (p q : Nm) (g h : Nat) (L Bk L1 Bk1 : List (List C)) (w : World) (hs : OScr B w g h L Bk) (hq : On q)
    (hT : ∀ wx, Below w.heap.size w wx → Calls Try.prog 50 #[ov p g h L Bk] wx (LinePost B g wx q L1 Bk1)) :
    Calls Try.prog 28 #[ov p g h L Bk, .int .i32 12] w (InPost B g w (movedNm q q.x q.y) L1 Bk1) := by
  have HS := Lib.hid (MS.start w p (.slice (some ⟨g, 0, none⟩) L.length L.length) (.slice (some ⟨h, 0, none⟩) Bk.length Bk.length))
  have T : Hid (∀ wx, Below w.heap.size w wx → Calls Try.prog 50 #[gv p (.slice (some ⟨g, 0, none⟩) L.length L.length) (.slice (some ⟨h, 0, none⟩) Bk.length Bk.length)] wx (LinePost B g wx q L1 Bk1)) := hT
  have hgl := hs.rows.lt
  clear hT hs
  have HM := Lib.hid (fun D E n c m d w => moved_any q D E n c m d q.x q.y w hq.w0 hq.w1 hq.h0 hq.h1)
  clear hq
  
  unfold ov gv gcs
  go_enter Try.func28, Try.ntmps28
  go_upto_region 1 with fail
  refine wp_world (fun wq => MS w p (.slice (some ⟨g, 0, none⟩) L.length L.length) (.slice (some ⟨h, 0, none⟩) Bk.length Bk.length) wq) HS.out ?_
  clear HS
  intro w2 ms
  have xg := ms.box
  go_upto_region 10 with (first
    | (with_reducible refine wpList_loadB xg (x := .tmp 2) ?_ ?_ ?_ ?_
       · with_reducible rfl
       · rfl
       · rfl)
    | (go_at_call 50
       refine (T.out w2 ms.below).mono ?_
       clear T
       rintro e w3 ⟨g3, h3, rfl, s3, e3, b3⟩
       have x3 := ms.box.below b3 ms.box.lt)
    | (with_reducible refine wpList_storeA x3 (x := .tmp 2) (y := .tmp 31) (p := q) (D := some ⟨g3, 0, none⟩) (E := some ⟨h3, 0, none⟩) (n := L1.length) (c := L1.length) (m := Bk1.length) (d := Bk1.length) ?_ ?_ ?_ ?_ ?_
       · with_reducible rfl
       · rfl
       · rfl
       · rfl))
  have hz := ms.below.size
  refine wp_world (fun wq => Box wq w.heap.size q (.slice (some ⟨g3, 0, none⟩) L1.length L1.length) (.slice (some ⟨h3, 0, none⟩) Bk1.length Bk1.length) ∧ Box wq (w.heap.size + 1) zeroNm nilV nilV ∧ OScr B wq g3 h3 L1 Bk1 ∧ Below w.heap.size w wq)
    ⟨x3.setRow _ _ _, (setRow_other _ _ _ _ (by omega)).trans (ms.ans.below b3 ms.ans.lt), s3.bput x3 _, below_setRow (ms.below.trans (b3.mono ms.below.size)) (Nat.le_refl _) _⟩ ?_
  clear xg x3 ms s3 b3
  rintro w4 ⟨x4, a4, s4, b4⟩
  have u2 := x4.cells.c2
  have u3 := x4.cells.c3
  go_wp2_with (first
    | (with_reducible refine wpList_loadB x4 (x := .tmp 2) ?_ ?_ ?_ ?_
       · with_reducible rfl
       · rfl
       · rfl)
    | (go_at_call 54
       refine (HM.out _ _ _ _ _ _ w4).mono ?_
       clear HM
       rintro e w5 ⟨rfl, b5⟩
       have a5 := a4.below b5 a4.lt
       generalize hz : movedNm q q.x q.y = z at *)
    | (with_reducible refine wpList_storeA a5 (x := .tmp 4) (y := .tmp 37) (p := z) (D := some ⟨g3, 0, none⟩) (E := some ⟨h3, 0, none⟩) (n := L1.length) (c := L1.length) (m := Bk1.length) (d := Bk1.length) ?_ ?_ ?_ ?_ ?_
       · with_reducible rfl
       · rfl
       · rfl
       · rfl))
  refine bodyPost_ret (v := gv z (.slice (some ⟨g3, 0, none⟩) L1.length L1.length) (.slice (some ⟨h3, 0, none⟩) Bk1.length Bk1.length)) (results_cell_row (P := Try.prog) Try.results28 _ _ (w.heap.size + 1) 35 _ (0, 0) _ rfl (a5.setRow _ _ _) Try.underlying35 rfl box_size) rfl ?_
  exact ⟨g3, h3, rfl, (s4.below b5 (Nat.le_refl _)).bput a5 _, (Chg.of (below_setRow (b4.trans (b5.mono b4.size)) (Nat.le_succ _) _) hgl)⟩

set_option maxHeartbeats 4000000 in
theorem esc_E (B : Nat) (p q : Nm) (g h : Nat) (L Bk L1 Bk1 : List (List C)) (w : World) (hs : OScr B w g h L Bk) (hq : On q)
    (hT : ∀ wx, Below w.heap.size w wx → Calls Try.prog 50 #[ov p g h L Bk] wx (LinePost B g wx q L1 Bk1)) :
    Calls Try.prog 29 #[ov p g h L Bk, .int .i32 69] w (InPost B g w (movedNm q 0 q.y) L1 Bk1) := by
  have HS := Lib.hid (MS.start w p (.slice (some ⟨g, 0, none⟩) L.length L.length) (.slice (some ⟨h, 0, none⟩) Bk.length Bk.length))
  have T : Hid (∀ wx, Below w.heap.size w wx → Calls Try.prog 50 #[gv p (.slice (some ⟨g, 0, none⟩) L.length L.length) (.slice (some ⟨h, 0, none⟩) Bk.length Bk.length)] wx (LinePost B g wx q L1 Bk1)) := hT
  have hgl := hs.rows.lt
  clear hT hs
  have HM := Lib.hid (fun D E n c m d w => moved_any q D E n c m d 0 q.y w hq.w0 hq.w1 hq.h0 hq.h1)
  clear hq
  
  unfold ov gv gcs
  go_enter Try.func29, Try.ntmps29
  go_upto_region 1 with fail
  refine wp_world (fun wq => MS w p (.slice (some ⟨g, 0, none⟩) L.length L.length) (.slice (some ⟨h, 0, none⟩) Bk.length Bk.length) wq) HS.out ?_
  clear HS
  intro w2 ms
  have xg := ms.box
  go_upto_region 9 with (first
    | (with_reducible refine wpList_loadB xg (x := .tmp 2) ?_ ?_ ?_ ?_
       · with_reducible rfl
       · rfl
       · rfl)
    | (go_at_call 50
       refine (T.out w2 ms.below).mono ?_
       clear T
       rintro e w3 ⟨g3, h3, rfl, s3, e3, b3⟩
       have x3 := ms.box.below b3 ms.box.lt)
    | (with_reducible refine wpList_storeA x3 (x := .tmp 2) (y := .tmp 24) (p := q) (D := some ⟨g3, 0, none⟩) (E := some ⟨h3, 0, none⟩) (n := L1.length) (c := L1.length) (m := Bk1.length) (d := Bk1.length) ?_ ?_ ?_ ?_ ?_
       · with_reducible rfl
       · rfl
       · rfl
       · rfl))
  have hz := ms.below.size
  refine wp_world (fun wq => Box wq w.heap.size q (.slice (some ⟨g3, 0, none⟩) L1.length L1.length) (.slice (some ⟨h3, 0, none⟩) Bk1.length Bk1.length) ∧ Box wq (w.heap.size + 1) zeroNm nilV nilV ∧ OScr B wq g3 h3 L1 Bk1 ∧ Below w.heap.size w wq)
    ⟨x3.setRow _ _ _, (setRow_other _ _ _ _ (by omega)).trans (ms.ans.below b3 ms.ans.lt), s3.bput x3 _, below_setRow (ms.below.trans (b3.mono ms.below.size)) (Nat.le_refl _) _⟩ ?_
  clear xg x3 ms s3 b3
  rintro w4 ⟨x4, a4, s4, b4⟩
  have u2 := x4.cells.c2
  have u3 := x4.cells.c3
  go_wp2_with (first
    | (with_reducible refine wpList_loadB x4 (x := .tmp 2) ?_ ?_ ?_ ?_
       · with_reducible rfl
       · rfl
       · rfl)
    | (go_at_call 54
       refine (HM.out _ _ _ _ _ _ w4).mono ?_
       clear HM
       rintro e w5 ⟨rfl, b5⟩
       have a5 := a4.below b5 a4.lt
       generalize hz : movedNm q 0 q.y = z at *)
    | (with_reducible refine wpList_storeA a5 (x := .tmp 4) (y := .tmp 28) (p := z) (D := some ⟨g3, 0, none⟩) (E := some ⟨h3, 0, none⟩) (n := L1.length) (c := L1.length) (m := Bk1.length) (d := Bk1.length) ?_ ?_ ?_ ?_ ?_
       · with_reducible rfl
       · rfl
       · rfl
       · rfl))
  refine bodyPost_ret (v := gv z (.slice (some ⟨g3, 0, none⟩) L1.length L1.length) (.slice (some ⟨h3, 0, none⟩) Bk1.length Bk1.length)) (results_cell_row (P := Try.prog) Try.results29 _ _ (w.heap.size + 1) 35 _ (0, 0) _ rfl (a5.setRow _ _ _) Try.underlying35 rfl box_size) rfl ?_
  exact ⟨g3, h3, rfl, (s4.below b5 (Nat.le_refl _)).bput a5 _, (Chg.of (below_setRow (b4.trans (b5.mono b4.size)) (Nat.le_succ _) _) hgl)⟩

set_option maxHeartbeats 4000000 in
theorem esc_7 (p : Nm) (D E : Option Addr) (n c m d : Nat) (w : World) :
    Calls Try.prog 29 #[gv p (.slice D n c) (.slice E m d), .int .i32 55] w (ValPost (gv { p with sx := p.x, sy := p.y, sa := p.a } (.slice D n c) (.slice E m d)) w) := by
  have HS := Lib.hid (MS.start w p (.slice D n c) (.slice E m d))
  obtain ⟨q, hq0⟩ : ∃ q : Nm, { p with sx := p.x, sy := p.y, sa := p.a } = q := ⟨_, rfl⟩
  rw [hq0]
  have HQ0 := Lib.hid hq0
  clear hq0
  unfold gv gcs
  go_enter Try.func29, Try.ntmps29
  go_upto_region 1 with fail
  refine wp_world (fun wq => MS w p (.slice D n c) (.slice E m d) wq) HS.out ?_
  clear HS
  intro w2 ms
  have v2 := ms.box.cells.c2
  have v3 := ms.box.cells.c3
  have v5 := ms.box.cells.c5
  have v8 := ms.box.cells.c8
  have v9 := ms.box.cells.c9
  have v10 := ms.box.cells.c10
  have vf := ms.box.cells.free
  have hz1 := ms.box.lt
  go_upto_region 19 with fail
  have m1 := ms.far (ms.box.set_sx p.x)
  have m2 := m1.far (m1.box.set_sy p.y)
  have m3 : MS w q (.slice D n c) (.slice E m d) (((w2.setCell ⟨w.heap.size, 8, none⟩ (.int .i64 p.x)).setCell ⟨w.heap.size, 9, none⟩ (.int .i64 p.y)).setCell ⟨w.heap.size, 10, none⟩ (.int .i64 p.a)) := by rw [← HQ0.out]; exact m2.far (m2.box.set_sa p.a)
  clear v2 v3 v5 v8 v9 v10 vf hz1 m1 m2 ms
  generalize (((w2.setCell ⟨w.heap.size, 8, none⟩ (.int .i64 p.x)).setCell ⟨w.heap.size, 9, none⟩ (.int .i64 p.y)).setCell ⟨w.heap.size, 10, none⟩ (.int .i64 p.a)) = w3 at *
  have xg := m3.box
  have xa := m3.ans
  go_wp2_with (first
    | (with_reducible refine wpList_loadB xg (x := .tmp 2) ?_ ?_ ?_ ?_
       · with_reducible rfl
       · rfl
       · rfl)
    | (with_reducible refine wpList_storeA xa (x := .tmp 4) (y := .tmp 62) (p := q) (D := D) (E := E) (n := n) (c := c) (m := m) (d := d) ?_ ?_ ?_ ?_ ?_
       · with_reducible rfl
       · rfl
       · rfl
       · rfl))
  refine bodyPost_ret (v := gv q (.slice D n c) (.slice E m d)) (results_cell_row (P := Try.prog) Try.results29 _ _ (w.heap.size + 1) 35 _ (0, 0) _ rfl (xa.setRow q _ _) Try.underlying35 rfl box_size) rfl ?_
  exact ⟨rfl, below_setRow m3.below (Nat.le_succ _) _⟩

set_option maxHeartbeats 4000000 in
theorem esc_8 (p : Nm) (D E : Option Addr) (n c m d : Nat) (w : World) (hp : On p) :
    Calls Try.prog 29 #[gv p (.slice D n c) (.slice E m d), .int .i32 56] w (ValPost (gv (movedNm { p with a := p.sa } p.sx p.sy) (.slice D n c) (.slice E m d)) w) := by
  have HS := Lib.hid (MS.start w p (.slice D n c) (.slice E m d))
  obtain ⟨q, hq0⟩ : ∃ q : Nm, { p with a := p.sa } = q := ⟨_, rfl⟩
  have HM : Hid (∀ w, Calls Try.prog 54 #[gv q (.slice D n c) (.slice E m d), .int .i64 q.sx, .int .i64 q.sy] w (ValPost (gv (movedNm q q.sx q.sy) (.slice D n c) (.slice E m d)) w)) := fun w => by
    rw [← hq0]
    exact moved_any _ D E n c m d _ _ w hp.w0 hp.w1 hp.h0 hp.h1
  have esx : p.sx = q.sx := by rw [← hq0]
  have esy : p.sy = q.sy := by rw [← hq0]
  rw [hq0, esx, esy]
  have HQ0 := Lib.hid hq0
  clear hq0 hp esx esy
  unfold gv gcs
  go_enter Try.func29, Try.ntmps29
  go_upto_region 1 with fail
  refine wp_world (fun wq => MS w p (.slice D n c) (.slice E m d) wq) HS.out ?_
  clear HS
  intro w2 ms
  have v5 := ms.box.cells.c5
  have v10 := ms.box.cells.c10
  have vf := ms.box.cells.free
  have hz1 := ms.box.lt
  go_upto_region 14 with fail
  have m3 : MS w q (.slice D n c) (.slice E m d) (w2.setCell ⟨w.heap.size, 5, none⟩ (.int .i64 p.sa)) := by rw [← HQ0.out]; exact ms.far (ms.box.set_a p.sa)
  clear v5 v10 vf hz1 ms
  generalize (w2.setCell ⟨w.heap.size, 5, none⟩ (.int .i64 p.sa)) = w3 at *
  have xg := m3.box
  have u8 := xg.cells.c8
  have u9 := xg.cells.c9
  go_wp2_with (first
    | (with_reducible refine wpList_loadB xg (x := .tmp 2) ?_ ?_ ?_ ?_
       · with_reducible rfl
       · rfl
       · rfl)
    | (go_at_call 54
       refine (HM.out w3).mono ?_
       clear HM
       rintro e w5 ⟨rfl, b5⟩
       have a5 := m3.ans.below b5 m3.ans.lt
       generalize hz : movedNm q q.sx q.sy = z at *)
    | (with_reducible refine wpList_storeA a5 (x := .tmp 4) (y := .tmp 50) (p := z) (D := D) (E := E) (n := n) (c := c) (m := m) (d := d) ?_ ?_ ?_ ?_ ?_
       · with_reducible rfl
       · rfl
       · rfl
       · rfl))
  refine bodyPost_ret (v := gv z (.slice D n c) (.slice E m d)) (results_cell_row (P := Try.prog) Try.results29 _ _ (w.heap.size + 1) 35 _ (0, 0) _ rfl (a5.setRow z _ _) Try.underlying35 rfl box_size) rfl ?_
  exact ⟨rfl, below_setRow (m3.below.trans (b5.mono m3.below.size)) (Nat.le_succ _) _⟩
end Go.Proofs.Ytpcpmeihebgncaa

/-
  What rewritten of package acts answers for @, P, X, S and T. Conditions: the rows have at most a thousand cells, there are at most a thousand of them, at most fifty lines that went; the cursor is on the screen.
-/
namespace Go.Proofs.Ytpcpmeihebgncaa
open Go.RowKit
set_option maxRecDepth 100000

theorem changedP_any (F : Nat) (c1 c2 : Value) (p : Nm) (g h : Nat) (L Bk : List (List C)) (y : Nat) (l : List C) (B : Nat) (w : World) (hs : OScr B w g h L Bk) (hp : p.y = y) (hy : y < L.length)
    (hE : ∀ args w, (callFunc F args).run Try.prog w = .ok (.enter F args) w)
    (hF : ∀ wx D c, Below w.heap.size w wx → L[y].length ≤ c → RowAt 0 wx D L[y] → Calls Try.prog F #[.slice D L[y].length c, c1, c2] wx (VPost wx l)) :
    Calls Try.prog 51 #[ov p g h L Bk, .func (.func F) #[] #[c1, c2]] w (TurnPost B g h w p (L.set y l) Bk) := by
  obtain ⟨vs, hv, hg, hr⟩ := hs.rows
  have hvy : y < vs.length := by rw [hr.1]; exact hy
  obtain ⟨D, c, e, hc, hrow⟩ := hr.2 y hvy hy
  have := changed_any F c1 c2 p g (some ⟨h, 0, none⟩) Bk.length Bk.length vs y D L[y].length c l w hv hp hvy (by rw [List.getElem?_eq_getElem hvy, e]) hE (fun wx hb => hF wx D c hb hc ((hrow.weak (Nat.zero_le _)).below hb (Nat.le_refl _)))
  rw [hr.1] at this
  refine this.mono ?_
  rintro e w' ⟨rfl, D1, c1, h1, h2, h3, h4⟩
  refine ⟨?_, hs.turn hv hr h4 h2 h1 h3, h4⟩
  unfold ov
  rw [List.length_set]

set_option maxHeartbeats 1000000 in
theorem insFn_any (D : Option Addr) (c : Nat) (l : List C) (k kp : Nat) (p : Nm) (rr bb : Value) (n : Int) (w : World) (hb : Box w k p rr bb) (hr : w.cell? ⟨kp, 0, none⟩ = some (.int .i64 n)) (hrow : RowAt 0 w D l) (hc : l.length ≤ c) (hn : l.length ≤ 1000) (x0 : 0 ≤ p.x) (x1 : p.x ≤ 1000) (n0 : 0 ≤ n) (n1 : n ≤ 1048576) :
    Calls Try.prog 107 #[.slice D l.length c, .pointer (some ⟨k, 0, none⟩), .pointer (some ⟨kp, 0, none⟩)] w (VPost w (insertF l p.x n)) := by
  have HP := Lib.hid (insert_any D c l p.x n w hrow.read hc hn)
  have u2 := hb.cells.c2
  have s1 : IntKind.i64.wrap (p.x + n) = p.x + n := IntWalk.i64_in _ (by omega)
  clear hrow hb
  go_enter Try.func107, Try.ntmps107
  go_wp2_with (
    go_at_call 108
    refine HP.out.mono ?_
    rintro e w1 hp
    obtain ⟨D1, c1, rfl, hc1, hr1, hb1⟩ := hp.v)
  go_ret
  exact ⟨D1, c1, rfl, hc1, hr1, hb1⟩
theorem enter85 : ∀ args w, (callFunc 107 args).run Try.prog w = .ok (.enter 107 args) w := enters Try.func107 (by kernel_rfl) rfl

set_option maxHeartbeats 1000000 in
theorem delFn_any (D : Option Addr) (c : Nat) (l : List C) (k kp : Nat) (p : Nm) (rr bb : Value) (n : Int) (w : World) (hb : Box w k p rr bb) (hr : w.cell? ⟨kp, 0, none⟩ = some (.int .i64 n)) (hrow : RowAt 0 w D l) (hc : l.length ≤ c) (hn : l.length ≤ 1000) (x0 : 0 ≤ p.x) (x1 : p.x ≤ 1000) (n0 : 0 ≤ n) (n1 : n ≤ 1048576) :
    Calls Try.prog 109 #[.slice D l.length c, .pointer (some ⟨k, 0, none⟩), .pointer (some ⟨kp, 0, none⟩)] w (VPost w (deleteF l p.x n)) := by
  have HP := Lib.hid (delete_any D c l p.x n w hrow.read hc hn)
  have u2 := hb.cells.c2
  have s1 : IntKind.i64.wrap (p.x + n) = p.x + n := IntWalk.i64_in _ (by omega)
  clear hrow hb
  go_enter Try.func109, Try.ntmps109
  go_wp2_with (
    go_at_call 110
    refine HP.out.mono ?_
    rintro e w1 hp
    obtain ⟨D1, c1, rfl, hc1, hr1, hb1⟩ := hp.v)
  go_ret
  exact ⟨D1, c1, rfl, hc1, hr1, hb1⟩
theorem enter87 : ∀ args w, (callFunc 109 args).run Try.prog w = .ok (.enter 109 args) w := enters Try.func109 (by kernel_rfl) rfl

set_option maxHeartbeats 1000000 in
theorem clrFn_any (D : Option Addr) (c : Nat) (l : List C) (k kp : Nat) (p : Nm) (rr bb : Value) (n : Int) (w : World) (hb : Box w k p rr bb) (hr : w.cell? ⟨kp, 0, none⟩ = some (.int .i64 n)) (hrow : RowAt 0 w D l) (_ : l.length ≤ c) (hn : l.length ≤ 1000) (x0 : 0 ≤ p.x) (x1 : p.x ≤ 1000) (n0 : 0 ≤ n) (n1 : n ≤ 1048576) :
    Calls Try.prog 111 #[.slice D l.length c, .pointer (some ⟨k, 0, none⟩), .pointer (some ⟨kp, 0, none⟩)] w (VPost w (clearF l p.x (p.x + n))) := by
  have HP := Lib.hid (clear_any D c l p.x (p.x + n) w hrow.read hn)
  have u2 := hb.cells.c2
  have s1 : IntKind.i64.wrap (p.x + n) = p.x + n := IntWalk.i64_in _ (by omega)
  clear hrow hb
  go_enter Try.func111, Try.ntmps111
  go_wp2_with (
    go_at_call 112
    refine HP.out.mono ?_
    rintro e w1 hp
    obtain ⟨D1, c1, rfl, hc1, hr1, hb1⟩ := hp.v)
  go_ret
  exact ⟨D1, c1, rfl, hc1, hr1, hb1⟩
theorem enter89 : ∀ args w, (callFunc 111 args).run Try.prog w = .ok (.enter 111 args) w := enters Try.func111 (by kernel_rfl) rfl

set_option maxHeartbeats 4000000 in
theorem rew_at (B : Nat) (p : Nm) (g h : Nat) (L Bk : List (List C)) (n part : Int) (y : Nat) (w : World) (hs : OScr B w g h L Bk) (x0 : 0 ≤ p.x) (x1 : p.x ≤ 1000) (hy : p.y = y) (hyl : y < L.length) (hn : L[y].length ≤ 1000) (n0 : 0 ≤ n) (n1 : n ≤ 1048576) :
    Calls Try.prog 59 #[ov p g h L Bk, .int .i32 64, .int .i64 n, .int .i64 part] w (InPost B g w p (L.set y (insertF L[y] p.x n)) Bk) := by
  have HS := Lib.hid (PS.start w 3 (.int .i64 n) p (.slice (some ⟨g, 0, none⟩) L.length L.length) (.slice (some ⟨h, 0, none⟩) Bk.length Bk.length))
  have HB := Lib.hid (start_below w (.cells (gcs p (.slice (some ⟨g, 0, none⟩) L.length L.length) (.slice (some ⟨h, 0, none⟩) Bk.length Bk.length)) 35) (.cells #[.int .i64 n] 3) (.cells (gcs zeroNm nilV nilV) 35))
  have hgl := hs.rows.lt
  obtain ⟨L2, hL2⟩ : ∃ L2, L2 = L.set y (insertF L[y] p.x n) := ⟨_, rfl⟩
  have T : Hid (∀ (wx : World), PS w 3 (.int .i64 n) p (.slice (some ⟨g, 0, none⟩) L.length L.length) (.slice (some ⟨h, 0, none⟩) Bk.length Bk.length) wx → OScr B wx g h L Bk → Calls Try.prog 51 #[gv p (.slice (some ⟨g, 0, none⟩) L.length L.length) (.slice (some ⟨h, 0, none⟩) Bk.length Bk.length), .func (.func 107) #[] #[.pointer (some ⟨w.heap.size, 0, none⟩), .pointer (some ⟨w.heap.size + 1, 0, none⟩)]] wx (TurnPost B g h wx p L2 Bk)) := fun wx ps hs => by
    rw [hL2]
    exact changedP_any 107 _ _ p g h L Bk y _ B wx hs hy hyl enter85 fun wy D c hb hc hrow => insFn_any D c L[y] _ _ p _ _ n wy (ps.box.below hb ps.box.lt) ((ps.cell.below hb ps.cell.lt).cell 0) hrow hc hn x0 x1 n0 n1
  have HH := Lib.hid hs
  rw [← hL2]
  clear hs hy hn hL2 x0 x1 hyl n0 n1
  unfold ov gv gcs
  go_enter Try.func59, Try.ntmps59
  go_upto_region 1 with fail
  refine wp_world (fun wq => PS w 3 (.int .i64 n) p (.slice (some ⟨g, 0, none⟩) L.length L.length) (.slice (some ⟨h, 0, none⟩) Bk.length Bk.length) wq ∧ Below w.heap.size w wq) ⟨HS.out, HB.out⟩ ?_
  clear HS HB
  rintro w2 ⟨ps, b2⟩
  have xg := ps.box
  go_wp2_with (first
    | (with_reducible refine wpList_loadB xg (x := .tmp 4) ?_ ?_ ?_ ?_
       · with_reducible rfl
       · rfl
       · rfl)
    | (go_at_call 51
       refine (T.out w2 ps (HH.out.below b2 (Nat.le_refl _))).mono ?_
       rintro e w3 ⟨rfl, s3, c3⟩
       have a3 := (ps.chg c3 (.inl hgl)).ans)
    | (with_reducible refine wpList_storeA a3 (x := .tmp 8) (y := .tmp 34) (p := p) (D := some ⟨g, 0, none⟩) (E := some ⟨h, 0, none⟩) (n := L2.length) (c := L2.length) (m := Bk.length) (d := Bk.length) ?_ ?_ ?_ ?_ ?_
       · with_reducible rfl
       · rfl
       · rfl
       · rfl))
  refine bodyPost_ret (v := gv p (.slice (some ⟨g, 0, none⟩) L2.length L2.length) (.slice (some ⟨h, 0, none⟩) Bk.length Bk.length)) (results_cell_row (P := Try.prog) Try.results59 _ _ (w.heap.size + 2) 35 _ (0, 0) _ rfl (a3.setRow _ _ _) Try.underlying35 rfl box_size) rfl ?_
  exact ⟨g, h, rfl, s3.bput a3 _, (Chg.comp b2 (.inl rfl) hgl c3).setRow hgl (by omega) _⟩

set_option maxHeartbeats 4000000 in
theorem rew_P (B : Nat) (p : Nm) (g h : Nat) (L Bk : List (List C)) (n part : Int) (y : Nat) (w : World) (hs : OScr B w g h L Bk) (x0 : 0 ≤ p.x) (x1 : p.x ≤ 1000) (hy : p.y = y) (hyl : y < L.length) (hn : L[y].length ≤ 1000) (n0 : 0 ≤ n) (n1 : n ≤ 1048576) :
    Calls Try.prog 59 #[ov p g h L Bk, .int .i32 80, .int .i64 n, .int .i64 part] w (InPost B g w p (L.set y (deleteF L[y] p.x n)) Bk) := by
  have HS := Lib.hid (PS.start w 3 (.int .i64 n) p (.slice (some ⟨g, 0, none⟩) L.length L.length) (.slice (some ⟨h, 0, none⟩) Bk.length Bk.length))
  have HB := Lib.hid (start_below w (.cells (gcs p (.slice (some ⟨g, 0, none⟩) L.length L.length) (.slice (some ⟨h, 0, none⟩) Bk.length Bk.length)) 35) (.cells #[.int .i64 n] 3) (.cells (gcs zeroNm nilV nilV) 35))
  have hgl := hs.rows.lt
  obtain ⟨L2, hL2⟩ : ∃ L2, L2 = L.set y (deleteF L[y] p.x n) := ⟨_, rfl⟩
  have T : Hid (∀ (wx : World), PS w 3 (.int .i64 n) p (.slice (some ⟨g, 0, none⟩) L.length L.length) (.slice (some ⟨h, 0, none⟩) Bk.length Bk.length) wx → OScr B wx g h L Bk → Calls Try.prog 51 #[gv p (.slice (some ⟨g, 0, none⟩) L.length L.length) (.slice (some ⟨h, 0, none⟩) Bk.length Bk.length), .func (.func 109) #[] #[.pointer (some ⟨w.heap.size, 0, none⟩), .pointer (some ⟨w.heap.size + 1, 0, none⟩)]] wx (TurnPost B g h wx p L2 Bk)) := fun wx ps hs => by
    rw [hL2]
    exact changedP_any 109 _ _ p g h L Bk y _ B wx hs hy hyl enter87 fun wy D c hb hc hrow => delFn_any D c L[y] _ _ p _ _ n wy (ps.box.below hb ps.box.lt) ((ps.cell.below hb ps.cell.lt).cell 0) hrow hc hn x0 x1 n0 n1
  have HH := Lib.hid hs
  rw [← hL2]
  clear hs hy hn hL2 x0 x1 hyl n0 n1
  unfold ov gv gcs
  go_enter Try.func59, Try.ntmps59
  go_upto_region 1 with fail
  refine wp_world (fun wq => PS w 3 (.int .i64 n) p (.slice (some ⟨g, 0, none⟩) L.length L.length) (.slice (some ⟨h, 0, none⟩) Bk.length Bk.length) wq ∧ Below w.heap.size w wq) ⟨HS.out, HB.out⟩ ?_
  clear HS HB
  rintro w2 ⟨ps, b2⟩
  have xg := ps.box
  go_wp2_with (first
    | (with_reducible refine wpList_loadB xg (x := .tmp 4) ?_ ?_ ?_ ?_
       · with_reducible rfl
       · rfl
       · rfl)
    | (go_at_call 51
       refine (T.out w2 ps (HH.out.below b2 (Nat.le_refl _))).mono ?_
       rintro e w3 ⟨rfl, s3, c3⟩
       have a3 := (ps.chg c3 (.inl hgl)).ans)
    | (with_reducible refine wpList_storeA a3 (x := .tmp 8) (y := .tmp 39) (p := p) (D := some ⟨g, 0, none⟩) (E := some ⟨h, 0, none⟩) (n := L2.length) (c := L2.length) (m := Bk.length) (d := Bk.length) ?_ ?_ ?_ ?_ ?_
       · with_reducible rfl
       · rfl
       · rfl
       · rfl))
  refine bodyPost_ret (v := gv p (.slice (some ⟨g, 0, none⟩) L2.length L2.length) (.slice (some ⟨h, 0, none⟩) Bk.length Bk.length)) (results_cell_row (P := Try.prog) Try.results59 _ _ (w.heap.size + 2) 35 _ (0, 0) _ rfl (a3.setRow _ _ _) Try.underlying35 rfl box_size) rfl ?_
  exact ⟨g, h, rfl, s3.bput a3 _, (Chg.comp b2 (.inl rfl) hgl c3).setRow hgl (by omega) _⟩

set_option maxHeartbeats 4000000 in
theorem rew_X (B : Nat) (p : Nm) (g h : Nat) (L Bk : List (List C)) (n part : Int) (y : Nat) (w : World) (hs : OScr B w g h L Bk) (x0 : 0 ≤ p.x) (x1 : p.x ≤ 1000) (hy : p.y = y) (hyl : y < L.length) (hn : L[y].length ≤ 1000) (n0 : 0 ≤ n) (n1 : n ≤ 1048576) :
    Calls Try.prog 59 #[ov p g h L Bk, .int .i32 88, .int .i64 n, .int .i64 part] w (InPost B g w p (L.set y (clearF L[y] p.x (p.x + n))) Bk) := by
  have HS := Lib.hid (PS.start w 3 (.int .i64 n) p (.slice (some ⟨g, 0, none⟩) L.length L.length) (.slice (some ⟨h, 0, none⟩) Bk.length Bk.length))
  have HB := Lib.hid (start_below w (.cells (gcs p (.slice (some ⟨g, 0, none⟩) L.length L.length) (.slice (some ⟨h, 0, none⟩) Bk.length Bk.length)) 35) (.cells #[.int .i64 n] 3) (.cells (gcs zeroNm nilV nilV) 35))
  have hgl := hs.rows.lt
  obtain ⟨L2, hL2⟩ : ∃ L2, L2 = L.set y (clearF L[y] p.x (p.x + n)) := ⟨_, rfl⟩
  have T : Hid (∀ (wx : World), PS w 3 (.int .i64 n) p (.slice (some ⟨g, 0, none⟩) L.length L.length) (.slice (some ⟨h, 0, none⟩) Bk.length Bk.length) wx → OScr B wx g h L Bk → Calls Try.prog 51 #[gv p (.slice (some ⟨g, 0, none⟩) L.length L.length) (.slice (some ⟨h, 0, none⟩) Bk.length Bk.length), .func (.func 111) #[] #[.pointer (some ⟨w.heap.size, 0, none⟩), .pointer (some ⟨w.heap.size + 1, 0, none⟩)]] wx (TurnPost B g h wx p L2 Bk)) := fun wx ps hs => by
    rw [hL2]
    exact changedP_any 111 _ _ p g h L Bk y _ B wx hs hy hyl enter89 fun wy D c hb hc hrow => clrFn_any D c L[y] _ _ p _ _ n wy (ps.box.below hb ps.box.lt) ((ps.cell.below hb ps.cell.lt).cell 0) hrow hc hn x0 x1 n0 n1
  have HH := Lib.hid hs
  rw [← hL2]
  clear hs hy hn hL2 x0 x1 hyl n0 n1
  unfold ov gv gcs
  go_enter Try.func59, Try.ntmps59
  go_upto_region 1 with fail
  refine wp_world (fun wq => PS w 3 (.int .i64 n) p (.slice (some ⟨g, 0, none⟩) L.length L.length) (.slice (some ⟨h, 0, none⟩) Bk.length Bk.length) wq ∧ Below w.heap.size w wq) ⟨HS.out, HB.out⟩ ?_
  clear HS HB
  rintro w2 ⟨ps, b2⟩
  have xg := ps.box
  go_wp2_with (first
    | (with_reducible refine wpList_loadB xg (x := .tmp 4) ?_ ?_ ?_ ?_
       · with_reducible rfl
       · rfl
       · rfl)
    | (go_at_call 51
       refine (T.out w2 ps (HH.out.below b2 (Nat.le_refl _))).mono ?_
       rintro e w3 ⟨rfl, s3, c3⟩
       have a3 := (ps.chg c3 (.inl hgl)).ans)
    | (with_reducible refine wpList_storeA a3 (x := .tmp 8) (y := .tmp 44) (p := p) (D := some ⟨g, 0, none⟩) (E := some ⟨h, 0, none⟩) (n := L2.length) (c := L2.length) (m := Bk.length) (d := Bk.length) ?_ ?_ ?_ ?_ ?_
       · with_reducible rfl
       · rfl
       · rfl
       · rfl))
  refine bodyPost_ret (v := gv p (.slice (some ⟨g, 0, none⟩) L2.length L2.length) (.slice (some ⟨h, 0, none⟩) Bk.length Bk.length)) (results_cell_row (P := Try.prog) Try.results59 _ _ (w.heap.size + 2) 35 _ (0, 0) _ rfl (a3.setRow _ _ _) Try.underlying35 rfl box_size) rfl ?_
  exact ⟨g, h, rfl, s3.bput a3 _, (Chg.comp b2 (.inl rfl) hgl c3).setRow hgl (by omega) _⟩

/-- The rows behind n lines up, from top to bottom, and the lines that went; behind n lines down. -/
def upT (L : List (List C)) (w top bottom n : Int) : List (List C) := upL L (fromF L.length top) (toF L.length top bottom) (withinF n (toF L.length top bottom - fromF L.length top)).toNat w
def upTB (L Bk : List (List C)) (top bottom n : Int) : List (List C) := upBack L Bk (fromF L.length top) (withinF n (toF L.length top bottom - fromF L.length top)).toNat
def downT (L : List (List C)) (w top bottom n : Int) : List (List C) := downL L (fromF L.length top) (toF L.length top bottom) (withinF n (toF L.length top bottom - fromF L.length top)).toNat w

set_option maxHeartbeats 4000000 in
theorem rew_S (B : Nat) (p : Nm) (g h : Nat) (L Bk : List (List C)) (n part : Int) (w : World) (hs : OScr B w g h L Bk) (h0 : 1 ≤ L.length) (hn : L.length ≤ 1000) (hm : Bk.length ≤ 50) (hl : ∀ r ∈ L, r.length ≤ 1000) (hlb : ∀ r ∈ Bk, r.length ≤ 1000) :
    Calls Try.prog 59 #[ov p g h L Bk, .int .i32 83, .int .i64 n, .int .i64 part] w (InPost B g w p (upT L p.w p.top p.bottom n) (upTB L Bk p.top p.bottom n)) := by
  have HS := Lib.hid (PS.start w 3 (.int .i64 n) p (.slice (some ⟨g, 0, none⟩) L.length L.length) (.slice (some ⟨h, 0, none⟩) Bk.length Bk.length))
  have HB := Lib.hid (start_below w (.cells (gcs p (.slice (some ⟨g, 0, none⟩) L.length L.length) (.slice (some ⟨h, 0, none⟩) Bk.length Bk.length)) 35) (.cells #[.int .i64 n] 3) (.cells (gcs zeroNm nilV nilV) 35))
  have hgl := hs.rows.lt
  have hB : B ≤ w.heap.size := by have := hs.rows.low; omega
  have HU : Hid (∀ wx, Below w.heap.size w wx → Calls Try.prog 96 #[gv p (.slice (some ⟨g, 0, none⟩) L.length L.length) (.slice (some ⟨h, 0, none⟩) Bk.length Bk.length), .int .i64 p.top, .int .i64 p.bottom, .int .i64 n] wx (OwnPost wx p (upT L p.w p.top p.bottom n) (upTB L Bk p.top p.bottom n))) := fun wx hb => upO_any p _ _ L.length L.length Bk.length Bk.length L Bk p.top p.bottom n wx ((hs.below hb (Nat.le_refl _)).weak (Nat.zero_le _)).scr h0 hn hm hl hlb
  clear hs hl hlb hn hm h0
  obtain ⟨L2, hL2⟩ : ∃ L2, L2 = upT L p.w p.top p.bottom n := ⟨_, rfl⟩
  obtain ⟨B2, hB2⟩ : ∃ B2, B2 = upTB L Bk p.top p.bottom n := ⟨_, rfl⟩
  rw [← hL2] at HU ⊢
  rw [← hB2] at HU ⊢
  clear hL2
  clear hB2
  unfold ov gv gcs
  go_enter Try.func59, Try.ntmps59
  go_upto_region 1 with fail
  refine wp_world (fun wq => PS w 3 (.int .i64 n) p (.slice (some ⟨g, 0, none⟩) L.length L.length) (.slice (some ⟨h, 0, none⟩) Bk.length Bk.length) wq ∧ Below w.heap.size w wq) ⟨HS.out, HB.out⟩ ?_
  clear HS HB
  rintro w2 ⟨ps, b2⟩
  have xg := ps.box
  have u6 := xg.cells.c6
  have u7 := xg.cells.c7
  have un := ps.cell.cell 0
  simp only [List.getElem?_toArray, List.getElem?_cons_zero] at un
  go_wp2_with (first
    | (with_reducible refine wpList_loadB xg (x := .tmp 4) ?_ ?_ ?_ ?_
       · with_reducible rfl
       · rfl
       · rfl)
    | (go_at_call 96
       refine (HU.out w2 b2).mono ?_
       rintro e w3 ⟨g3, h3, rfl, s3, b3⟩
       have a3 := ps.ans.below b3 ps.ans.lt)
    | (with_reducible refine wpList_storeA a3 (x := .tmp 8) (y := .tmp 53) (p := p) (D := some ⟨g3, 0, none⟩) (E := some ⟨h3, 0, none⟩) (n := L2.length) (c := L2.length) (m := B2.length) (d := B2.length) ?_ ?_ ?_ ?_ ?_
       · with_reducible rfl
       · rfl
       · rfl
       · rfl))
  have hz := b2.size
  refine bodyPost_ret (v := gv p (.slice (some ⟨g3, 0, none⟩) L2.length L2.length) (.slice (some ⟨h3, 0, none⟩) B2.length B2.length)) (results_cell_row (P := Try.prog) Try.results59 _ _ (w.heap.size + 2) 35 _ (0, 0) _ rfl (a3.setRow _ _ _) Try.underlying35 rfl box_size) rfl ?_
  exact ⟨g3, h3, rfl, (s3.bput a3 _).weak (by omega), Chg.of (below_setRow (b2.trans (b3.mono b2.size)) (by omega) _) hgl⟩

set_option maxHeartbeats 4000000 in
theorem rew_T (B : Nat) (p : Nm) (g h : Nat) (L Bk : List (List C)) (n part : Int) (w : World) (hs : OScr B w g h L Bk) (h0 : 1 ≤ L.length) (hn : L.length ≤ 1000) (hm : Bk.length ≤ 50) (hl : ∀ r ∈ L, r.length ≤ 1000) (hlb : ∀ r ∈ Bk, r.length ≤ 1000) :
    Calls Try.prog 59 #[ov p g h L Bk, .int .i32 84, .int .i64 n, .int .i64 part] w (InPost B g w p (downT L p.w p.top p.bottom n) (Bk)) := by
  have HS := Lib.hid (PS.start w 3 (.int .i64 n) p (.slice (some ⟨g, 0, none⟩) L.length L.length) (.slice (some ⟨h, 0, none⟩) Bk.length Bk.length))
  have HB := Lib.hid (start_below w (.cells (gcs p (.slice (some ⟨g, 0, none⟩) L.length L.length) (.slice (some ⟨h, 0, none⟩) Bk.length Bk.length)) 35) (.cells #[.int .i64 n] 3) (.cells (gcs zeroNm nilV nilV) 35))
  have hgl := hs.rows.lt
  have hB : B ≤ w.heap.size := by have := hs.rows.low; omega
  have HU : Hid (∀ wx, Below w.heap.size w wx → Calls Try.prog 100 #[gv p (.slice (some ⟨g, 0, none⟩) L.length L.length) (.slice (some ⟨h, 0, none⟩) Bk.length Bk.length), .int .i64 p.top, .int .i64 p.bottom, .int .i64 n] wx (OwnPost wx p (downT L p.w p.top p.bottom n) (Bk))) := fun wx hb => downO_any p _ _ L.length L.length Bk.length Bk.length L Bk p.top p.bottom n wx ((hs.below hb (Nat.le_refl _)).weak (Nat.zero_le _)).scr h0 hn hm hl hlb
  clear hs hl hlb hn hm h0
  obtain ⟨L2, hL2⟩ : ∃ L2, L2 = downT L p.w p.top p.bottom n := ⟨_, rfl⟩
  rw [← hL2] at HU ⊢
  clear hL2
  unfold ov gv gcs
  go_enter Try.func59, Try.ntmps59
  go_upto_region 1 with fail
  refine wp_world (fun wq => PS w 3 (.int .i64 n) p (.slice (some ⟨g, 0, none⟩) L.length L.length) (.slice (some ⟨h, 0, none⟩) Bk.length Bk.length) wq ∧ Below w.heap.size w wq) ⟨HS.out, HB.out⟩ ?_
  clear HS HB
  rintro w2 ⟨ps, b2⟩
  have xg := ps.box
  have u6 := xg.cells.c6
  have u7 := xg.cells.c7
  have un := ps.cell.cell 0
  simp only [List.getElem?_toArray, List.getElem?_cons_zero] at un
  go_wp2_with (first
    | (with_reducible refine wpList_loadB xg (x := .tmp 4) ?_ ?_ ?_ ?_
       · with_reducible rfl
       · rfl
       · rfl)
    | (go_at_call 100
       refine (HU.out w2 b2).mono ?_
       rintro e w3 ⟨g3, h3, rfl, s3, b3⟩
       have a3 := ps.ans.below b3 ps.ans.lt)
    | (with_reducible refine wpList_storeA a3 (x := .tmp 8) (y := .tmp 62) (p := p) (D := some ⟨g3, 0, none⟩) (E := some ⟨h3, 0, none⟩) (n := L2.length) (c := L2.length) (m := Bk.length) (d := Bk.length) ?_ ?_ ?_ ?_ ?_
       · with_reducible rfl
       · rfl
       · rfl
       · rfl))
  have hz := b2.size
  refine bodyPost_ret (v := gv p (.slice (some ⟨g3, 0, none⟩) L2.length L2.length) (.slice (some ⟨h3, 0, none⟩) Bk.length Bk.length)) (results_cell_row (P := Try.prog) Try.results59 _ _ (w.heap.size + 2) 35 _ (0, 0) _ rfl (a3.setRow _ _ _) Try.underlying35 rfl box_size) rfl ?_
  exact ⟨g3, h3, rfl, (s3.bput a3 _).weak (by omega), Chg.of (below_setRow (b2.trans (b3.mono b2.size)) (by omega) _) hgl⟩
end Go.Proofs.Ytpcpmeihebgncaa

/-
  What scrolledHere of package acts answers, and rewritten for L and M. Conditions: the rows have at most a thousand cells, there are at most a thousand of them, at most fifty lines that went; the screen's sides lie between 1 and 1,000.
-/
namespace Go.Proofs.Ytpcpmeihebgncaa
open Go.RowKit
set_option maxRecDepth 100000

set_option maxHeartbeats 4000000 in
theorem here_no (p : Nm) (D E : Option Addr) (nn c m d : Nat) (n : Int) (F : Nat) (w : World) (hy : p.y < p.top ∨ p.bottom < p.y) :
    Calls Try.prog 106 #[gv p (.slice D nn c) (.slice E m d), .int .i64 n, .func (.func F) #[] #[]] w (ValPost (gv p (.slice D nn c) (.slice E m d)) w) := by
  have HS := Lib.hid (MS.start w p (.slice D nn c) (.slice E m d))
  unfold gv gcs
  go_enter Try.func106, Try.ntmps106
  go_upto_region 1 with fail
  refine wp_world (fun wq => MS w p (.slice D nn c) (.slice E m d) wq) HS.out ?_
  clear HS
  intro w2 rs
  have xg := rs.box
  have xa := rs.ans
  have u3 := xg.cells.c3
  have u6 := xg.cells.c6
  have u7 := xg.cells.c7
  obtain ⟨pw, ph, px, py, pwr, pa, pt, pb, psx, psy, psa, pn, phd⟩ := p
  dsimp only at u3 u6 u7 hy
  by_cases h1 : py < pt
  · clear hy
    go_wp2_with (first
    | (with_reducible refine wpList_loadB xg (x := .tmp 3) ?_ ?_ ?_ ?_
       · with_reducible rfl
       · rfl
       · rfl)
    | (with_reducible refine wpList_storeA xa (x := .tmp 6) (y := .tmp 20) (p := ⟨pw, ph, px, py, pwr, pa, pt, pb, psx, psy, psa, pn, phd⟩) (D := D) (E := E) (n := nn) (c := c) (m := m) (d := d) ?_ ?_ ?_ ?_ ?_
       · with_reducible rfl
       · rfl
       · rfl
       · rfl))
    refine bodyPost_ret (v := gv ⟨pw, ph, px, py, pwr, pa, pt, pb, psx, psy, psa, pn, phd⟩ (.slice D nn c) (.slice E m d)) (results_cell_row (P := Try.prog) Try.results106 _ _ (w.heap.size + 1) 35 _ (0, 0) _ rfl (xa.setRow _ _ _) Try.underlying35 rfl box_size) rfl ?_
    exact ⟨rfl, below_setRow rs.below (Nat.le_succ _) _⟩
  · have h2 : py > pb := by omega
    clear hy
    go_wp2_with (first
    | (with_reducible refine wpList_loadB xg (x := .tmp 3) ?_ ?_ ?_ ?_
       · with_reducible rfl
       · rfl
       · rfl)
    | (with_reducible refine wpList_storeA xa (x := .tmp 6) (y := .tmp 20) (p := ⟨pw, ph, px, py, pwr, pa, pt, pb, psx, psy, psa, pn, phd⟩) (D := D) (E := E) (n := nn) (c := c) (m := m) (d := d) ?_ ?_ ?_ ?_ ?_
       · with_reducible rfl
       · rfl
       · rfl
       · rfl))
    refine bodyPost_ret (v := gv ⟨pw, ph, px, py, pwr, pa, pt, pb, psx, psy, psa, pn, phd⟩ (.slice D nn c) (.slice E m d)) (results_cell_row (P := Try.prog) Try.results106 _ _ (w.heap.size + 1) 35 _ (0, 0) _ rfl (xa.setRow _ _ _) Try.underlying35 rfl box_size) rfl ?_
    exact ⟨rfl, below_setRow rs.below (Nat.le_succ _) _⟩

set_option maxHeartbeats 4000000 in
theorem here_yes (B : Nat) (p : Nm) (g h : Nat) (L Bk L2 B2 : List (List C)) (n : Int) (F : Nat) (w : World) (hs : OScr B w g h L Bk) (hp : On p) (hy1 : ¬ p.y < p.top) (hy2 : ¬ p.bottom < p.y)
    (hE : ∀ args w, (callFunc F args).run Try.prog w = .ok (.enter F args) w)
    (hT : ∀ wx, Below w.heap.size w wx → Calls Try.prog F #[ov p g h L Bk, .int .i64 p.y, .int .i64 p.bottom, .int .i64 n] wx (OwnPost wx p L2 B2)) :
    Calls Try.prog 106 #[ov p g h L Bk, .int .i64 n, .func (.func F) #[] #[]] w (InPost B g w (movedNm p 0 p.y) L2 Bk) := by
  have HS := Lib.hid (MS.start w p (.slice (some ⟨g, 0, none⟩) L.length L.length) (.slice (some ⟨h, 0, none⟩) Bk.length Bk.length))
  have T : Hid (∀ wx, Below w.heap.size w wx → Calls Try.prog F #[gv p (.slice (some ⟨g, 0, none⟩) L.length L.length) (.slice (some ⟨h, 0, none⟩) Bk.length Bk.length), .int .i64 p.y, .int .i64 p.bottom, .int .i64 n] wx (OwnPost wx p L2 B2)) := hT
  have hgl := hs.rows.lt
  have hhl := hs.back.lt
  have hB : B ≤ w.heap.size := by have := hs.rows.low; omega
  have HH := Lib.hid hs
  have HM := Lib.hid (fun D E n c m d w => moved_any p D E n c m d 0 p.y w hp.w0 hp.w1 hp.h0 hp.h1)
  clear hT hs hp
  have hy2' : ¬ p.y > p.bottom := hy2
  clear hy2
  unfold ov gv gcs
  go_enter Try.func106, Try.ntmps106
  go_upto_region 1 with fail
  refine wp_world (fun wq => MS w p (.slice (some ⟨g, 0, none⟩) L.length L.length) (.slice (some ⟨h, 0, none⟩) Bk.length Bk.length) wq) HS.out ?_
  clear HS
  intro w2 ms
  have xg := ms.box
  have u3 := xg.cells.c3
  have u6 := xg.cells.c6
  have u7 := xg.cells.c7
  go_upto_region 4 with (first
    | (with_reducible refine wpList_loadB xg (x := .tmp 3) ?_ ?_ ?_ ?_
       · with_reducible rfl
       · rfl
       · rfl)
    | (with_reducible refine (T.out w2 ms.below).mono ?_
       clear T
       rintro e w3 ⟨g3, h3, rfl, s3, b3⟩)
    | (with_reducible refine wpList_storeB (x := .tmp 7) (y := .tmp 28) (p := p) (D := some ⟨g3, 0, none⟩) (E := some ⟨h3, 0, none⟩) (n := L2.length) (c := L2.length) (m := B2.length) (d := B2.length) ?_ ?_ ?_ ?_ ?_ ?_
       · with_reducible rfl
       · rfl
       · rfl
       · rfl
       · rfl))
  have hz := ms.below.size
  have hlow := s3.rows.low
  have hz3 := b3.size
  refine wp_world (fun wq => Box wq w.heap.size p (.slice (some ⟨g, 0, none⟩) L.length L.length) (.slice (some ⟨h, 0, none⟩) Bk.length Bk.length) ∧ Box wq (w.heap.size + 1) zeroNm nilV nilV ∧ Box wq w3.heap.size p (.slice (some ⟨g3, 0, none⟩) L2.length L2.length) (.slice (some ⟨h3, 0, none⟩) B2.length B2.length) ∧ OTab w2.heap.size wq g3 L2 ∧ OTab B wq h Bk ∧ Below w.heap.size w wq)
    ⟨(ms.box.below b3 ms.box.lt).alloc _, (ms.ans.below b3 ms.ans.lt).alloc _, Box.new _ _ _ _, s3.rows.below ((Below.refl _ _).alloc (Nat.le_refl _) _) (Nat.le_refl _), (HH.out.back.below ms.below (Nat.le_refl _)).below (b3.alloc b3.size _) (Nat.le_refl _), (ms.below.trans (b3.mono ms.below.size)).alloc (by omega) _⟩ ?_
  clear xg u3 u6 u7 s3
  rintro w4 ⟨x4, a4, o4, t4, k4, b4⟩
  have v14 := x4.cells.c14
  have o14 := o4.cells.c14
  have of := o4.cells.free
  have hz4 := o4.lt
  have hms := ms.ans.lt
  go_upto_region 5 with fail
  have o5 := o4.set_back (.slice (some ⟨h, 0, none⟩) Bk.length Bk.length)
  have x5 := x4.far (q := ⟨w3.heap.size, 14, none⟩) (by exact (by omega : w.heap.size ≠ w3.heap.size)) (.slice (some ⟨h, 0, none⟩) Bk.length Bk.length)
  have a5 := a4.far (q := ⟨w3.heap.size, 14, none⟩) (by exact (by omega : w.heap.size + 1 ≠ w3.heap.size)) (.slice (some ⟨h, 0, none⟩) Bk.length Bk.length)
  have t5 := t4.box o4 (w' := w4.setCell ⟨w3.heap.size, 14, none⟩ (.slice (some ⟨h, 0, none⟩) Bk.length Bk.length)) (by simp) fun b _ hn => Below.heap_setCell w4 ⟨w3.heap.size, 14, none⟩ _ b hn
  have k5 := k4.box o4 (w' := w4.setCell ⟨w3.heap.size, 14, none⟩ (.slice (some ⟨h, 0, none⟩) Bk.length Bk.length)) (by simp) fun b _ hn => Below.heap_setCell w4 ⟨w3.heap.size, 14, none⟩ _ b hn
  have b5 := b4.setCell (p := ⟨w3.heap.size, 14, none⟩) (by exact (by omega : w.heap.size ≤ w3.heap.size)) (.slice (some ⟨h, 0, none⟩) Bk.length Bk.length)
  clear v14 o14 of x4 a4 o4 t4 k4 b4
  generalize (w4.setCell ⟨w3.heap.size, 14, none⟩ (.slice (some ⟨h, 0, none⟩) Bk.length Bk.length)) = w5 at *
  have u3 := x5.cells.c3
  go_wp2_with (first
    | (with_reducible refine wpList_loadB o5 (x := .tmp 7) ?_ ?_ ?_ ?_
       · with_reducible rfl
       · rfl
       · rfl)
    | (go_at_call 54
       refine (HM.out _ _ _ _ _ _ w5).mono ?_
       clear HM
       rintro e w6 ⟨rfl, b6⟩
       have a6 := a5.below b6 a5.lt
       generalize hz : movedNm p 0 p.y = z at *)
    | (with_reducible refine wpList_storeA a6 (x := .tmp 6) (y := .tmp 35) (p := z) (D := some ⟨g3, 0, none⟩) (E := some ⟨h, 0, none⟩) (n := L2.length) (c := L2.length) (m := Bk.length) (d := Bk.length) ?_ ?_ ?_ ?_ ?_
       · with_reducible rfl
       · rfl
       · rfl
       · rfl))
  refine bodyPost_ret (v := gv z (.slice (some ⟨g3, 0, none⟩) L2.length L2.length) (.slice (some ⟨h, 0, none⟩) Bk.length Bk.length)) (results_cell_row (P := Try.prog) Try.results106 _ _ (w.heap.size + 1) 35 _ (0, 0) _ rfl (a6.setRow _ _ _) Try.underlying35 rfl box_size) rfl ?_
  have s6 : OScr B w6 g3 h L2 Bk := ⟨(t5.below b6 (Nat.le_refl _)).weak (by omega), k5.below b6 (Nat.le_refl _), by omega⟩
  exact ⟨g3, h, rfl, s6.bput a6 _, Chg.of (below_setRow (b5.trans (b6.mono b5.size)) (Nat.le_succ _) _) hgl⟩
theorem enter72 : ∀ args w, (callFunc 96 args).run Try.prog w = .ok (.enter 96 args) w := enters Try.func96 (by kernel_rfl) rfl
theorem enter76 : ∀ args w, (callFunc 100 args).run Try.prog w = .ok (.enter 100 args) w := enters Try.func100 (by kernel_rfl) rfl

set_option maxHeartbeats 4000000 in
theorem rew_L (B : Nat) (p p2 : Nm) (g h : Nat) (L Bk L2 B2 : List (List C)) (n part : Int) (w : World) (hs : OScr B w g h L Bk)
    (hT : ∀ wx, OScr B wx g h L Bk → Below w.heap.size w wx → Calls Try.prog 106 #[ov p g h L Bk, .int .i64 n, .func (.func 100) #[] #[]] wx (InPost B g wx p2 L2 B2)) :
    Calls Try.prog 59 #[ov p g h L Bk, .int .i32 76, .int .i64 n, .int .i64 part] w (InPost B g w p2 L2 B2) := by
  have HS := Lib.hid (PS.start w 3 (.int .i64 n) p (.slice (some ⟨g, 0, none⟩) L.length L.length) (.slice (some ⟨h, 0, none⟩) Bk.length Bk.length))
  have HB := Lib.hid (start_below w (.cells (gcs p (.slice (some ⟨g, 0, none⟩) L.length L.length) (.slice (some ⟨h, 0, none⟩) Bk.length Bk.length)) 35) (.cells #[.int .i64 n] 3) (.cells (gcs zeroNm nilV nilV) 35))
  have hgl := hs.rows.lt
  have T : Hid (∀ wx, OScr B wx g h L Bk → Below w.heap.size w wx → Calls Try.prog 106 #[gv p (.slice (some ⟨g, 0, none⟩) L.length L.length) (.slice (some ⟨h, 0, none⟩) Bk.length Bk.length), .int .i64 n, .func (.func 100) #[] #[]] wx (InPost B g wx p2 L2 B2)) := hT
  have HH := Lib.hid hs
  clear hT hs
  unfold ov gv gcs
  go_enter Try.func59, Try.ntmps59
  go_upto_region 1 with fail
  refine wp_world (fun wq => PS w 3 (.int .i64 n) p (.slice (some ⟨g, 0, none⟩) L.length L.length) (.slice (some ⟨h, 0, none⟩) Bk.length Bk.length) wq ∧ Below w.heap.size w wq) ⟨HS.out, HB.out⟩ ?_
  clear HS HB
  rintro w2 ⟨ps, b2⟩
  have xg := ps.box
  have un := ps.cell.cell 0
  simp only [List.getElem?_toArray, List.getElem?_cons_zero] at un
  go_wp2_with (first
    | (with_reducible refine wpList_loadB xg (x := .tmp 4) ?_ ?_ ?_ ?_
       · with_reducible rfl
       · rfl
       · rfl)
    | (go_at_call 106
       refine (T.out w2 (HH.out.below b2 (Nat.le_refl _)) b2).mono ?_
       rintro e w3 ⟨g3, h3, rfl, s3, c3⟩
       have a3 := (ps.chg c3 (.inl hgl)).ans)
    | (with_reducible refine wpList_storeA a3 (x := .tmp 8) (y := .tmp 24) (p := p2) (D := some ⟨g3, 0, none⟩) (E := some ⟨h3, 0, none⟩) (n := L2.length) (c := L2.length) (m := B2.length) (d := B2.length) ?_ ?_ ?_ ?_ ?_
       · with_reducible rfl
       · rfl
       · rfl
       · rfl))
  refine bodyPost_ret (v := gv p2 (.slice (some ⟨g3, 0, none⟩) L2.length L2.length) (.slice (some ⟨h3, 0, none⟩) B2.length B2.length)) (results_cell_row (P := Try.prog) Try.results59 _ _ (w.heap.size + 2) 35 _ (0, 0) _ rfl (a3.setRow _ _ _) Try.underlying35 rfl box_size) rfl ?_
  exact ⟨g3, h3, rfl, s3.bput a3 _, (Chg.comp b2 (.inl rfl) hgl c3).setRow hgl (by omega) _⟩

set_option maxHeartbeats 4000000 in
theorem rew_M (B : Nat) (p p2 : Nm) (g h : Nat) (L Bk L2 B2 : List (List C)) (n part : Int) (w : World) (hs : OScr B w g h L Bk)
    (hT : ∀ wx, OScr B wx g h L Bk → Below w.heap.size w wx → Calls Try.prog 106 #[ov p g h L Bk, .int .i64 n, .func (.func 96) #[] #[]] wx (InPost B g wx p2 L2 B2)) :
    Calls Try.prog 59 #[ov p g h L Bk, .int .i32 77, .int .i64 n, .int .i64 part] w (InPost B g w p2 L2 B2) := by
  have HS := Lib.hid (PS.start w 3 (.int .i64 n) p (.slice (some ⟨g, 0, none⟩) L.length L.length) (.slice (some ⟨h, 0, none⟩) Bk.length Bk.length))
  have HB := Lib.hid (start_below w (.cells (gcs p (.slice (some ⟨g, 0, none⟩) L.length L.length) (.slice (some ⟨h, 0, none⟩) Bk.length Bk.length)) 35) (.cells #[.int .i64 n] 3) (.cells (gcs zeroNm nilV nilV) 35))
  have hgl := hs.rows.lt
  have T : Hid (∀ wx, OScr B wx g h L Bk → Below w.heap.size w wx → Calls Try.prog 106 #[gv p (.slice (some ⟨g, 0, none⟩) L.length L.length) (.slice (some ⟨h, 0, none⟩) Bk.length Bk.length), .int .i64 n, .func (.func 96) #[] #[]] wx (InPost B g wx p2 L2 B2)) := hT
  have HH := Lib.hid hs
  clear hT hs
  unfold ov gv gcs
  go_enter Try.func59, Try.ntmps59
  go_upto_region 1 with fail
  refine wp_world (fun wq => PS w 3 (.int .i64 n) p (.slice (some ⟨g, 0, none⟩) L.length L.length) (.slice (some ⟨h, 0, none⟩) Bk.length Bk.length) wq ∧ Below w.heap.size w wq) ⟨HS.out, HB.out⟩ ?_
  clear HS HB
  rintro w2 ⟨ps, b2⟩
  have xg := ps.box
  have un := ps.cell.cell 0
  simp only [List.getElem?_toArray, List.getElem?_cons_zero] at un
  go_wp2_with (first
    | (with_reducible refine wpList_loadB xg (x := .tmp 4) ?_ ?_ ?_ ?_
       · with_reducible rfl
       · rfl
       · rfl)
    | (go_at_call 106
       refine (T.out w2 (HH.out.below b2 (Nat.le_refl _)) b2).mono ?_
       rintro e w3 ⟨g3, h3, rfl, s3, c3⟩
       have a3 := (ps.chg c3 (.inl hgl)).ans)
    | (with_reducible refine wpList_storeA a3 (x := .tmp 8) (y := .tmp 29) (p := p2) (D := some ⟨g3, 0, none⟩) (E := some ⟨h3, 0, none⟩) (n := L2.length) (c := L2.length) (m := B2.length) (d := B2.length) ?_ ?_ ?_ ?_ ?_
       · with_reducible rfl
       · rfl
       · rfl
       · rfl))
  refine bodyPost_ret (v := gv p2 (.slice (some ⟨g3, 0, none⟩) L2.length L2.length) (.slice (some ⟨h3, 0, none⟩) B2.length B2.length)) (results_cell_row (P := Try.prog) Try.results59 _ _ (w.heap.size + 2) 35 _ (0, 0) _ rfl (a3.setRow _ _ _) Try.underlying35 rfl box_size) rfl ?_
  exact ⟨g3, h3, rfl, s3.bput a3 _, (Chg.comp b2 (.inl rfl) hgl c3).setRow hgl (by omega) _⟩
end Go.Proofs.Ytpcpmeihebgncaa

/-
  What rowCleared and screenCleared of package acts answer where nothing is asked to be cleared: the screen as it was. Conditions: the cursor's row is there, the table of rows is one block.
-/
namespace Go.Proofs.Ytpcpmeihebgncaa
open Go.RowKit
set_option maxRecDepth 100000

theorem set_self {vs : List Value} {y : Nat} {v : Value} (h : vs[y]? = some v) : vs.set y v = vs := by
  apply List.ext_getElem?
  intro i
  rw [List.getElem?_set]
  split
  · rename_i e
    subst e
    split
    · exact h.symm
    · rename_i hn
      rw [List.getElem?_eq_none (by omega)] at h
      cases h
  · rfl
def SelfPost (v : Value) (w : World) (e : Ending) (w' : World) : Prop := e = .returned v ∧ w = w'
def ChgSPost (w : World) (v : Value) (g : Nat) (vs : List Value) (e : Ending) (w' : World) : Prop := e = .returned v ∧ Held w' g 46 vs.toArray ∧ Chg g w w'

set_option maxHeartbeats 4000000 in
theorem changedS_any (F : Nat) (c1 c2 : Value) (p : Nm) (g : Nat) (E : Option Addr) (m d : Nat) (vs : List Value) (y : Nat) (D0 : Option Addr) (n0 k0 : Nat) (w : World)
    (ht : Held w g 46 vs.toArray) (hp : p.y = y) (hy : y < vs.length) (hv : vs[y]? = some (.slice D0 n0 k0))
    (hE : ∀ args w, (callFunc F args).run Try.prog w = .ok (.enter F args) w)
    (hF : ∀ wx, Below w.heap.size w wx → Calls Try.prog F #[.slice D0 n0 k0, c1, c2] wx (SelfPost (.slice D0 n0 k0) wx)) :
    Calls Try.prog 51 #[gv p (.slice (some ⟨g, 0, none⟩) vs.length vs.length) (.slice E m d), .func (.func F) #[] #[c1, c2]] w (ChgSPost w (gv p (.slice (some ⟨g, 0, none⟩) vs.length vs.length) (.slice E m d)) g vs) := by
  have rs := MS.start w p (.slice (some ⟨g, 0, none⟩) vs.length vs.length) (.slice E m d)
  have HS := Lib.hid rs
  have HF := Lib.hid hF
  have HT := Lib.hid ht
  have HP := Lib.hid hp
  have hgl := ht.lt
  clear rs hF ht hp
  unfold gv gcs
  go_enter Try.func51, Try.ntmps51
  go_upto_region 1 with fail
  refine wp_world (fun wq => MS w p (.slice (some ⟨g, 0, none⟩) vs.length vs.length) (.slice E m d) wq) HS.out ?_
  clear HS
  intro w2 rs
  have hT2 := HT.out.below rs.below hgl
  have t0 := hT2.cell y
  rw [List.getElem?_toArray, hv] at t0
  have u3 := rs.box.cells.c3
  have u13 := rs.box.cells.c13
  rw [HP.out] at u3
  have hyi : (y : Int) < (vs.length : Int) := by omega
  have hz0 : w.heap.size < w2.heap.size := rs.box.lt
  have hgz : g < w2.heap.size := by omega
  go_upto_region 2 with fail
  have rsd := rs.drew
  have v3 := rsd.box.cells.c3
  have v13 := rsd.box.cells.c13
  rw [HP.out] at v3
  have hTd : Held w2.drew g 46 vs.toArray := hT2
  have t1 := hTd.cell y
  rw [List.getElem?_toArray, hv] at t1
  have HV := Lib.hid hv
  clear hv u3 u13 t0
  have HR := Lib.hid rsd
  have HTd := Lib.hid hTd
  clear rs rsd hT2 hTd
  go_cut [] (fun wx => Box wx w.heap.size p (.slice (some ⟨g, 0, none⟩) vs.length vs.length) (.slice E m d) ∧ Box wx (w.heap.size + 1) zeroNm nilV nilV ∧ Held wx g 46 vs.toArray ∧ Chg g w wx)
  case first =>
    refine wp_region_held_drew (S := fun w' => w'.cell? ⟨w.heap.size, 3, none⟩ = some (.int .i64 y) ∧ w'.cell? ⟨w.heap.size, 13, none⟩ = some (.slice (some ⟨g, 0, none⟩) vs.length vs.length)) (by kernel_rfl) (by exact ⟨v3, v13⟩) (fun hH0 => ?_)
    refine wpAnyH_take (i := 0) (oi := _) (v := .pointer (some ⟨w.heap.size, 13, none⟩)) rfl (by kernel_rfl) (by kernel_rfl) (by kernel_rfl) (fun _ _ _ h => h) (Or.inl ⟨by rfl, ?_⟩) hH0 ?_
    · intro wv hSw
      try dsimp only at hSw
      go_simp
    change wpAnyH _ _ _ _ _ _ _ (Act.put _ (some 16) (.pointer (some ⟨w.heap.size, 13, none⟩))) _
    simp only [Act.put, List.setIfInBounds_toArray, List.set_cons_zero, List.set_cons_succ]
    refine wpAnyH_take (i := 1) (oi := _) (v := .slice (some ⟨g, 0, none⟩) vs.length vs.length) rfl (by kernel_rfl) (by kernel_rfl) (by kernel_rfl) (fun _ _ _ h => h) (Or.inl ⟨by rfl, ?_⟩) hH0 ?_
    · intro wv hSw
      try dsimp only at hSw
      go_simp
    change wpAnyH _ _ _ _ _ _ _ (Act.put _ (some 17) (.slice (some ⟨g, 0, none⟩) vs.length vs.length)) _
    simp only [Act.put, List.setIfInBounds_toArray, List.set_cons_zero, List.set_cons_succ]
    refine wpAnyH_take (i := 2) (oi := _) (v := .pointer (some ⟨w.heap.size, 3, none⟩)) rfl (by kernel_rfl) (by kernel_rfl) (by kernel_rfl) (fun _ _ _ h => h) (Or.inl ⟨by rfl, ?_⟩) hH0 ?_
    · intro wv hSw
      try dsimp only at hSw
      go_simp
    change wpAnyH _ _ _ _ _ _ _ (Act.put _ (some 18) (.pointer (some ⟨w.heap.size, 3, none⟩))) _
    simp only [Act.put, List.setIfInBounds_toArray, List.set_cons_zero, List.set_cons_succ]
    refine wpAnyH_take (i := 3) (oi := _) (v := .int .i64 y) rfl (by kernel_rfl) (by kernel_rfl) (by kernel_rfl) (fun _ _ _ h => h) (Or.inl ⟨by rfl, ?_⟩) hH0 ?_
    · intro wv hSw
      try dsimp only at hSw
      go_simp
    change wpAnyH _ _ _ _ _ _ _ (Act.put _ (some 19) (.int .i64 y)) _
    simp only [Act.put, List.setIfInBounds_toArray, List.set_cons_zero, List.set_cons_succ]
    refine wpAnyH_take (i := 4) (oi := _) (v := .func (.func F) #[] #[c1, c2]) rfl (by kernel_rfl) (by kernel_rfl) (by kernel_rfl) (fun _ _ _ h => h) (Or.inl ⟨by rfl, ?_⟩) hH0 ?_
    · intro wv hSw
      try dsimp only at hSw
      go_simp
    change wpAnyH _ _ _ _ _ _ _ (Act.put _ (some 20) (.func (.func F) #[] #[c1, c2])) _
    simp only [Act.put, List.setIfInBounds_toArray, List.set_cons_zero, List.set_cons_succ]
    refine wpAnyH_take (i := 5) (oi := _) (v := .pointer (some ⟨w.heap.size, 13, none⟩)) rfl (by kernel_rfl) (by kernel_rfl) (by kernel_rfl) (fun _ _ _ h => h) (Or.inl ⟨by rfl, ?_⟩) hH0 ?_
    · intro wv hSw
      try dsimp only at hSw
      go_simp
    change wpAnyH _ _ _ _ _ _ _ (Act.put _ (some 21) (.pointer (some ⟨w.heap.size, 13, none⟩))) _
    simp only [Act.put, List.setIfInBounds_toArray, List.set_cons_zero, List.set_cons_succ]
    refine wpAnyH_take (i := 6) (oi := _) (v := .slice (some ⟨g, 0, none⟩) vs.length vs.length) rfl (by kernel_rfl) (by kernel_rfl) (by kernel_rfl) (fun _ _ _ h => h) (Or.inl ⟨by rfl, ?_⟩) hH0 ?_
    · intro wv hSw
      try dsimp only at hSw
      go_simp
    change wpAnyH _ _ _ _ _ _ _ (Act.put _ (some 22) (.slice (some ⟨g, 0, none⟩) vs.length vs.length)) _
    simp only [Act.put, List.setIfInBounds_toArray, List.set_cons_zero, List.set_cons_succ]
    refine wpAnyH_take (i := 7) (oi := _) (v := .pointer (some ⟨w.heap.size, 3, none⟩)) rfl (by kernel_rfl) (by kernel_rfl) (by kernel_rfl) (fun _ _ _ h => h) (Or.inl ⟨by rfl, ?_⟩) hH0 ?_
    · intro wv hSw
      try dsimp only at hSw
      go_simp
    change wpAnyH _ _ _ _ _ _ _ (Act.put _ (some 23) (.pointer (some ⟨w.heap.size, 3, none⟩))) _
    simp only [Act.put, List.setIfInBounds_toArray, List.set_cons_zero, List.set_cons_succ]
    refine wpAnyH_take (i := 8) (oi := _) (v := .int .i64 y) rfl (by kernel_rfl) (by kernel_rfl) (by kernel_rfl) (fun _ _ _ h => h) (Or.inl ⟨by rfl, ?_⟩) hH0 ?_
    · intro wv hSw
      try dsimp only at hSw
      go_simp
    change wpAnyH _ _ _ _ _ _ _ (Act.put _ (some 24) (.int .i64 y)) _
    simp only [Act.put, List.setIfInBounds_toArray, List.set_cons_zero, List.set_cons_succ]
    refine wpAnyH_take (i := 9) (oi := _) (v := .pointer (some ⟨g, y, none⟩)) rfl (by kernel_rfl) (by kernel_rfl) (by kernel_rfl) (fun _ _ _ h => h) (Or.inl ⟨by rfl, ?_⟩) hH0 ?_
    · intro wv hSw
      try dsimp only at hSw
      go_simp
    change wpAnyH _ _ _ _ _ _ _ (Act.put _ (some 25) (.pointer (some ⟨g, y, none⟩))) _
    simp only [Act.put, List.setIfInBounds_toArray, List.set_cons_zero, List.set_cons_succ]
    refine wpAnyH_ready (rs := [10]) (by kernel_rfl) (by simp) ?_
    refine AllReadyH.cons (o := _) rfl (fun K hK => ?_) AllReadyH.nil
    go_simp
    refine hK.out _ _ (by exact ⟨v3, v13⟩) (fun hH1 => ?_)
    clear hK K
    try simp only [Act.put, List.setIfInBounds_toArray, List.set_cons_zero, List.set_cons_succ]
    refine wpAnyH_ready (rs := [11]) (by kernel_rfl) (by simp) ?_
    refine AllReadyH.cons (o := _) rfl (fun K hK => ?_) AllReadyH.nil
    go_simp
    refine (HF.out _ HR.out.below).mono ?_
    rintro e w3 ⟨rfl, hw3⟩
    have b3 : Below w2.drew.heap.size w2.drew w3 := by rw [← hw3]; exact Below.refl _ _
    clear hw3
    have x3 := (HR.out.box.below b3 HR.out.box.lt)
    have z3 := x3.cells.c3
    have z13 := x3.cells.c13
    rw [HP.out] at z3
    have t3 := HTd.out.below b3 hgz
    have q3 := t3.cell y
    rw [List.getElem?_toArray, HV.out] at q3
    have f3 := t3.frozen
    go_wp2_with fail
    refine hK.out _ _ (by exact ⟨z3, z13⟩) (fun hH2 => ?_)
    clear hK K
    try simp only [Act.put, List.setIfInBounds_toArray, List.set_cons_zero, List.set_cons_succ]
    refine wpAnyH_take (i := 12) (oi := _) (v := .pointer (some ⟨g, y, none⟩)) rfl (by kernel_rfl) (by kernel_rfl) (by kernel_rfl) (fun _ _ _ h => h) (Or.inl ⟨by rfl, ?_⟩) hH2 ?_
    · intro wv hSw
      try dsimp only at hSw
      go_simp
    change wpAnyH _ _ _ _ _ _ _ (Act.put _ (some 28) (.pointer (some ⟨g, y, none⟩))) _
    simp only [Act.put, List.setIfInBounds_toArray, List.set_cons_zero, List.set_cons_succ]
    refine wpAnyH_ready (rs := [13]) (by kernel_rfl) (by simp) ?_
    refine AllReadyH.cons (o := _) rfl (fun K hK => ?_) AllReadyH.nil
    go_simp
    refine hK.out _ _ (by exact ⟨(cell_far (by exact (by omega : w.heap.size ≠ g)) _).trans z3, (cell_far (by exact (by omega : w.heap.size ≠ g)) _).trans z13⟩) (fun hH3 => ?_)
    clear hK K
    try simp only [Act.put, List.setIfInBounds_toArray, List.set_cons_zero, List.set_cons_succ]
    refine wpAnyH_done (by kernel_rfl) ?_ _
    clear hH0 hH1 hH2 hH3
    clear v3 v13 t1 z3 z13 q3 f3
    all_goals go_wp2_with fail
    all_goals go_meet
    all_goals
      have hset := t3.set1 y (.slice D0 n0 k0)
      rw [List.setIfInBounds_toArray, set_self HV.out] at hset
      exact ⟨x3.far (q := ⟨g, y, none⟩) (by exact (by omega : w.heap.size ≠ g)) _, (HR.out.ans.below b3 HR.out.ans.lt).far (q := ⟨g, y, none⟩) (by exact (by omega : w.heap.size + 1 ≠ g)) _, hset, (Chg.of (HR.out.below.trans (b3.mono HR.out.below.size)) hgl).set y _⟩
  case rest =>
    clear v3 v13 t1 HV HP HR HTd HF HT hE
    obtain ⟨xg, xa, t3, ch⟩ := hcut
    go_wp2_with (first
      | (with_reducible refine wpList_loadB xg (x := .tmp 2) ?_ ?_ ?_ ?_
         · with_reducible rfl
         · rfl
         · rfl)
      | (with_reducible refine wpList_storeA xa (x := .tmp 4) (y := .tmp 29) (p := p) (D := some ⟨g, 0, none⟩) (E := E) (n := vs.length) (c := vs.length) (m := m) (d := d) ?_ ?_ ?_ ?_ ?_
         · with_reducible rfl
         · rfl
         · rfl
         · rfl))
    refine bodyPost_ret (v := gv p (.slice (some ⟨g, 0, none⟩) vs.length vs.length) (.slice E m d)) (results_cell_row (P := Try.prog) Try.results51 _ _ (w.heap.size + 1) 35 _ (0, 0) _ rfl (xa.setRow p _ _) Try.underlying35 rfl box_size) rfl ?_
    exact ⟨rfl, (setRow_other _ _ _ _ (by omega)).trans t3, ch.setRow hgl (Nat.le_succ _) _⟩

theorem changedQ_any (F : Nat) (c1 c2 : Value) (p : Nm) (g h : Nat) (L Bk : List (List C)) (y : Nat) (B : Nat) (w : World) (hs : OScr B w g h L Bk) (hp : p.y = y) (hy : y < L.length)
    (hE : ∀ args w, (callFunc F args).run Try.prog w = .ok (.enter F args) w)
    (hF : ∀ wx D n c, Below w.heap.size w wx → Calls Try.prog F #[.slice D n c, c1, c2] wx (SelfPost (.slice D n c) wx)) :
    Calls Try.prog 51 #[ov p g h L Bk, .func (.func F) #[] #[c1, c2]] w (TurnPost B g h w p L Bk) := by
  obtain ⟨vs, hv, hg, hr⟩ := hs.rows
  have hvy : y < vs.length := by rw [hr.1]; exact hy
  obtain ⟨D, c, e, hc, hrow⟩ := hr.2 y hvy hy
  have := changedS_any F c1 c2 p g (some ⟨h, 0, none⟩) Bk.length Bk.length vs y D L[y].length c w hv hp hvy (by rw [List.getElem?_eq_getElem hvy, e]) hE (fun wx hb => hF wx D _ c hb)
  rw [hr.1] at this
  refine this.mono ?_
  rintro e w' ⟨rfl, h1, h4⟩
  refine ⟨rfl, ⟨⟨vs, h1, hg, RowsV.chg hv hr h4 hr⟩, ?_, hs.ne⟩, h4⟩
  obtain ⟨us, k1, k2, k3⟩ := hs.back
  exact ⟨us, h4.held k1 (Ne.symm hs.ne), k2, RowsV.chg hv hr h4 k3⟩

set_option maxHeartbeats 1000000 in
theorem clearFn_no (D : Option Addr) (n c : Nat) (k kp : Nat) (part : Int) (w : World) (hr : w.cell? ⟨kp, 0, none⟩ = some (.int .i64 part)) (h0 : part ≠ 0) (h1 : part ≠ 1) (h2 : part ≠ 2) :
    Calls Try.prog 138 #[.slice D n c, .pointer (some ⟨kp, 0, none⟩), .pointer (some ⟨k, 0, none⟩)] w (SelfPost (.slice D n c) w) := by
  go_enter Try.func138, Try.ntmps138
  go_wp2_with fail
  go_ret
  exact ⟨rfl, rfl⟩

set_option maxHeartbeats 4000000 in
theorem rowCleared_no (B : Nat) (p : Nm) (g h : Nat) (L Bk : List (List C)) (part : Int) (y : Nat) (w : World) (hs : OScr B w g h L Bk) (hy : p.y = y) (hyl : y < L.length) (h0 : part ≠ 0) (h1 : part ≠ 1) (h2 : part ≠ 2) :
    Calls Try.prog 105 #[ov p g h L Bk, .int .i64 part] w (TurnPost B g h w p L Bk) := by
  have HS := Lib.hid (PS.start w 3 (.int .i64 part) p (.slice (some ⟨g, 0, none⟩) L.length L.length) (.slice (some ⟨h, 0, none⟩) Bk.length Bk.length))
  have HB := Lib.hid (start_below w (.cells (gcs p (.slice (some ⟨g, 0, none⟩) L.length L.length) (.slice (some ⟨h, 0, none⟩) Bk.length Bk.length)) 35) (.cells #[.int .i64 part] 3) (.cells (gcs zeroNm nilV nilV) 35))
  have hgl := hs.rows.lt
  have T : Hid (∀ (wx : World), PS w 3 (.int .i64 part) p (.slice (some ⟨g, 0, none⟩) L.length L.length) (.slice (some ⟨h, 0, none⟩) Bk.length Bk.length) wx → OScr B wx g h L Bk → Calls Try.prog 51 #[gv p (.slice (some ⟨g, 0, none⟩) L.length L.length) (.slice (some ⟨h, 0, none⟩) Bk.length Bk.length), .func (.func 138) #[] #[.pointer (some ⟨w.heap.size + 1, 0, none⟩), .pointer (some ⟨w.heap.size, 0, none⟩)]] wx (TurnPost B g h wx p L Bk)) := fun wx ps hs =>
    changedQ_any 138 _ _ p g h L Bk y B wx hs hy hyl enter104 fun wy D n c hb => clearFn_no D n c _ _ part wy ((ps.cell.below hb ps.cell.lt).cell 0) h0 h1 h2
  have HH := Lib.hid hs
  clear hs hy hyl h0 h1 h2
  unfold ov gv gcs
  go_enter Try.func105, Try.ntmps105
  go_upto_region 1 with fail
  refine wp_world (fun wq => PS w 3 (.int .i64 part) p (.slice (some ⟨g, 0, none⟩) L.length L.length) (.slice (some ⟨h, 0, none⟩) Bk.length Bk.length) wq ∧ Below w.heap.size w wq) ⟨HS.out, HB.out⟩ ?_
  clear HS HB
  rintro w2 ⟨ps, b2⟩
  have xg := ps.box
  go_wp2_with (first
    | (with_reducible refine wpList_loadB xg (x := .tmp 2) ?_ ?_ ?_ ?_
       · with_reducible rfl
       · rfl
       · rfl)
    | (go_at_call 51
       refine (T.out w2 ps (HH.out.below b2 (Nat.le_refl _))).mono ?_
       rintro e w3 ⟨rfl, s3, c3⟩
       have a3 := (ps.chg c3 (.inl hgl)).ans)
    | (with_reducible refine wpList_storeA a3 (x := .tmp 4) (y := .tmp 7) (p := p) (D := some ⟨g, 0, none⟩) (E := some ⟨h, 0, none⟩) (n := L.length) (c := L.length) (m := Bk.length) (d := Bk.length) ?_ ?_ ?_ ?_ ?_
       · with_reducible rfl
       · rfl
       · rfl
       · rfl))
  refine bodyPost_ret (v := gv p (.slice (some ⟨g, 0, none⟩) L.length L.length) (.slice (some ⟨h, 0, none⟩) Bk.length Bk.length)) (results_cell_row (P := Try.prog) Try.results105 _ _ (w.heap.size + 2) 35 _ (0, 0) _ rfl (a3.setRow _ _ _) Try.underlying35 rfl box_size) rfl ?_
  exact ⟨rfl, s3.bput a3 _, (Chg.comp b2 (.inl rfl) hgl c3).setRow hgl (by omega) _⟩

/-- No row has been turned. -/
structure NoSt (B : Nat) (w : World) (p : Nm) (g h : Nat) (L Bk : List (List C)) (wr : World) : Prop where
  box : Box wr w.heap.size p (.slice (some ⟨g, 0, none⟩) L.length L.length) (.slice (some ⟨h, 0, none⟩) Bk.length Bk.length)
  ans : Box wr (w.heap.size + 1) zeroNm nilV nilV
  scr : OScr B wr g h L Bk
  chg : Chg g w wr
def NoRel (B : Nat) (w : World) (p : Nm) (g h : Nat) (L Bk : List (List C)) (i : Value) (wr : World) : Prop := ∃ k : Nat, i = .int .i64 (k : Int) ∧ k ≤ L.length ∧ NoSt B w p g h L Bk wr

set_option maxHeartbeats 8000000 in
theorem screenCleared_no (B : Nat) (p : Nm) (g h : Nat) (L Bk : List (List C)) (part : Int) (y : Nat) (w : World) (hs : OScr B w g h L Bk) (hy : p.y = y) (hyl : y < L.length) (hlen : L.length ≤ 1000) (h0 : part ≠ 0) (h1 : part ≠ 1) (h2 : part ≠ 2) :
    Calls Try.prog 104 #[ov p g h L Bk, .int .i64 part] w (TurnPost B g h w p L Bk) := by
  have HS := Lib.hid (MS.start w p (.slice (some ⟨g, 0, none⟩) L.length L.length) (.slice (some ⟨h, 0, none⟩) Bk.length Bk.length))
  have hgl := hs.rows.lt
  have T : Hid (∀ (wx : World), OScr B wx g h L Bk → Calls Try.prog 105 #[gv p (.slice (some ⟨g, 0, none⟩) L.length L.length) (.slice (some ⟨h, 0, none⟩) Bk.length Bk.length), .int .i64 part] wx (TurnPost B g h wx p L Bk)) := fun wx hs => rowCleared_no B p g h L Bk part y wx hs hy hyl h0 h1 h2
  have HH := Lib.hid hs
  clear hs hy hyl
  unfold ov gv gcs
  go_enter Try.func104, Try.ntmps104
  go_upto_region 1 with fail
  refine wp_world (fun wq => MS w p (.slice (some ⟨g, 0, none⟩) L.length L.length) (.slice (some ⟨h, 0, none⟩) Bk.length Bk.length) wq) HS.out ?_
  clear HS
  intro w2 ms
  have xg := ms.box
  go_upto_region 2 with (first
    | (with_reducible refine wpList_loadB xg (x := .tmp 2) ?_ ?_ ?_ ?_
       · with_reducible rfl
       · rfl
       · rfl)
    | (go_at_call 105
       refine (T.out w2 (HH.out.below ms.below (Nat.le_refl _))).mono ?_
       rintro e w3 ⟨rfl, s3, c3⟩
       have x3 := c3.box ms.box (by omega)
       have a3 := c3.box ms.ans (by omega))
    | (with_reducible refine wpList_storeA x3 (x := .tmp 2) (y := .tmp 9) (p := p) (D := some ⟨g, 0, none⟩) (E := some ⟨h, 0, none⟩) (n := L.length) (c := L.length) (m := Bk.length) (d := Bk.length) ?_ ?_ ?_ ?_ ?_
       · with_reducible rfl
       · rfl
       · rfl
       · rfl))
  refine wp_world (fun wq => NoSt B w p g h L Bk wq) ⟨x3.setRow _ _ _, (setRow_other _ _ _ _ (by omega)).trans a3, s3.bput x3 _, (Chg.comp ms.below (.inl rfl) hgl c3).setRow hgl (Nat.le_refl _) _⟩ ?_
  clear ms xg x3 a3 s3 c3 T HH
  intro w4 st4
  have cc13 := st4.box.cells.c13
  go_wp2_with fail
  go_loopw [13] (NoRel B w p g h L Bk) (fun i _ => L.length - (intOf i).toNat)
  case atStart => exact ⟨0, rfl, Nat.zero_le _, st4⟩
  case round =>
    clear st4 cc13
    obtain ⟨k, rfl, hk, st⟩ := hrel
    by_cases hlt : k < L.length
    · have hki : (k : Int) < (L.length : Int) := by omega
      obtain ⟨b, off, E, ce, e0, _, hbl, _, hcell, hce, hrow⟩ := st.scr.rows.lines.at k hlt
      cases e0
      rw [Nat.zero_add] at hcell
      have HST := Lib.hid st
      clear hrow st
      go_wp2_with fail
      go_roundw
      case rel => exact ⟨k + 1, by go_num, by omega, HST.out⟩
      case measure => simp [intOf]; omega
    · have hki : ¬ (k : Int) < (L.length : Int) := by omega
      have x5 := st.box
      have a5 := st.ans
      go_wp2_with (first
        | (with_reducible refine wpList_loadB x5 (x := .tmp 2) ?_ ?_ ?_ ?_
           · with_reducible rfl
           · rfl
           · rfl)
        | (with_reducible refine wpList_storeA a5 (x := .tmp 4) (y := .tmp 49) (p := p) (D := some ⟨g, 0, none⟩) (E := some ⟨h, 0, none⟩) (n := L.length) (c := L.length) (m := Bk.length) (d := Bk.length) ?_ ?_ ?_ ?_ ?_
           · with_reducible rfl
           · rfl
           · rfl
           · rfl))
      refine bodyPost_ret (v := gv p (.slice (some ⟨g, 0, none⟩) L.length L.length) (.slice (some ⟨h, 0, none⟩) Bk.length Bk.length)) (results_cell_row (P := Try.prog) Try.results104 _ _ (w.heap.size + 1) 35 _ (0, 0) _ rfl (a5.setRow _ _ _) Try.underlying35 rfl box_size) rfl ?_
      exact ⟨rfl, st.scr.bput a5 _, st.chg.setRow hgl (Nat.le_succ _) _⟩
end Go.Proofs.Ytpcpmeihebgncaa
