/-
  What Down of package grid answers. Conditions: a screen of one to a thousand rows, rows of at most a thousand cells, at most fifty lines that went.
-/
import Derived.Test.YtpcpmeihebgncaaUp
namespace Go.Proofs.Ytpcpmeihebgncaa
open Go.RowKit
set_option maxRecDepth 100000

/-- The rows behind Down. -/
def downL (L : List (List C)) (f t k : Nat) (x : Int) : List (List C) := [L.take f, blankL x k, (L.take (t - k)).drop f, L.drop t].flatten
theorem downL_len {L : List (List C)} {f t k n : Nat} (x : Int) (hn : L.length = n) (h1 : f + k ≤ t) (h2 : t ≤ n) : (downL L f t k x).length = n := by
  simp only [downL, blankL, List.flatten_cons, List.flatten_nil, List.length_append, List.length_take, List.length_drop, List.length_replicate, List.length_nil]
  omega
theorem downL_rows {L : List (List C)} {f t k : Nat} {x : Int} (hl : ∀ r ∈ L, r.length ≤ 1000) : ∀ r ∈ downL L f t k x, r.length ≤ 1000 := by
  intro r hr
  simp only [downL, List.flatten_cons, List.flatten_nil, List.mem_append, List.append_nil] at hr
  rcases hr with h | h | h | h
  · exact hl r (List.mem_of_mem_take h)
  · rw [(List.mem_replicate.1 h).2]; exact blankF_le x
  · exact hl r (List.mem_of_mem_take (List.mem_of_mem_drop h))
  · exact hl r (List.mem_of_mem_drop h)
theorem tabs4d {w : World} {rb ro c n f t k g q : Nat} {vs bvs : List Value} {E1 E2 : Option Addr} (hvs : TabAt 0 w (some ⟨rb, ro, none⟩) vs) (hvl : vs.length = n) (hnc : n ≤ c) (hft : f + k ≤ t) (htn : t ≤ n)
    (hE1 : (if c = f then some (⟨rb, ro, none⟩ : Addr) else some ⟨rb, ro + f, none⟩) = E1) (hE2 : (if c = t then some (⟨rb, ro, none⟩ : Addr) else some ⟨rb, ro + t, none⟩) = E2) (hb : TabAt 0 w (some ⟨g, 0, none⟩) bvs) (hq : bvs.length = q) :
    TabsV w [.slice (some ⟨rb, ro, none⟩) f c, .slice (some ⟨g, 0, none⟩) q q, .slice E1 (t - k - f) (c - f), .slice E2 (n - t) (c - t)] [vs.take f, bvs, (vs.take (t - k)).drop f, vs.drop t] := by
  refine ⟨rfl, fun j h1 h2 => ?_⟩
  subst hE1 hE2 hq
  match j, h1 with
  | 0, _ => exact ⟨_, c, by rw [show f = (vs.take f).length by rw [List.length_take]; omega]; simp, hvs.take f⟩
  | 1, _ => exact ⟨_, bvs.length, rfl, hb⟩
  | 2, _ => exact ⟨_, c - f, by have : ((vs.take (t - k)).drop f).length = t - k - f := by rw [List.length_drop, List.length_take]; omega
                                simp [this], (hvs.take (t - k)).cut (lo := f) (cap := c) (by rw [List.length_take]; omega)⟩
  | 3, _ => exact ⟨_, c - t, by have : (vs.drop t).length = n - t := by rw [List.length_drop]; omega
                                simp [this], hvs.cut (lo := t) (cap := c) (by omega)⟩

set_option maxRecDepth 100000 in
set_option maxHeartbeats 4000000 in
theorem downO_any (p : Nm) (D E : Option Addr) (n c m d : Nat) (L Bk : List (List C)) (top bottom z : Int) (w : World) (hs : Scr 0 w D E n c m d L Bk) (h0 : 1 ≤ n) (hn : n ≤ 1000) (hm : m ≤ 50) (hl : ∀ r ∈ L, r.length ≤ 1000) (hlb : ∀ r ∈ Bk, r.length ≤ 1000) :
    Calls Try.prog 100 #[gv p (.slice D n c) (.slice E m d), .int .i64 top, .int .i64 bottom, .int .i64 z] w
      (OwnPost w p (downL L (fromF n top) (toF n top bottom) (withinF z (toF n top bottom - fromF n top)).toNat p.w) Bk) := by
  have hft : fromF n top ≤ toF n top bottom := by unfold toF; omega
  have htn : toF n top bottom ≤ n := by unfold toF fromF withinF; omega
  have HP := Lib.hid (fun w => part_any p D n c (.slice E m d) top bottom w h0 (by omega))
  generalize fromF n top = f at *
  generalize toF n top bottom = t at *
  obtain ⟨k, hk⟩ : ∃ k : Nat, withinF z ((t : Int) - f) = k := ⟨(withinF z (t - f)).toNat, by unfold withinF; omega⟩
  have hkt : f + k ≤ t := by have : withinF z ((t : Int) - f) ≤ t - f := by unfold withinF; omega
                             omega
  have HK : Hid (∀ w, Calls Try.prog 91 #[.int .i64 z, .int .i64 ((t : Int) - f)] w fun e w' => e = .returned (.int .i64 k) ∧ w = w') := fun w => by rw [← hk]; exact gwithin_any z _ w
  rw [hk, Int.toNat_natCast]
  clear hk
  obtain ⟨rb, ro, rfl⟩ := hs.some h0
  have HS := Lib.hid hs
  clear hs
  unfold gv gcs
  go_enter Try.func100, Try.ntmps100
  go_wp2_with fail
  refine (HP.out _).mono ?_
  rintro e w1 ⟨rfl, hb1⟩
  have x1 : Box w1 w.heap.size p (.slice (some ⟨rb, ro, none⟩) n c) (.slice E m d) := ((Box.new w p _ _).alloc _).below hb1 (by simp; omega)
  have x2 : Box w1 (w.heap.size + 1) zeroNm nilV nilV := by
    have := (Box.new (w.alloc (.cells (gcs p (.slice (some ⟨rb, ro, none⟩) n c) (.slice E m d)) 35)) zeroNm nilV nilV).below hb1 (by simp)
    simpa using this
  have b1 : Below w.heap.size w w1 := ((Below.refl _ _).alloc (Nat.le_refl _) _).alloc (by simp) _ |>.trans (hb1.mono (by simp; omega))
  clear hb1
  have hx := x1.cells
  obtain ⟨y0, y1, y2, y3, y4, y5, y6, y7, y8, y9, y10, y11, y12, y13, y14, yf⟩ := hx
  have hz1 := x1.lt
  have hz2 := x2.lt
  go_upto_region 4 with (go_at_call 91; refine (HK.out _).mono ?_; rintro e w' ⟨rfl, rfl⟩)
  refine wp_world (fun wq => Box wq w.heap.size p (.slice (some ⟨rb, ro, none⟩) n c) (.slice E m d) ∧ Box wq (w.heap.size + 1) zeroNm nilV nilV ∧ Box wq w1.heap.size p (.slice (some ⟨rb, ro, none⟩) n c) (.slice E m d) ∧ Below w1.heap.size w1 wq)
    ⟨x1.alloc _, x2.alloc _, Box.new w1 p _ _, (Below.refl _ _).alloc (Nat.le_refl _) _⟩ ?_
  clear y0 y1 y2 y3 y4 y5 y6 y7 y8 y9 y10 y11 y12 y13 y14 yf x1 x2
  rintro wq ⟨x1, x2, x3, bq⟩
  have hz3 := x3.lt
  have x1d : Box wq.drew w.heap.size p (.slice (some ⟨rb, ro, none⟩) n c) (.slice E m d) := x1
  have x2d : Box wq.drew (w.heap.size + 1) zeroNm nilV nilV := x2
  have x3d : Box wq.drew w1.heap.size p (.slice (some ⟨rb, ro, none⟩) n c) (.slice E m d) := x3
  have bqd : Below w1.heap.size w1 wq.drew := below_drewN bq 1
  clear x1 x2 x3 bq
  have y0 := x1d.cells.c0
  have y13 := x1d.cells.c13
  obtain ⟨E1, hE1⟩ : ∃ E1, (if c = f then some (⟨rb, ro, none⟩ : Addr) else some ⟨rb, ro + f, none⟩) = E1 := ⟨_, rfl⟩
  obtain ⟨E2, hE2⟩ : ∃ E2, (if c = t then some (⟨rb, ro, none⟩ : Addr) else some ⟨rb, ro + t, none⟩) = E2 := ⟨_, rfl⟩
  have s1 : IntKind.i64.wrap ((t : Int) - k) = (t : Int) - k := IntWalk.i64_in _ (by omega)
  have hnc := HS.out.cr
  have t1 : (0 : Int) ≤ (t : Int) - k := by omega
  have t2 : ((t : Int) - k).toNat = t - k := by omega
  have t3 : (f : Int) ≤ (t : Int) - k := by omega
  have t4 : (f : Int) ≤ (c : Int) := by omega
  have t5 : (t : Int) ≤ (c : Int) := by omega
  have t6 : (t : Int) ≤ (n : Int) := by omega
  have t7 : (t : Int) - k ≤ (c : Int) := by omega
  have t8 : f ≤ t - k := by omega
  have t9 : (k : Int) ≤ (t : Int) := by omega
  obtain ⟨vs, hvs, hrv⟩ := HS.out.rows
  have HV := Lib.hid (hrv.1.trans HS.out.nr)
  have HE1 := Lib.hid hE1
  have HE2 := Lib.hid hE2
  have HUL := Lib.hid (downL_len p.w HS.out.nr hkt htn)
  go_region_held3 (fun w' => w'.cell? ⟨w.heap.size, 0, none⟩ = some (.int .i64 p.w) ∧ w'.cell? ⟨w.heap.size, 13, none⟩ = some (.slice (some ⟨rb, ro, none⟩) n c))
    (first
      | with_reducible exact ⟨y0, y13⟩
      | with_reducible exact ⟨y04, y134⟩
      | with_reducible exact ⟨y05, y135⟩
      | with_reducible exact ⟨y06, y136⟩
      | with_reducible exact ⟨y07, y137⟩
      | with_reducible exact ⟨y08, y138⟩
      | fail)
    (first
      | (go_at_call 88
         (with_reducible refine (gblanks_any p.w k _ (by omega)).mono ?_)
         rintro e w4 ⟨g4, rfl, hl4, hb4⟩
         have hz4 := hb4.size
         have bq4 : Below w1.heap.size w1 w4 := bqd.trans (hb4.mono bqd.size)
         obtain ⟨bvs, hbt, hbr⟩ := hl4
         have HB4 := Lib.hid hbr.1
         have hT4 := fun (w5 : World) (h : Below w4.heap.size w4 w5) => tabs4d ((hvs.below b1 (Nat.le_refl _)).below (bq4.trans (h.mono bq4.size)) (Nat.le_refl _)) HV.out hnc hkt htn HE1.out HE2.out ((hbt.weak (Nat.zero_le _)).below h (Nat.le_refl _)) HB4.out
         have HT4 := Lib.hid hT4
         have hr4 : ∀ w5, Below w4.heap.size w4 w5 → RowsV 0 w5 [vs.take f, bvs, (vs.take (t - k)).drop f, vs.drop t].flatten (downL L f t k p.w) := fun w5 h => by
           have hx := (hrv.below b1 (Nat.le_refl _)).below (bq4.trans (h.mono bq4.size)) (Nat.le_refl _)
           exact (hx.take f).append (((hbr.weak (Nat.zero_le _)).below h (Nat.le_refl _)).append (((hx.take (t - k)).drop f).append ((hx.drop t).append (RowsV.nil _ _))))
         have HR4 := Lib.hid hr4
         have x14 := x1d.below hb4 (by exact x1d.lt)
         have x24 := x2d.below hb4 (by exact x2d.lt)
         have x34 := x3d.below hb4 (by exact x3d.lt)
         have y04 := x14.cells.c0
         have y134 := x14.cells.c13
         have x15 := x14.alloc (.cells #[.slice (some ⟨rb, ro, none⟩) f c, .slice (some ⟨g4, 0, none⟩) (blankL p.w k).length (blankL p.w k).length, .slice E1 (t - k - f) (c - f), .slice E2 (n - t) (c - t)] 33)
         have y05 := x15.cells.c0
         have y135 := x15.cells.c13
         clear hbt hbr hT4 hr4)
      | (go_at_call 135
         have b45 : Below w4.heap.size w4 (w4.alloc (.cells #[.slice (some ⟨rb, ro, none⟩) f c, .slice (some ⟨g4, 0, none⟩) (blankL p.w k).length (blankL p.w k).length, .slice E1 (t - k - f) (c - f), .slice E2 (n - t) (c - t)] 33)) := (Below.refl _ _).alloc (Nat.le_refl _) _
         refine (concat_any _ _ [vs.take f, bvs, (vs.take (t - k)).drop f, vs.drop t] _ (Held.new _ _ _) (HT4.out _ b45) (HR4.out _ b45).one_cell (by rw [(HR4.out _ b45).1, HUL.out]; omega) (by simp)).mono ?_
         rintro e w6 ⟨v6, rfl, ho6, hb6⟩
         have b46 : Below w4.heap.size w4 w6 := b45.trans (hb6.mono (by simp))
         have x16 := x14.below b46 x14.lt
         have x26 := x24.below b46 x24.lt
         have x36 := x34.below b46 x34.lt
         have y06 := x16.cells.c0
         have y136 := x16.cells.c13)
      | (go_at_call 92
         refine (own_ownO _ _ _ _ _ _ ho6 (HR4.out _ b46) (by rw [HUL.out]; omega) (downL_rows hl)).mono ?_
         rintro e w7 ⟨g7, rfl, hl7, hb7⟩
         have x17 := x16.below hb7 x16.lt
         have x27 := x26.below hb7 x26.lt
         have x37 := x36.below hb7 x36.lt
         have y07 := x17.cells.c0
         have y137 := x17.cells.c13
         have x18 := x17.far (q := ⟨w1.heap.size, 13, none⟩) (by exact (by omega : w.heap.size ≠ w1.heap.size)) (.slice (some ⟨g7, 0, none⟩) (downL L f t k p.w).length (downL L f t k p.w).length)
         have y08 := x18.cells.c0
         have y138 := x18.cells.c13
         have z13 := x37.cells.c13
         have zf := x37.cells.free))
  have hq6 : w1.heap.size < w6.heap.size := x36.lt
  have x28 := x27.far (q := ⟨w1.heap.size, 13, none⟩) (by exact (by omega : w.heap.size + 1 ≠ w1.heap.size)) (.slice (some ⟨g7, 0, none⟩) (downL L f t k p.w).length (downL L f t k p.w).length)
  have x38 := x37.set_rows (.slice (some ⟨g7, 0, none⟩) (downL L f t k p.w).length (downL L f t k p.w).length)
  have l8 := hl7.far (p := ⟨w1.heap.size, 13, none⟩) (by exact hq6) (.slice (some ⟨g7, 0, none⟩) (downL L f t k p.w).length (downL L f t k p.w).length)
  have b47 : Below w1.heap.size w1 w7 := (bq4.trans (b46.mono bq4.size)).trans (hb7.mono (by omega))
  have b8 := b47.setCell (p := ⟨w1.heap.size, 13, none⟩) (by exact Nat.le_refl _) (.slice (some ⟨g7, 0, none⟩) (downL L f t k p.w).length (downL L f t k p.w).length)
  have hw6 := b46.size
  have hw4 := bq4.size
  clear y08 y138 z13 zf y07 y137 x17 x27 x37 hl7 hb7 b47
  generalize (w7.setCell ⟨w1.heap.size, 13, none⟩ (.slice (some ⟨g7, 0, none⟩) (downL L f t k p.w).length (downL L f t k p.w).length)) = w8 at *
  clear x16 x26 x36 y06 y136 ho6 hb6 b45 x15 y05 y135 x14 x24 x34 y04 y134 hb4 bqd x1d x2d x3d y0 y13
  have HO8 : Hid (Calls Try.prog 92 #[.slice E m d] w8 (OLPost w8 Bk)) := by
    show Calls _ _ _ _ _
    rw [← HS.out.nb]
    exact gownO_any E d _ w8 ((HS.out.back.below b1 (Nat.le_refl _)).below b8 (Nat.le_refl _)) (by rw [HS.out.nb]; omega) hlb
  have y148 := x18.cells.c14
  go_wp2_with fail
  refine HO8.out.mono ?_
  rintro e w9 ⟨g9, rfl, l9, hb9⟩
  have hne : g7 ≠ g9 := by have := l8.lt; have := l9.low; omega
  have x29 := x28.below hb9 x28.lt
  have x39 := x38.below hb9 x38.lt
  have l89 := l8.below hb9 (Nat.le_refl _)
  have y14 := x39.cells.c14
  have yf := x39.cells.free
  have hq8 := x38.lt
  have b9 : Below w1.heap.size w1 w9 := b8.trans (hb9.mono b8.size)
  have x2a := x29.far (q := ⟨w1.heap.size, 14, none⟩) (by exact (by omega : w.heap.size + 1 ≠ w1.heap.size)) (.slice (some ⟨g9, 0, none⟩) (Bk).length (Bk).length)
  have x3a := x39.set_back (.slice (some ⟨g9, 0, none⟩) (Bk).length (Bk).length)
  have l8a := l89.far (p := ⟨w1.heap.size, 14, none⟩) (by exact hq6) (.slice (some ⟨g9, 0, none⟩) (Bk).length (Bk).length)
  have l9a := l9.far (p := ⟨w1.heap.size, 14, none⟩) (by exact hq8) (.slice (some ⟨g9, 0, none⟩) (Bk).length (Bk).length)
  have ba := b9.setCell (p := ⟨w1.heap.size, 14, none⟩) (by exact Nat.le_refl _) (.slice (some ⟨g9, 0, none⟩) (Bk).length (Bk).length)
  have s9 := hb9.size
  go_upto_region 6 with fail
  clear y14 yf x29 x39 l89 l9 x28 x38 l8 b9 hb9 b8
  generalize (w9.setCell ⟨w1.heap.size, 14, none⟩ (.slice (some ⟨g9, 0, none⟩) (Bk).length (Bk).length)) = wa at *
  have HZ := Lib.hid (put15_box x2a (p := p) (.slice (some ⟨g7, 0, none⟩) (downL L f t k p.w).length (downL L f t k p.w).length) (.slice (some ⟨g9, 0, none⟩) (Bk).length (Bk).length)).cells
  have hc2 := x2a.cells
  have hc3 := x3a.cells
  simp only [zeroNm] at hc2
  obtain ⟨a0, a1, a2, a3, a4, a5, a6, a7, a8, a9, a10, a11, a12, a13, a14, af⟩ := hc2
  obtain ⟨y0, y1, y2, y3, y4, y5, y6, y7, y8, y9, y10, y11, y12, y13, y14, yf⟩ := hc3
  have HL8 := Lib.hid (l8a.put15 (g := w.heap.size + 1) (by omega) p (.slice (some ⟨g7, 0, none⟩) (downL L f t k p.w).length (downL L f t k p.w).length) (.slice (some ⟨g9, 0, none⟩) (Bk).length (Bk).length))
  have HL9 := Lib.hid (l9a.put15 (g := w.heap.size + 1) (by omega) p (.slice (some ⟨g7, 0, none⟩) (downL L f t k p.w).length (downL L f t k p.w).length) (.slice (some ⟨g9, 0, none⟩) (Bk).length (Bk).length))
  have hBA := put15_below (b1.trans (ba.mono b1.size)) (Nat.le_succ _) p (.slice (some ⟨g7, 0, none⟩) (downL L f t k p.w).length (downL L f t k p.w).length) (.slice (some ⟨g9, 0, none⟩) (Bk).length (Bk).length)
  have hs1 := b1.size
  have hzz := x2a.lt
  clear x2a x3a l8a l9a
  go_wp2_with fail
  change bodyPost _ _ _ _ _ (put15 wa (w.heap.size + 1) p (.slice (some ⟨g7, 0, none⟩) (downL L f t k p.w).length (downL L f t k p.w).length) (.slice (some ⟨g9, 0, none⟩) (Bk).length (Bk).length))
  clear a0 a1 a2 a3 a4 a5 a6 a7 a8 a9 a10 a11 a12 a13 a14 af y0 y1 y2 y3 y4 y5 y6 y7 y8 y9 y10 y11 y12 y13 y14 yf
  generalize (put15 wa (w.heap.size + 1) p (.slice (some ⟨g7, 0, none⟩) (downL L f t k p.w).length (downL L f t k p.w).length) (.slice (some ⟨g9, 0, none⟩) (Bk).length (Bk).length)) = wz at *
  obtain ⟨y0, y1, y2, y3, y4, y5, y6, y7, y8, y9, y10, y11, y12, y13, y14, yf⟩ := HZ.out
  refine bodyPost_ret (v := gv p (.slice (some ⟨g7, 0, none⟩) (downL L f t k p.w).length (downL L f t k p.w).length) (.slice (some ⟨g9, 0, none⟩) (Bk).length (Bk).length)) (by simp [results, Try.results100, go_sem, gv, gcs, y0, y1, y2, y3, y4, y5, y6, y7, y8, y9, y10, y11, y12, y13, y14]) rfl ?_
  exact ⟨g7, g9, rfl, ⟨HL8.out.weak (by omega), HL9.out.weak (by omega), hne⟩, hBA⟩
theorem down_any (p : Nm) (D E : Option Addr) (n c m d : Nat) (L Bk : List (List C)) (top bottom z : Int) (w : World) (hs : Scr 0 w D E n c m d L Bk) (h0 : 1 ≤ n) (hn : n ≤ 1000) (hm : m ≤ 50) (hl : ∀ r ∈ L, r.length ≤ 1000) (hlb : ∀ r ∈ Bk, r.length ≤ 1000) :
    Calls Try.prog 100 #[gv p (.slice D n c) (.slice E m d), .int .i64 top, .int .i64 bottom, .int .i64 z] w
      (GridPost w p (downL L (fromF n top) (toF n top bottom) (withinF z (toF n top bottom - fromF n top)).toNat p.w) Bk) :=
  (downO_any p D E n c m d L Bk top bottom z w hs h0 hn hm hl hlb).mono fun _ _ ⟨_, _, e, s, b⟩ => ⟨_, _, _, _, _, _, e, s.scr, b⟩
end Go.Proofs.Ytpcpmeihebgncaa
