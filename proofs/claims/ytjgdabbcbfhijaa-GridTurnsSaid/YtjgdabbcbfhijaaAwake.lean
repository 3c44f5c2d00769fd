/-
  That the small check 'awake' at the end of every statement of this seat answers true. Conditions: none.
-/
import Derived.Test.YtjgdabbcbfhijaaDown
import Derived.Test.YtjgdabbcbfhijaaResize
import Derived.Test.YtjgdabbcbfhijaaWas
import Derived.Test.YtjgdabbcbfhijaaSame2
import Derived.Test.YtjgdabbcbfhijaaWhole
namespace Go.Proofs.Ytjgdabbcbfhijaa
open Go.RowKit

def bl2 : List C := [⟨32, 0⟩, ⟨32, 0⟩]
def ab2 : List C := [⟨97, 0⟩, ⟨98, 0⟩]
theorem aw1 : blankL (sideF 2) (sideF 3).toNat = [bl2, bl2, bl2] := rfl
theorem aw2 : newNm (sideF 2) (sideF 3) = newNm 2 3 := rfl
theorem aw3 : upL [ab2, bl2, bl2] (fromF 3 0) (toF 3 0 1) (withinF 1 (toF 3 0 1 - fromF 3 0)).toNat 2 = [bl2, bl2, bl2] := rfl
theorem aw4 : upBack [ab2, bl2, bl2] [] (fromF 3 0) (withinF 1 (toF 3 0 1 - fromF 3 0)).toNat = [ab2] := rfl
theorem aw5 : downL [ab2, bl2, bl2] (fromF 3 0) (toF 3 0 9) (withinF 1 (toF 3 0 9 - fromF 3 0)).toNat 2 = [bl2, ab2, bl2] := rfl
theorem aw6 : (fittedF [bl2, bl2, bl2] (sideF 3) (sideF 1).toNat).length = 1 := rfl
theorem aw7 : (newNm (sideF 0) (sideF 2000)).h = 1000 := rfl

/-- A screen's height, off a screen as a value. -/
theorem field_h (q0 q1 q2 q3 : Int) (q4 : Bool) (q5 q6 q7 q8 q9 q10 : Int) (q11 q12 : Bool) (D E : Option Addr) (n c m d : Nat) (w : World) :
    (Instr.field 25 (.agg #[.int .i64 q0, .int .i64 q1, .int .i64 q2, .int .i64 q3, .bool q4, .int .i64 q5, .int .i64 q6, .int .i64 q7, .int .i64 q8, .int .i64 q9, .int .i64 q10, .bool q11, .bool q12, .slice D n c, .slice E m d]) 1).run Try.prog w = .ok (.int .i64 q1) w := by kernel_rfl
/-- A screen a thousand rows high. -/
def BigPost (w : World) (e : Ending) (w' : World) : Prop := ∃ (p : Nm) (D E : Option Addr) (n c m d : Nat), e = .returned (gv p (.slice D n c) (.slice E m d)) ∧ p.h = 1000 ∧ Below w.heap.size w w'
theorem big_any (w : World) : Calls Try.prog 24 #[.int .i64 0, .int .i64 2000] w (BigPost w) :=
  (gnew_any 0 2000 w).mono fun _ _ ⟨_, _, _, _, _, _, h, _, hb⟩ => ⟨_, _, _, _, _, _, _, h, aw7, hb⟩

def TrueBelow (w : World) (e : Ending) (w' : World) : Prop := e = .returned (.bool true) ∧ Below w.heap.size w w'

set_option maxRecDepth 100000 in
set_option maxHeartbeats 4000000 in
theorem awake_any (w : World) : Calls Try.prog 11 #[] w (TrueBelow w) := by
  have HN := Lib.hid (fun w => gnew_any 2 3 w)
  rw [aw1, aw2] at HN
  go_enter Try.func11, Try.ntmps11
  go_upto_region 2 with (first
   | (with_reducible refine wpList_storeB (x := .tmp 1) (y := .tmp 5) (p := newNm 2 3) (D := D0) (E := E) (n := 3) (c := c) (m := 0) (d := d) ?_ ?_ ?_ ?_ ?_ ?_
      · with_reducible rfl
      · rfl
      · rfl
      · rfl
      · rfl)
   | (go_at_call 24
      refine (HN.out _).mono ?_
      rintro e w1 ⟨D0, E, n, c, m, d, rfl, hs, hb1⟩
      obtain rfl : 3 = n := hs.nr
      obtain rfl : 0 = m := hs.nb))
  obtain ⟨tb, tq, rfl⟩ := hs.some (by decide)
  refine wp_world (fun wr => Box wr w1.heap.size (newNm 2 3) (.slice (some ⟨tb, tq, none⟩) 3 c) (.slice E 0 d) ∧ Scr w.heap.size wr (some ⟨tb, tq, none⟩) E 3 c 0 d [bl2, bl2, bl2] [] ∧ Below w.heap.size w wr ∧ tb < w1.heap.size)
    ⟨Box.new _ (newNm 2 3) _ _, hs.below ((Below.refl _ _).alloc (Nat.le_refl _) _) (Nat.le_refl _), hb1.alloc hb1.size _, ?_⟩ ?_
  · obtain ⟨_, _, _, _, e0, _, htl, _⟩ := hs.rows.at 0 (by decide)
    cases e0
    exact htl
  clear hs
  rintro wr ⟨x1, hs, b1, htl⟩
  obtain ⟨_, _, R0, c0, e0, htB, _, htf, htc, _, _⟩ := hs.rows.at 0 (by decide)
  cases e0
  have tc1 : wr.cell? ⟨tb, tq, none⟩ = some (.slice R0 2 c0) := htc
  have tf1 : ∀ o, wr.frozen? ⟨tb, o, none⟩ = false := htf
  clear htc htf
  have y0 := x1.cells.c0
  have y1 := x1.cells.c1
  have y7 := x1.cells.c7
  have y13 := x1.cells.c13
  simp only [newNm] at y0 y1 y7
  have hz1 := x1.lt
  go_upto_region 5 with fail
  clear y0 y1 y7 y13
  have ew : (wr.setCell ⟨tb, tq, none⟩ (.slice (some ⟨wr.heap.size, 0, none⟩) 2 2)).alloc (.cells (cvs ab2).toArray 35) = (wr.alloc (.cells (cvs ab2).toArray 35)).setCell ⟨tb, tq, none⟩ (.slice (some ⟨wr.heap.size, 0, none⟩) 2 2) := by
    rw [World.setCell_alloc_past _ _ _ _ (by omega)]
  change Code.wp _ _ _ _ ((wr.setCell ⟨tb, tq, none⟩ (.slice (some ⟨wr.heap.size, 0, none⟩) 2 2)).alloc (.cells (cvs ab2).toArray 35))
  rw [ew]
  clear ew
  refine wp_world (fun wq => Box wq w1.heap.size (newNm 2 3) (.slice (some ⟨tb, tq, none⟩) 3 c) (.slice E 0 d) ∧ Scr 0 wq (some ⟨tb, tq, none⟩) E 3 c 0 d [ab2, bl2, bl2] [] ∧ Below w.heap.size w wq) ⟨?_, ?_, ?_⟩ ?_
  · exact (x1.alloc _).far (q := ⟨tb, tq, none⟩) (by exact (by omega : w1.heap.size ≠ tb)) _
  · have hrow : Row (wr.alloc (.cells (cvs ab2).toArray 35)) wr.heap.size ab2 := Held.new wr 35 (cvs ab2).toArray
    have l1 := ((hs.rows.weak (Nat.zero_le _)).below ((Below.refl _ _).alloc (Nat.le_refl _) _) (Nat.le_refl _)).set 0 (by decide) (Nat.le_refl _) (hrow.at (Nat.zero_le _))
    exact ⟨l1, Lines.nil _ _ _, rfl, rfl, hs.cr, hs.cb⟩
  · exact (b1.alloc b1.size _).setCell (p := ⟨tb, tq, none⟩) (by exact htB) _
  clear hs tc1 tf1 x1 b1 hz1
  rintro wq ⟨x1, s1, b1⟩
  have hlr : ∀ r ∈ [ab2, bl2, bl2], r.length ≤ 1000 := by
    intro r hr
    simp only [List.mem_cons, List.not_mem_nil, or_false] at hr
    rcases hr with rfl | rfl | rfl <;> decide
  have HU : Hid (∀ wq, Scr 0 wq (some ⟨tb, tq, none⟩) E 3 c 0 d [ab2, bl2, bl2] [] → Calls Try.prog 7 #[gv (newNm 2 3) (.slice (some ⟨tb, tq, none⟩) 3 c) (.slice E 0 d), .int .i64 0, .int .i64 1, .int .i64 1] wq (GridPost wq (newNm 2 3) [bl2, bl2, bl2] [ab2])) := fun wq hs => by
    have := up_any (newNm 2 3) _ _ 3 c 0 d _ _ 0 1 1 wq hs (by decide) (by decide) (by decide) hlr (by simp)
    rw [show (newNm 2 3).w = 2 from rfl, aw3, aw4] at this
    exact this
  have HD : Hid (∀ wq, Scr 0 wq (some ⟨tb, tq, none⟩) E 3 c 0 d [ab2, bl2, bl2] [] → Calls Try.prog 8 #[gv (newNm 2 3) (.slice (some ⟨tb, tq, none⟩) 3 c) (.slice E 0 d), .int .i64 0, .int .i64 9, .int .i64 1] wq (GridPost wq (newNm 2 3) [bl2, ab2, bl2] [])) := fun wq hs => by
    have := down_any (newNm 2 3) _ _ 3 c 0 d _ _ 0 9 1 wq hs (by decide) (by decide) (by decide) hlr (by simp)
    rw [show (newNm 2 3).w = 2 from rfl, aw5] at this
    exact this
  have hz1 := x1.lt
  go_upto_region 6 with (first
   | (with_reducible refine wpList_loadB x1 (x := .tmp 1) ?_ ?_ ?_ ?_
      · with_reducible rfl
      · rfl
      · rfl)
   | (with_reducible refine wpList_storeB (x := .tmp 2) (y := .tmp 32) (p := newNm 2 3) (D := D2) (E := E2) (n := 3) (c := c2) (m := 1) (d := d2) ?_ ?_ ?_ ?_ ?_ ?_
      · with_reducible rfl
      · rfl
      · rfl
      · rfl
      · rfl)
   | (go_at_call 7
      refine (HU.out wq s1).mono ?_
      rintro e w2 ⟨D2, E2, n2, c2, m2, d2, rfl, s2, hb2⟩
      obtain rfl : 3 = n2 := s2.nr
      obtain rfl : 1 = m2 := s2.nb))
  refine wp_world (fun wr => Box wr w1.heap.size (newNm 2 3) (.slice (some ⟨tb, tq, none⟩) 3 c) (.slice E 0 d) ∧ Box wr w2.heap.size (newNm 2 3) (.slice D2 3 c2) (.slice E2 1 d2) ∧ Scr 0 wr (some ⟨tb, tq, none⟩) E 3 c 0 d [ab2, bl2, bl2] [] ∧ Scr 0 wr D2 E2 3 c2 1 d2 [bl2, bl2, bl2] [ab2] ∧ Below w.heap.size w wr)
    ⟨(x1.below hb2 hz1).alloc _, Box.new _ (newNm 2 3) _ _, s1.below (hb2.alloc hb2.size _) (Nat.le_refl _), (s2.weak (Nat.zero_le _)).below ((Below.refl _ _).alloc (Nat.le_refl _) _) (Nat.le_refl _), (b1.trans (hb2.mono b1.size)).alloc (Nat.le_trans b1.size hb2.size) _⟩ ?_
  clear x1 s1 b1 s2 hz1 HU HN
  rintro wr ⟨x1, x2, s1, s2, b1⟩
  have hz1 := x1.lt
  have hz2 := x2.lt
  go_upto_region 7 with (first
   | (with_reducible refine wpList_loadB x1 (x := .tmp 1) ?_ ?_ ?_ ?_
      · with_reducible rfl
      · rfl
      · rfl)
   | (with_reducible refine wpList_storeB (x := .tmp 3) (y := .tmp 34) (p := newNm 2 3) (D := D3) (E := E3) (n := 3) (c := c3) (m := 0) (d := d3) ?_ ?_ ?_ ?_ ?_ ?_
      · with_reducible rfl
      · rfl
      · rfl
      · rfl
      · rfl)
   | (go_at_call 8
      refine (HD.out wr s1).mono ?_
      rintro e w3 ⟨D3, E3, n3, c3, m3, d3, rfl, s3, hb3⟩
      obtain rfl : 3 = n3 := s3.nr
      obtain rfl : 0 = m3 := s3.nb))
  refine wp_world (fun wt => Box wt w1.heap.size (newNm 2 3) (.slice (some ⟨tb, tq, none⟩) 3 c) (.slice E 0 d) ∧ Box wt w2.heap.size (newNm 2 3) (.slice D2 3 c2) (.slice E2 1 d2) ∧ Box wt w3.heap.size (newNm 2 3) (.slice D3 3 c3) (.slice E3 0 d3) ∧ Scr 0 wt (some ⟨tb, tq, none⟩) E 3 c 0 d [ab2, bl2, bl2] [] ∧ Scr 0 wt D2 E2 3 c2 1 d2 [bl2, bl2, bl2] [ab2] ∧ Scr 0 wt D3 E3 3 c3 0 d3 [bl2, ab2, bl2] [] ∧ Below w.heap.size w wt)
    ⟨(x1.below hb3 hz1).alloc _, (x2.below hb3 hz2).alloc _, Box.new _ (newNm 2 3) _ _, s1.below (hb3.alloc hb3.size _) (Nat.le_refl _), s2.below (hb3.alloc hb3.size _) (Nat.le_refl _), (s3.weak (Nat.zero_le _)).below ((Below.refl _ _).alloc (Nat.le_refl _) _) (Nat.le_refl _), (b1.trans (hb3.mono b1.size)).alloc (Nat.le_trans b1.size hb3.size) _⟩ ?_
  clear x1 x2 s1 s2 b1 s3 hz1 hz2 HD
  rintro wt ⟨x1, x2, x3, s1, s2, s3, b1⟩
  have hz1 := x1.lt
  have hz2 := x2.lt
  have hz3 := x3.lt
  have hlu : ∀ r ∈ [ab2], r.length ≤ 1000 := by
    intro r hr
    simp only [List.mem_cons, List.not_mem_nil, or_false] at hr
    subst hr
    decide
  have HR : Hid (Calls Try.prog 14 #[gv (newNm 2 3) (.slice D2 3 c2) (.slice E2 1 d2), .int .i64 3, .int .i64 1] wt (SizedPost wt 3 1 (fittedF [bl2, bl2, bl2] (sideF 3) (sideF 1).toNat) [ab2])) := gresize_any (newNm 2 3) _ _ 3 c2 1 d2 _ _ 3 1 wt s2 (by decide) hlu
  go_upto_region 8 with (first
   | (with_reducible refine wpList_loadB x2 (x := .tmp 2) ?_ ?_ ?_ ?_
      · with_reducible rfl
      · rfl
      · rfl)
   | (with_reducible refine wpList_storeB (x := .tmp 4) (y := .tmp 36) (p := ⟨3, 1, zx, zy, zr, za, zt, zb, zsx, zsy, zsa, zn, zh⟩) (D := D4) (E := E4) (n := 1) (c := c4) (m := 1) (d := d4) ?_ ?_ ?_ ?_ ?_ ?_
      · with_reducible rfl
      · rfl
      · rfl
      · rfl
      · rfl)
   | (go_at_call 14
      refine HR.out.mono ?_
      rintro e w4 ⟨⟨zw0, zh0, zx, zy, zr, za, zt, zb, zsx, zsy, zsa, zn, zh⟩, hpw, hph, D4, E4, n4, c4, m4, d4, rfl, s4, hb4⟩
      obtain rfl : 1 = n4 := s4.nr
      obtain rfl : 1 = m4 := s4.nb
      simp only at hpw hph
      subst hpw hph))
  refine wp_world (fun wu => Box wu w1.heap.size (newNm 2 3) (.slice (some ⟨tb, tq, none⟩) 3 c) (.slice E 0 d) ∧ Box wu w2.heap.size (newNm 2 3) (.slice D2 3 c2) (.slice E2 1 d2) ∧ Box wu w3.heap.size (newNm 2 3) (.slice D3 3 c3) (.slice E3 0 d3) ∧ Box wu w4.heap.size ⟨3, 1, zx, zy, zr, za, zt, zb, zsx, zsy, zsa, zn, zh⟩ (.slice D4 1 c4) (.slice E4 1 d4) ∧ Scr 0 wu (some ⟨tb, tq, none⟩) E 3 c 0 d [ab2, bl2, bl2] [] ∧ Scr 0 wu D2 E2 3 c2 1 d2 [bl2, bl2, bl2] [ab2] ∧ Scr 0 wu D3 E3 3 c3 0 d3 [bl2, ab2, bl2] [] ∧ Below w.heap.size w wu)
    ⟨(x1.below hb4 hz1).alloc _, (x2.below hb4 hz2).alloc _, (x3.below hb4 hz3).alloc _, Box.new _ ⟨3, 1, zx, zy, zr, za, zt, zb, zsx, zsy, zsa, zn, zh⟩ _ _, s1.below (hb4.alloc hb4.size _) (Nat.le_refl _), s2.below (hb4.alloc hb4.size _) (Nat.le_refl _), s3.below (hb4.alloc hb4.size _) (Nat.le_refl _), (b1.trans (hb4.mono b1.size)).alloc (Nat.le_trans b1.size hb4.size) _⟩ ?_
  clear x1 x2 x3 s1 s2 s3 b1 s4 hz1 hz2 hz3 HR
  rintro wu ⟨x1, x2, x3, x4, s1, s2, s3, b1⟩
  have hz1 := x1.lt
  have hz2 := x2.lt
  have HT : Hid (Calls Try.prog 25 #[gv (newNm 2 3) (.slice (some ⟨tb, tq, none⟩) 3 c) (.slice E 0 d), gv (newNm 2 3) (.slice (some ⟨tb, tq, none⟩) 3 c) (.slice E 0 d)] wu (BoolPost true wu)) := same_true (newNm 2 3) _ _ _ _ 3 c 0 d c d _ _ wu s1 s1 (by decide) (by decide) hlr (by simp)
  have HF : Hid (∀ wv, Below wu.heap.size wu wv → Calls Try.prog 25 #[gv (newNm 2 3) (.slice (some ⟨tb, tq, none⟩) 3 c) (.slice E 0 d), gv (newNm 2 3) (.slice D2 3 c2) (.slice E2 1 d2)] wv (BoolPost false wv)) := fun wv hb =>
    same_false (newNm 2 3) _ _ _ _ 3 c 0 d c2 1 d2 ⟨97, 0⟩ ⟨32, 0⟩ [⟨98, 0⟩] [⟨32, 0⟩] [bl2, bl2] [bl2, bl2] wv (s1.rows.below hb (Nat.le_refl _)) (s2.rows.below hb (Nat.le_refl _)) rfl (by decide) rfl (by decide) (by decide)
  have HN : Hid (∀ w, Calls Try.prog 24 #[.int .i64 0, .int .i64 2000] w (BigPost w)) := fun w => big_any w
  obtain ⟨eb, eo, F, cF, rfl, _, _, _, k1, _, kr⟩ := s2.back.at 0 (by decide)
  obtain ⟨fb, fo, rfl, _, _, _, k2, _⟩ := kr 1 (by decide)
  obtain ⟨db, dq, G, cG, rfl, _, _, _, k3, _, ks⟩ := s2.rows.at 0 (by decide)
  obtain ⟨gb, gq, rfl, _, _, _, k4, _⟩ := ks 0 (by decide)
  obtain ⟨ib, iq, H, cH, rfl, _, _, _, k5, _, kt⟩ := s3.rows.at 1 (by decide)
  obtain ⟨jb, jq, rfl, _, _, _, k6, _⟩ := kt 0 (by decide)
  have k1' : wu.cell? ⟨eb, eo, none⟩ = some (.slice (some ⟨fb, fo, none⟩) 2 cF) := k1
  have k2' : wu.cell? ⟨fb, fo + 2, none⟩ = some (.int .i32 98) := k2
  have k3' : wu.cell? ⟨db, dq, none⟩ = some (.slice (some ⟨gb, gq, none⟩) 2 cG) := k3
  have k4' : wu.cell? ⟨gb, gq, none⟩ = some (.int .i32 32) := k4
  have k5' : wu.cell? ⟨ib, iq + 1, none⟩ = some (.slice (some ⟨jb, jq, none⟩) 2 cH) := k5
  have k6' : wu.cell? ⟨jb, jq, none⟩ = some (.int .i32 97) := k6
  clear k1 k2 k3 k4 k5 k6 kr ks kt s1 s2 s3 hlr hlu
  have u13 := x2.cells.c13
  have u14 := x2.cells.c14
  have d13 := x3.cells.c13
  have d14 := x3.cells.c14
  have v0 := x4.cells.c0
  have v1 := x4.cells.c1
  have v13 := x4.cells.c13
  have v14 := x4.cells.c14
  clear x3 x4
  go_wp2_with (first
   | (with_reducible refine wpList_loadB x1 (x := .tmp 1) ?_ ?_ ?_ ?_
      · with_reducible rfl
      · rfl
      · rfl)
   | (with_reducible refine wpList_loadB x15 (x := .tmp 1) ?_ ?_ ?_ ?_
      · with_reducible rfl
      · rfl
      · rfl)
   | (with_reducible refine wpList_loadB x25 (x := .tmp 2) ?_ ?_ ?_ ?_
      · with_reducible rfl
      · rfl
      · rfl)
   | (go_at_call 25
      refine HT.out.mono ?_
      rintro e w5 ⟨rfl, hb5⟩
      clear HT
      have x15 := x1.below hb5 hz1
      have x25 := x2.below hb5 hz2)
   | (go_at_call 25
      refine (HF.out _ hb5).mono ?_
      rintro e w6 ⟨rfl, hb6⟩)
   | (go_at_call 24
      refine (HN.out _).mono ?_
      rintro e w7 ⟨⟨q0, q1, q2, q3, q4, q5, q6, q7, q8, q9, q10, q11, q12⟩, D7, E7, n7, c7, m7, d7, rfl, hq7, hb7⟩
      simp only at hq7
      subst hq7
      unfold gv gcs
      have hfd := field_h q0 1000 q2 q3 q4 q5 q6 q7 q8 q9 q10 q11 q12 D7 E7 n7 c7 m7 d7 w7))
  go_ret
  exact ⟨rfl, b1.trans ((hb5.trans ((hb6.trans (hb7.mono hb6.size)).mono hb5.size)).mono b1.size)⟩
end Go.Proofs.Ytjgdabbcbfhijaa
