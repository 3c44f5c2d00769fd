/-
  That the small check 'awake' at the end of every statement of this seat answers true. Conditions: none.
-/
import Derived.Test.YtpcpmeihebgncaaB6
import Derived.Test.YtpcpmeihebgncaaNew
namespace Go.Proofs.Ytpcpmeihebgncaa
open Go.RowKit
set_option maxRecDepth 100000

def P0 : Nm := ⟨2, 2, 0, 0, false, 0, 0, 1, 0, 0, 0, false, false⟩
def P1 : Nm := ⟨2, 2, 1, 0, false, 0, 0, 1, 0, 0, 0, false, false⟩
def P2 : Nm := ⟨2, 2, 1, 0, true, 0, 0, 1, 0, 0, 0, false, false⟩
def P2x : Nm := ⟨2, 2, 0, 0, true, 0, 0, 1, 0, 0, 0, false, false⟩
def P2y : Nm := ⟨2, 2, 0, 1, true, 0, 0, 1, 0, 0, 0, false, false⟩
def P3 : Nm := ⟨2, 2, 1, 1, false, 0, 0, 1, 0, 0, 0, false, false⟩
def bl2 : List C := [⟨32, 0⟩, ⟨32, 0⟩]
def ar2 : List C := [⟨97, 0⟩, ⟨32, 0⟩]
def ab2 : List C := [⟨97, 0⟩, ⟨98, 0⟩]
def cr2 : List C := [⟨99, 0⟩, ⟨32, 0⟩]
theorem aw0 : newNm (heldF 2 1 1000) (heldF 2 1 1000) = P0 := rfl
theorem aw0L : blankL (heldF 2 1 1000) (heldF 2 1 1000).toNat = [bl2, bl2] := rfl
theorem aw1 : printNm P0 = P1 := rfl
theorem aw1L : [bl2, bl2].set 0 (putF [bl2, bl2][0] P0.x ⟨97, P0.a⟩) = [ar2, bl2] := rfl
theorem aw2 : printNm P1 = P2 := rfl
theorem aw2L : [ar2, bl2].set 0 (putF [ar2, bl2][0] P1.x ⟨98, P1.a⟩) = [ab2, bl2] := rfl
theorem aw3 : printNm P2y = P3 := rfl
theorem aw3L : [ab2, bl2].set 1 (putF [ab2, bl2][1] P2y.x ⟨99, P2y.a⟩) = [ab2, cr2] := rfl
theorem aw4L : scrF ([ab2, cr2].set 1 (rclearF [ab2, cr2][1] 1 P3.x)) 1 1 [ab2, cr2].length = [bl2, bl2] := rfl
theorem On.p0 : On P0 := ⟨by decide, by decide, by decide, by decide, by decide, by decide, by decide, by decide⟩
theorem On.p1 : On P1 := ⟨by decide, by decide, by decide, by decide, by decide, by decide, by decide, by decide⟩
theorem On.p2y : On P2y := ⟨by decide, by decide, by decide, by decide, by decide, by decide, by decide, by decide⟩
theorem two_le {a b : List C} (ha : a.length ≤ 1000) (hb : b.length ≤ 1000) : ∀ r ∈ [a, b], r.length ≤ 1000 := by
  intro r hr
  simp only [List.mem_cons, List.not_mem_nil, or_false] at hr
  rcases hr with rfl | rfl <;> assumption
theorem none_le : ∀ r ∈ ([] : List (List C)), r.length ≤ 1000 := by simp
/-- An action without parameters. -/
def av (k r : Int) (v : Value) : Value := .agg #[.int .i64 k, .int .i32 r, v]

theorem aw_a (D E : Option Addr) (c d : Nat) (w : World) (hs : Scr 0 w D E 2 c 0 d [bl2, bl2] []) : Calls Try.prog 14 #[gv P0 (.slice D 2 c) (.slice E 0 d), av 1 97 nilV] w (GridPost w P1 [ar2, bl2] []) := by
  refine app_print P0 P1 D E none 2 c 0 d 0 0 _ _ _ _ 97 w hs (by decide) (by decide) (two_le (by decide) (by decide)) none_le fun B wx g h hb ho => ?_
  have := printed_any B P0 P0 g h _ _ [bl2, bl2] [] 97 0 wx ho (.inl ⟨rfl, rfl, rfl, rfl⟩) On.p0 rfl (by decide) (by decide)
  rwa [aw1, aw1L] at this
theorem aw_b (D E : Option Addr) (c d : Nat) (w : World) (hs : Scr 0 w D E 2 c 0 d [ar2, bl2] []) : Calls Try.prog 14 #[gv P1 (.slice D 2 c) (.slice E 0 d), av 1 98 nilV] w (GridPost w P2 [ab2, bl2] []) := by
  refine app_print P1 P2 D E none 2 c 0 d 0 0 _ _ _ _ 98 w hs (by decide) (by decide) (two_le (by decide) (by decide)) none_le fun B wx g h hb ho => ?_
  have := printed_any B P1 P1 g h _ _ [ar2, bl2] [] 98 0 wx ho (.inl ⟨rfl, rfl, rfl, rfl⟩) On.p1 rfl (by decide) (by decide)
  rwa [aw2, aw2L] at this
theorem aw_c (D E : Option Addr) (c d : Nat) (w : World) (hs : Scr 0 w D E 2 c 0 d [ab2, bl2] []) : Calls Try.prog 14 #[gv P2 (.slice D 2 c) (.slice E 0 d), av 1 99 nilV] w (GridPost w P3 [ab2, cr2] []) := by
  refine app_print P2 P3 D E none 2 c 0 d 0 0 _ _ _ _ 99 w hs (by decide) (by decide) (two_le (by decide) (by decide)) none_le fun B wx g h hb ho => ?_
  have := printed_any B P2 P2y g h [ab2, bl2] [] [ab2, bl2] [] 99 1 wx ho (.inr ⟨rfl, fun wy hby => ?_⟩) On.p2y rfl (by decide) (by decide)
  · rwa [aw3, aw3L] at this
  · refine (line_any P2x _ _ _ _ _ _ wy (by decide) (by decide) (by decide) (by decide)).mono ?_
    rintro e w' ⟨rfl, hb'⟩
    exact ⟨g, h, rfl, (ho.below hby (Nat.le_refl _)).below hb' (Nat.le_refl _), .inl rfl, hb'⟩
theorem aw_J (D E PD : Option Addr) (c d : Nat) (w : World) (hs : Scr 0 w D E 2 c 0 d [ab2, cr2] []) (hr : ReadI w (.slice PD 1 1) [1]) : Calls Try.prog 14 #[gv P3 (.slice D 2 c) (.slice E 0 d), av 4 74 (.slice PD 1 1)] w (GridPost w P3 [bl2, bl2] []) := by
  refine app_csi P3 P3 D E PD 2 c 0 d 1 1 _ _ _ _ 74 w hs (by decide) (by decide) (two_le (by decide) (by decide)) none_le fun B wx g h hb ho => ?_
  refine seq_rw B P3 P3 g h [ab2, cr2] [] [bl2, bl2] [] 74 PD 1 [1] wx ho (hr.below hb (Nat.le_refl _)) (by unfold NotSeq; decide) fun wy hy => ?_
  refine rew_J B P3 g h [ab2, cr2] [] [bl2, bl2] 1 1 wy hy fun wz hz => ?_
  have := screenCleared_any B P3 g h [ab2, cr2] [] 1 1 wz hz (by decide) (by decide) rfl (by decide) (two_le (by decide) (by decide)) (by decide) (.inr (.inl rfl))
  rwa [aw4L] at this
theorem aw_q (D E : Option Addr) (c d : Nat) (w : World) (hs : Scr 0 w D E 2 c 0 d [ab2, cr2] []) : Calls Try.prog 14 #[gv P3 (.slice D 2 c) (.slice E 0 d), av 4 113 nilV] w (GridPost w P3 [ab2, cr2] []) := by
  refine app_csi P3 P3 D E none 2 c 0 d 0 0 _ _ _ _ 113 w hs (by decide) (by decide) (two_le (by decide) (by decide)) none_le fun B wx g h hb ho => ?_
  refine seq_rw B P3 P3 g h [ab2, cr2] [] _ _ 113 none 0 [] wx ho ⟨none, 0, rfl, fun k hk => by simp at hk⟩ (by unfold NotSeq; decide) fun wy hy => ?_
  exact (rew_no P3 _ _ _ _ _ _ 113 _ _ wy (by unfold NotRew; decide)).mono fun _ _ t => ValPost.into hy t

theorem Scr.bput {B : Nat} {w : World} {k : Nat} {D E : Option Addr} {n c m d : Nat} {L Bk : List (List C)} (hs : Scr B w D E n c m d L Bk) (hk : k < B) (cs : Array Value) : Scr 0 (w.setRow k cs) D E n c m d L Bk :=
  Scr.weak ⟨hs.rows.eq (by simp) fun b hb => setRow_other _ _ _ _ (by omega), hs.back.eq (by simp) fun b hb => setRow_other _ _ _ _ (by omega), hs.nr, hs.nb, hs.cr, hs.cb⟩ (Nat.zero_le _)
set_option maxHeartbeats 4000000 in
theorem awake_any (w : World) : Calls Try.prog 10 #[] w (TrueBelow w) := by
  have HN := Lib.hid (fun w => rnew_any 2 2 w)
  rw [aw0, aw0L] at HN
  go_enter Try.func10, Try.ntmps10
  go_upto_region 2 with (first
   | (with_reducible refine wpList_storeB (x := .tmp 1) (y := .tmp 5) (p := P0) (D := D0) (E := E0) (n := 2) (c := c0) (m := 0) (d := d0) ?_ ?_ ?_ ?_ ?_ ?_
      · with_reducible rfl
      · rfl
      · rfl
      · rfl
      · rfl)
   | (go_at_call 25
      refine (HN.out _).mono ?_
      clear HN
      rintro e w1 ⟨D0, E0, n0, c0, m0, d0, rfl, s0, b0⟩
      obtain rfl : 2 = n0 := s0.nr
      obtain rfl : 0 = m0 := s0.nb))
  have h1z := b0.size
  refine wp_world (fun wq => Box wq w1.heap.size P0 (.slice D0 2 c0) (.slice E0 0 d0) ∧ Scr 0 wq D0 E0 2 c0 0 d0 [bl2, bl2] [] ∧ Below w.heap.size w wq) ⟨Box.new _ P0 _ _, (s0.weak (Nat.zero_le _)).below ((Below.refl _ _).alloc (Nat.le_refl _) _) (Nat.le_refl _), b0.alloc b0.size _⟩ ?_
  clear s0 b0
  rintro wq ⟨x1, s1, b1⟩
  have H0 := Lib.hid (aw_a D0 E0 c0 d0 wq s1)
  have hz1 := x1.lt
  go_upto_region 3 with (first
   | (with_reducible refine wpList_loadB x1 (x := .tmp 1) ?_ ?_ ?_ ?_
      · with_reducible rfl
      · rfl
      · rfl)
   | (go_at_call 14
      refine H0.out.mono ?_
      clear H0
      rintro e w3 ⟨D1, E1, n1, c1, m1, d1, rfl, s3, b3⟩
      obtain rfl : 2 = n1 := s3.nr
      obtain rfl : 0 = m1 := s3.nb
      have x3 := x1.below b3 hz1)
   | (with_reducible refine wpList_storeA x3 (x := .tmp 1) (y := .tmp 8) (p := P1) (D := D1) (E := E1) (n := 2) (c := c1) (m := 0) (d := d1) ?_ ?_ ?_ ?_ ?_
      · with_reducible rfl
      · rfl
      · rfl
      · rfl))
  refine wp_world (fun wq => Box wq w1.heap.size P1 (.slice D1 2 c1) (.slice E1 0 d1) ∧ Scr 0 wq D1 E1 2 c1 0 d1 [ar2, bl2] [] ∧ Below w.heap.size w wq) ⟨x3.setRow _ _ _, s3.bput hz1 _, below_setRow (b1.trans (b3.mono b1.size)) h1z _⟩ ?_
  clear x1 s1 b1 x3 s3 b3 hz1 wq w3
  rintro wq ⟨x1, s1, b1⟩
  have H1 := Lib.hid (aw_b D1 E1 c1 d1 wq s1)
  have hz1 := x1.lt
  go_upto_region 4 with (first
   | (with_reducible refine wpList_loadB x1 (x := .tmp 1) ?_ ?_ ?_ ?_
      · with_reducible rfl
      · rfl
      · rfl)
   | (go_at_call 14
      refine H1.out.mono ?_
      clear H1
      rintro e w3 ⟨D2, E2, n2, c2, m2, d2, rfl, s3, b3⟩
      obtain rfl : 2 = n2 := s3.nr
      obtain rfl : 0 = m2 := s3.nb
      have x3 := x1.below b3 hz1)
   | (with_reducible refine wpList_storeA x3 (x := .tmp 1) (y := .tmp 11) (p := P2) (D := D2) (E := E2) (n := 2) (c := c2) (m := 0) (d := d2) ?_ ?_ ?_ ?_ ?_
      · with_reducible rfl
      · rfl
      · rfl
      · rfl))
  refine wp_world (fun wq => Box wq w1.heap.size P2 (.slice D2 2 c2) (.slice E2 0 d2) ∧ Scr 0 wq D2 E2 2 c2 0 d2 [ab2, bl2] [] ∧ Below w.heap.size w wq) ⟨x3.setRow _ _ _, s3.bput hz1 _, below_setRow (b1.trans (b3.mono b1.size)) h1z _⟩ ?_
  clear x1 s1 b1 x3 s3 b3 hz1 wq w3
  rintro wq ⟨x1, s1, b1⟩
  have u4 := x1.cells.c4
  simp only [P2] at u4
  go_upto_region 5 with fail
  clear u4
  have H2 := Lib.hid (aw_c D2 E2 c2 d2 wq s1)
  have hz1 := x1.lt
  go_upto_region 6 with (first
   | (with_reducible refine wpList_loadB x1 (x := .tmp 1) ?_ ?_ ?_ ?_
      · with_reducible rfl
      · rfl
      · rfl)
   | (go_at_call 14
      refine H2.out.mono ?_
      clear H2
      rintro e w3 ⟨D3, E3, n3, c3, m3, d3, rfl, s3, b3⟩
      obtain rfl : 2 = n3 := s3.nr
      obtain rfl : 0 = m3 := s3.nb
      have x3 := x1.below b3 hz1)
   | (with_reducible refine wpList_storeA x3 (x := .tmp 1) (y := .tmp 16) (p := P3) (D := D3) (E := E3) (n := 2) (c := c3) (m := 0) (d := d3) ?_ ?_ ?_ ?_ ?_
      · with_reducible rfl
      · rfl
      · rfl
      · rfl))
  refine wp_world (fun wq => Box wq w1.heap.size P3 (.slice D3 2 c3) (.slice E3 0 d3) ∧ Scr 0 wq D3 E3 2 c3 0 d3 [ab2, cr2] [] ∧ Below w.heap.size w wq) ⟨x3.setRow _ _ _, s3.bput hz1 _, below_setRow (b1.trans (b3.mono b1.size)) h1z _⟩ ?_
  clear x1 s1 b1 x3 s3 b3 hz1 wq w3
  rintro wq ⟨x1, s1, b1⟩
  obtain ⟨tb, tq, R0, k0, rfl, _, _, _, t0, _, r0⟩ := s1.rows.at 0 (by decide)
  obtain ⟨_, _, R1, k1, e1, _, _, _, t1, _, r1⟩ := s1.rows.at 1 (by decide)
  cases e1
  have t0' : wq.cell? ⟨tb, tq, none⟩ = some (.slice R0 2 k0) := t0
  have t1' : wq.cell? ⟨tb, tq + 1, none⟩ = some (.slice R1 2 k1) := t1
  clear t0 t1
  have u13 := x1.cells.c13
  go_upto_region 8 with fail
  clear u13 t0' t1' r0 r1
  have hz1 := x1.lt
  have sq := s1.below ((Below.refl _ _).alloc (Nat.le_refl _) (.cells #[.int .i64 1] 3)) (Nat.le_refl _)
  have hrd : ReadI (wq.alloc (.cells #[.int .i64 1] 3)) (.slice (some ⟨wq.heap.size, 0, none⟩) 1 1) [1] := ⟨_, _, rfl, fun k hk => by
    obtain rfl : k = 0 := by simp at hk; omega
    exact ⟨_, 0, 1, rfl, by simp, rfl, (Held.new wq 3 #[.int .i64 1]).cell 0⟩⟩
  have H4 := Lib.hid (aw_J (some ⟨tb, tq, none⟩) E3 _ c3 d3 _ sq hrd)
  clear sq hrd
  go_upto_region 9 with (first
   | (with_reducible refine wpList_loadB x1 (x := .tmp 1) ?_ ?_ ?_ ?_
      · with_reducible rfl
      · rfl
      · rfl)
   | (go_at_call 14
      refine H4.out.mono ?_
      clear H4
      rintro e w4 ⟨D4, E4, n4, c4, m4, d4, rfl, s4, b40⟩
      obtain rfl : 2 = n4 := s4.nr
      obtain rfl : 0 = m4 := s4.nb)
   | (with_reducible refine wpList_storeB (x := .tmp 3) (y := .tmp 40) (p := P3) (D := D4) (E := E4) (n := 2) (c := c4) (m := 0) (d := d4) ?_ ?_ ?_ ?_ ?_ ?_
      · with_reducible rfl
      · rfl
      · rfl
      · rfl
      · rfl))
  have b4 : Below wq.heap.size wq w4 := ((Below.refl _ _).alloc (Nat.le_refl _) _).trans (b40.mono (by simp))
  refine wp_world (fun wr => Box wr w1.heap.size P3 (.slice (some ⟨tb, tq, none⟩) 2 c3) (.slice E3 0 d3) ∧ Box wr w4.heap.size P3 (.slice D4 2 c4) (.slice E4 0 d4) ∧ Scr 0 wr (some ⟨tb, tq, none⟩) E3 2 c3 0 d3 [ab2, cr2] [] ∧ Scr 0 wr D4 E4 2 c4 0 d4 [bl2, bl2] [] ∧ Below w.heap.size w wr)
    ⟨(x1.below b4 hz1).alloc _, Box.new _ P3 _ _, s1.below (b4.alloc b4.size _) (Nat.le_refl _), (s4.weak (Nat.zero_le _)).below ((Below.refl _ _).alloc (Nat.le_refl _) _) (Nat.le_refl _), (b1.trans (b4.mono b1.size)).alloc (Nat.le_trans b1.size b4.size) _⟩ ?_
  clear x1 s1 b1 s4 b40 b4 hz1
  rintro wr ⟨x1, x2, s1, s2, b1⟩
  have hz1 := x1.lt
  have hz2 := x2.lt
  have H5 := Lib.hid (aw_q (some ⟨tb, tq, none⟩) E3 c3 d3 wr s1)
  go_upto_region 10 with (first
   | (with_reducible refine wpList_loadB x1 (x := .tmp 1) ?_ ?_ ?_ ?_
      · with_reducible rfl
      · rfl
      · rfl)
   | (go_at_call 14
      refine H5.out.mono ?_
      clear H5
      rintro e w5 ⟨D5, E5, n5, c5, m5, d5, rfl, s5, b5⟩
      obtain rfl : 2 = n5 := s5.nr
      obtain rfl : 0 = m5 := s5.nb)
   | (with_reducible refine wpList_storeB (x := .tmp 4) (y := .tmp 43) (p := P3) (D := D5) (E := E5) (n := 2) (c := c5) (m := 0) (d := d5) ?_ ?_ ?_ ?_ ?_ ?_
      · with_reducible rfl
      · rfl
      · rfl
      · rfl
      · rfl))
  refine wp_world (fun wt => Box wt w1.heap.size P3 (.slice (some ⟨tb, tq, none⟩) 2 c3) (.slice E3 0 d3) ∧ Box wt w4.heap.size P3 (.slice D4 2 c4) (.slice E4 0 d4) ∧ Box wt w5.heap.size P3 (.slice D5 2 c5) (.slice E5 0 d5) ∧ Scr 0 wt (some ⟨tb, tq, none⟩) E3 2 c3 0 d3 [ab2, cr2] [] ∧ Scr 0 wt D4 E4 2 c4 0 d4 [bl2, bl2] [] ∧ Scr 0 wt D5 E5 2 c5 0 d5 [ab2, cr2] [] ∧ Below w.heap.size w wt)
    ⟨(x1.below b5 hz1).alloc _, (x2.below b5 hz2).alloc _, Box.new _ P3 _ _, s1.below (b5.alloc b5.size _) (Nat.le_refl _), s2.below (b5.alloc b5.size _) (Nat.le_refl _), (s5.weak (Nat.zero_le _)).below ((Below.refl _ _).alloc (Nat.le_refl _) _) (Nat.le_refl _), (b1.trans (b5.mono b1.size)).alloc (Nat.le_trans b1.size b5.size) _⟩ ?_
  clear x1 x2 s1 s2 b1 s5 b5 hz1 hz2 wr
  rintro wt ⟨x1, x2, x3, s1, s2, s3, b1⟩
  have HT := Lib.hid (rsame_any P3 D5 E5 (some ⟨tb, tq, none⟩) E3 2 c5 0 d5 c3 d3 [ab2, cr2] [] wt s3 s1 (by decide) (by decide) (two_le (by decide) (by decide)) none_le)
  obtain ⟨_, _, R0, k0, e0, _, _, _, t0, _, r0⟩ := s1.rows.at 0 (by decide)
  cases e0
  obtain ⟨_, _, R1, k1, e1, _, _, _, t1, _, r1⟩ := s1.rows.at 1 (by decide)
  cases e1
  obtain ⟨fb, fo, rfl, _, _, _, q0, _⟩ := r0 1 (by decide)
  obtain ⟨gb, go, rfl, _, _, _, q1, _⟩ := r1 0 (by decide)
  obtain ⟨hb, ho, R2, k2, rfl, _, _, _, t2, _, r2⟩ := s2.rows.at 0 (by decide)
  obtain ⟨ib, io, rfl, _, _, _, q2, _⟩ := r2 0 (by decide)
  have t0' : wt.cell? ⟨tb, tq, none⟩ = some (.slice (some ⟨fb, fo, none⟩) 2 k0) := t0
  have t1' : wt.cell? ⟨tb, tq + 1, none⟩ = some (.slice (some ⟨gb, go, none⟩) 2 k1) := t1
  have t2' : wt.cell? ⟨hb, ho, none⟩ = some (.slice (some ⟨ib, io, none⟩) 2 k2) := t2
  have q0' : wt.cell? ⟨fb, fo + 2, none⟩ = some (.int .i32 98) := q0
  have q1' : wt.cell? ⟨gb, go, none⟩ = some (.int .i32 99) := q1
  have q2' : wt.cell? ⟨ib, io, none⟩ = some (.int .i32 32) := q2
  clear t0 t1 t2 q0 q1 q2 r0 r1 r2 s1 s2 s3
  have u2 := x1.cells.c2
  have u3 := x1.cells.c3
  have u4 := x1.cells.c4
  have u13 := x1.cells.c13
  have v2 := x2.cells.c2
  have v13 := x2.cells.c13
  simp only [P3] at u2 u3 u4 v2
  clear x2
  go_wp2_with (first
   | (with_reducible refine wpList_loadB x1 (x := .tmp 1) ?_ ?_ ?_ ?_
      · with_reducible rfl
      · rfl
      · rfl)
   | (with_reducible refine wpList_loadB x3 (x := .tmp 4) ?_ ?_ ?_ ?_
      · with_reducible rfl
      · rfl
      · rfl)
   | (go_at_call 15
      refine HT.out.mono ?_
      rintro e w6 ⟨rfl, b6⟩))
  go_ret
  exact ⟨rfl, b1.trans (b6.mono b1.size)⟩
end Go.Proofs.Ytpcpmeihebgncaa
