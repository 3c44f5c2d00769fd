/-
  The walk of the law's awake. No condition.
-/
import Derived.Test.YtpcpmeihebgncaaPAwake
import Derived.Lib.SmallJoins
namespace Go.Proofs.Ytpcpmeihebgncaa
open Go.RowKit
set_option maxRecDepth 100000
set_option linter.unusedSimpArgs false

theorem getD_at {L : List (List C)} {y : Nat} (h : y < L.length) : rowAt L y = L[y] := by simp [rowAt, List.getD_eq_getElem?_getD, h]
/-- A sign that is shown, in memory. -/
theorem sign_at {B : Nat} {w : World} {D : Option Addr} {L : List (List C)} (h : Lines B w D L) (y x : Nat) (hy : y < L.length) (hx : x < (rowAt L y).length) : ∃ (tb tq rb ro c : Nat), D = some ⟨tb, tq, none⟩ ∧ w.cell? ⟨tb, tq + y, none⟩ = some (.slice (some ⟨rb, ro, none⟩) (rowAt L y).length c) ∧ (rowAt L y).length ≤ c ∧ w.cell? ⟨rb, ro + x * 2, none⟩ = some (.int .i32 (runeAt L y x)) := by
  obtain ⟨tb, tq, R, cr, eD, _, _, _, t0, hcr, hr⟩ := h.at y hy
  rw [← getD_at hy] at t0 hcr hr
  obtain ⟨rb, ro, rfl, _, _, _, y0, _⟩ := hr x hx
  refine ⟨tb, tq, rb, ro, cr, eD, t0, hcr, ?_⟩
  rw [y0]
  simp [runeAt, List.getD_eq_getElem?_getD, hx]

set_option maxHeartbeats 8000000 in
theorem pawake_any (w : World) : Calls Try.prog 24 #[] w (TrueBelow w) := by
  have RUN := aw7_run
  simp only [Bool.and_eq_true, decide_eq_true_eq] at RUN
  obtain ⟨⟨⟨⟨⟨⟨⟨a1, a2⟩, a3⟩, a4⟩, a5⟩, a6⟩, a7⟩, a8⟩ := RUN
  have ok1 : aw7q.Ok 3 2 := (newP_ok 3 2 (by omega) (by omega) (by omega) (by omega)).feedP aw7
  have ok2 : aw7r.Ok 3 2 := ok1.feedP [71, 88]
  have HF1 : Hid (∀ (wx : World) (F D E V : Option Addr) (f qq n c m d cv B : Nat), Esca.Ints wx B (.slice F f qq) (newP 3 2).e.par → Scr 0 wx D E n c m d (newP 3 2).s.L (newP 3 2).s.B → Esca.ReadB wx (.slice V 9 cv) aw7 → Calls Try.prog 20 #[pv (newP 3 2).e (.slice F f qq) (newP 3 2).s.p (.slice D n c) (.slice E m d), .slice V 9 cv] wx (PanePost wx aw7q.e aw7q.s.p aw7q.s.L aw7q.s.B)) := fun wx F D E V f qq n c m d cv B h1 h2 h3 =>
    pfeed_any (newP 3 2) aw7 F D E V f qq n c m d cv B wx (newP_ok 3 2 (by omega) (by omega) (by omega) (by omega)) h1 h2 h3 (by decide)
  have HF2 : Hid (∀ (wx : World) (F D E V : Option Addr) (f qq n c m d cv B : Nat), Esca.Ints wx B (.slice F f qq) aw7q.e.par → Scr 0 wx D E n c m d aw7q.s.L aw7q.s.B → Esca.ReadB wx (.slice V 2 cv) [71, 88] → Calls Try.prog 20 #[pv aw7q.e (.slice F f qq) aw7q.s.p (.slice D n c) (.slice E m d), .slice V 2 cv] wx (PanePost wx aw7r.e aw7r.s.p aw7r.s.L aw7r.s.B)) := fun wx F D E V f qq n c m d cv B h1 h2 h3 =>
    pfeed_any aw7q [71, 88] F D E V f qq n c m d cv B wx ok1 h1 h2 h3 (by decide)
  have HN : Hid (Calls Try.prog 21 #[.int .i64 3, .int .i64 2] w (PanePost w (newP 3 2).e (newP 3 2).s.p (newP 3 2).s.L (newP 3 2).s.B)) := newP_any 3 2 w (by omega) (by omega) (by omega) (by omega)
  have HB1 : Hid (Esca.okBytes aw7 = true) := by exact Lib.hid rfl
  have HB2 : Hid (Esca.okBytes [71, 88] = true) := by exact Lib.hid rfl
  have HK1 := Lib.hid ok1
  have HK2 := Lib.hid ok2
  have par1 : aw7q.e.par.length ≤ 1000 := by have := ok1.e.par; omega
  have HP1 := Lib.hid par1
  generalize aw7r = q2 at *
  generalize aw7q = q1 at *
  generalize newP 3 2 = q0 at *
  clear ok1 ok2 par1
  have HA := Lib.hid (And.intro a1 (And.intro a2 (And.intro a3 (And.intro a4 (And.intro a5 (And.intro a6 (And.intro a7 a8)))))))
  clear a1 a2 a3 a4 a5 a6 a7 a8
  go_enter Try.func24, Try.ntmps24
  have kc := fun (w : World) (C : Array Value) (n c g : Nat) (hg : g = w.heap.size) => Joins.run_convert_bytes_const_at (P := Try.prog) w 40 5 C n c g hg Try.underlying40 Try.underlying5
  go_upto_region 2 with (first
    | (go_at_call 21
       refine HN.out.mono ?_
       rintro e w1 ⟨F, f, q, D, n, c, E, m, d, rfl, i1, s1, b1⟩)
    | (go_at_call 20
       refine (HF1.out _ F D E _ f q n c m d _ w.heap.size (i1.alloc _) ((s1.weak (Nat.zero_le _)).below ((Below.refl _ _).alloc (Nat.le_refl _) _) (Nat.le_refl _)) (Esca.readB_new w1 aw7 _ 9 _ _ rfl (Esca.u8s_at HB1.out))).mono ?_
       rintro e w2 ⟨F2, f2, q2', D2, n2, c2, E2, m2, d2, rfl, i2, s2, b2⟩)
    | (with_reducible refine wpList_storePn (x := .tmp 1) (y := .tmp 7) (e := q1.e) (p := q1.s.p) (F := F2) (f := f2) (q := q2') (D := D2) (E := E2) (n := n2) (c := c2) (m := m2) (d := d2) ?_ ?_ ?_ ?_ ?_ ?_
       · with_reducible rfl
       · rfl
       · rfl
       · rfl
       · rfl))
  have hz1 := b1.size
  have hz2 := b2.size
  obtain ⟨A1, A2, A3, A4, A5, A6, A7, A8⟩ := HA.out
  obtain rfl : 2 = n2 := by rw [← s2.nr, A1]
  refine wp_world (fun wq => PBox wq w2.heap.size q1.e (.slice F2 f2 q2') q1.s.p (.slice D2 2 c2) (.slice E2 m2 d2) ∧ Esca.Ints wq 0 (.slice F2 f2 q2') q1.e.par ∧ Scr 0 wq D2 E2 2 c2 m2 d2 q1.s.L q1.s.B ∧ Below w.heap.size w wq) ⟨PBox.new _ _ _ _ _ _, (i2.base (Nat.zero_le _)).alloc _, (s2.weak (Nat.zero_le _)).below ((Below.refl _ _).alloc (Nat.le_refl _) _) (Nat.le_refl _), ((b1.alloc hz1 _).trans (b2.mono (by simp; omega))).alloc (by simp at hz2; omega) _⟩ ?_
  have hz3 : w.heap.size ≤ w2.heap.size := by simp at hz2; omega
  generalize w2.heap.size = g1 at *
  clear i1 s1 b1 i2 s2 b2 HN HF1 HB1 hz1 hz2
  rintro w3 ⟨x3, i3, s3, b3⟩
  have hg1 := x3.lt
  obtain ⟨tb, tq, rb, ro, cr, rfl, t1, hcr, y1⟩ := sign_at s3.rows 1 1 (by omega) (by omega)
  rw [A2] at t1 hcr
  rw [A3] at y1
  obtain ⟨_, _, _, _, _, u21, u22⟩ := x3.at
  have hc2 := s3.cr
  go_upto_region 4 with fail
  have x3' := x3
  go_upto_region 5 with (first
    | (with_reducible refine wpList_loadP x3 (x := .tmp 1) ?_ ?_ ?_ ?_
       · with_reducible rfl
       · rfl
       · rfl)
    | (go_at_call 20
       refine (HF2.out _ F2 _ E2 _ f2 q2' 2 c2 m2 d2 _ 0 (i3.alloc _) (s3.below ((Below.refl _ _).alloc (Nat.le_refl _) _) (Nat.le_refl _)) (Esca.readB_new w3 [71, 88] _ 2 _ _ rfl (Esca.u8s_at HB2.out))).mono ?_
       rintro e w4 ⟨F4, f4, q4', D4, n4, c4, E4, m4, d4, rfl, i4, s4, b4⟩)
    | (with_reducible refine wpList_storePn (x := .tmp 2) (y := .tmp 25) (e := q2.e) (p := q2.s.p) (F := F4) (f := f4) (q := q4') (D := D4) (E := E4) (n := n4) (c := c4) (m := m4) (d := d4) ?_ ?_ ?_ ?_ ?_ ?_
       · with_reducible rfl
       · rfl
       · rfl
       · rfl
       · rfl))
  have hz4 := b4.size
  have hz34 : w3.heap.size + 1 ≤ w4.heap.size := by simpa using hz4
  obtain rfl : 2 = n4 := by rw [← s4.nr, A5]
  have b34 : Below w3.heap.size w3 w4 := ((Below.refl _ w3).alloc (Nat.le_refl _) _).trans (b4.mono (by simp))
  have b35 : ∀ o, Below w3.heap.size w3 (w4.alloc o) := fun o => b34.alloc (by omega) o
  have hd5 : ∀ o, Below w4.heap.size w4 (w4.alloc o) := fun o => (Below.refl _ _).alloc (Nat.le_refl _) o
  refine wp_world (fun wq => PBox wq g1 q1.e (.slice F2 f2 q2') q1.s.p (.slice (some ⟨tb, tq, none⟩) 2 c2) (.slice E2 m2 d2) ∧ PBox wq w4.heap.size q2.e (.slice F4 f4 q4') q2.s.p (.slice D4 2 c4) (.slice E4 m4 d4) ∧ Below w3.heap.size w3 wq ∧ Scr 0 wq D4 E4 2 c4 m4 d4 q2.s.L q2.s.B) ⟨x3'.below (b35 _) hg1, PBox.new _ _ _ _ _ _, b35 _, (s4.weak (Nat.zero_le _)).below (hd5 _) (Nat.le_refl _)⟩ ?_
  generalize w4.heap.size = g2 at *
  clear i4 s4 b4 b34 b35 hd5 HF2 HB2 hz4 u21 u22 t1 y1
  rintro w5 ⟨x5, x6, b5, s6⟩
  have i5 := i3.below b5 (Nat.le_refl _)
  have s5 := s3.below b5 (Nat.le_refl _)
  have B5 : Below w.heap.size w w5 := b3.trans (b5.mono b3.size)
  clear i3 s3 b3 b5 x3 x3'
  have HR := Lib.hid (presize_any q1.e F2 f2 q2' 0 q1.s.p (some ⟨tb, tq, none⟩) E2 2 c2 m2 d2 q1.s.L q1.s.B 2 1 w5 i5 HP1.out s5 (by rw [← s5.nb]; exact HK1.out.k.ok.bn) HK1.out.k.ok.back)
  rw [show sideF 2 = 2 by unfold sideF; omega, show sideF 1 = 1 by unfold sideF; omega] at HR
  go_upto_region 6 with (first
    | (with_reducible refine wpList_loadP x5 (x := .tmp 1) ?_ ?_ ?_ ?_
       · with_reducible rfl
       · rfl
       · rfl)
    | (go_at_call 22
       refine HR.out.mono ?_
       rintro e w7 ⟨F7, f7, q7', D7, n7, c7, E7, m7, d7, rfl, i7, s7, b7⟩)
    | (with_reducible refine wpList_storePn (x := .tmp 3) (y := .tmp 27) (e := q1.e) (p := sizedNm q1.s.p 2 1) (F := F7) (f := f7) (q := q7') (D := D7) (E := E7) (n := n7) (c := c7) (m := m7) (d := d7) ?_ ?_ ?_ ?_ ?_ ?_
       · with_reducible rfl
       · rfl
       · rfl
       · rfl
       · rfl))
  have b57 : ∀ o, Below w5.heap.size w5 (w7.alloc o) := fun o => b7.alloc b7.size o
  have hg5 := x5.lt
  have hg6 := x6.lt
  refine wp_world (fun wq => PBox wq g1 q1.e (.slice F2 f2 q2') q1.s.p (.slice (some ⟨tb, tq, none⟩) 2 c2) (.slice E2 m2 d2) ∧ PBox wq g2 q2.e (.slice F4 f4 q4') q2.s.p (.slice D4 2 c4) (.slice E4 m4 d4) ∧ PBox wq w7.heap.size q1.e (.slice F7 f7 q7') (sizedNm q1.s.p 2 1) (.slice D7 n7 c7) (.slice E7 m7 d7) ∧ Below w5.heap.size w5 wq) ⟨x5.below (b57 _) hg5, x6.below (b57 _) hg6, PBox.new _ _ _ _ _ _, b57 _⟩ ?_
  generalize w7.heap.size = g3 at *
  clear i7 s7 b7 b57 HR x5 x6
  rintro w8 ⟨x5, x6, x7, b8⟩
  have i8 := i5.below b8 (Nat.le_refl _)
  have s8 := s5.below b8 (Nat.le_refl _)
  have s9 := s6.below b8 (Nat.le_refl _)
  have B8 : Below w.heap.size w w8 := B5.trans (b8.mono B5.size)
  clear i5 s5 s6 b8 B5 hg1 hg5 hg6
  obtain ⟨tb', tq', rb', ro', cr', eT, t1, hcr', y1⟩ := sign_at s8.rows 1 1 (by omega) (by omega)
  cases eT
  obtain ⟨tb2, tq2, rb2, ro2, cr2, rfl, t2, hcr2, y2⟩ := sign_at s9.rows 1 0 (by omega) (by omega)
  rw [A2] at t1 hcr'
  rw [A3] at y1
  rw [A6] at t2 hcr2
  rw [A7, Nat.zero_mul, Nat.add_zero] at y2
  have k1 := x5.at
  have k2 := x6.at
  have k3 := x7.at
  rw [A4] at k1 k3
  rw [A8] at k2
  obtain ⟨u0, _, _, _, _, u21, u22⟩ := k1
  obtain ⟨v0, _, _, _, _, v21, v22⟩ := k2
  obtain ⟨t0, tw, _, _, _, _, _⟩ := k3
  have tw' : w8.cell? ⟨g3, 8, none⟩ = some (.int .i64 2) := tw
  clear tw
  have HT := Lib.hid (fun wx (hb : Below w8.heap.size w8 wx) => psameT_any q1.e q1.s.p F2 (some ⟨tb, tq, none⟩) E2 F2 (some ⟨tb, tq, none⟩) E2 f2 q2' 2 c2 m2 d2 f2 q2' c2 d2 0 0 q1.s.L q1.s.B wx (i8.below hb (Nat.le_refl _)) (i8.below hb (Nat.le_refl _)) HP1.out (s8.below hb (Nat.le_refl _)) (s8.below hb (Nat.le_refl _)) (by omega) (by rw [← s8.nb]; have := HK1.out.k.ok.bn; omega) HK1.out.k.rows HK1.out.k.ok.back)
  have HFa := Lib.hid (fun wx => psameF_any q1.e q2.e q1.s.p q2.s.p F2 (some ⟨tb, tq, none⟩) E2 F4 (some ⟨tb2, tq2, none⟩) E4 f2 q2' 2 c2 m2 d2 f4 q4' 2 c4 m4 d4 wx (by rw [A4, A8]; decide))
  clear i8 s8 s9
  have hg5 := x5.lt
  have hg6 := x6.lt
  go_wp2_with (first
    | (with_reducible refine wpList_loadP z5 (x := .tmp 1) ?_ ?_ ?_ ?_
       · with_reducible rfl
       · rfl
       · rfl)
    | (with_reducible refine wpList_loadP z6 (x := .tmp 2) ?_ ?_ ?_ ?_
       · with_reducible rfl
       · rfl
       · rfl)
    | (go_at_call 46
       refine (HFa.out w9).mono ?_
       rintro e w10 ⟨rfl, b10⟩)
    | (with_reducible refine wpList_loadP x5 (x := .tmp 1) ?_ ?_ ?_ ?_
       · with_reducible rfl
       · rfl
       · rfl)
    | (go_at_call 46
       refine (HT.out _ (Below.refl _ _)).mono ?_
       rintro e w9 ⟨rfl, b9⟩
       have z5 := x5.below b9 hg5
       have z6 := x6.below b9 hg6))
  go_ret
  exact ⟨rfl, (B8.trans (b9.mono B8.size)).trans (b10.mono (B8.trans (b9.mono B8.size)).size)⟩
end Go.Proofs.Ytpcpmeihebgncaa
