/-
  What Resize of package grid answers. Conditions: at most fifty lines that went, of at most a thousand cells.
-/
import Derived.Test.YtpcpmeihebgncaaBox
import Derived.Test.YtpcpmeihebgncaaFill
import Derived.Deep.RegionHeld3
import Derived.Deep.Cut
import Derived.Deep.DeepCutAuto
namespace Go.Proofs.Ytpcpmeihebgncaa
open Go.RowKit
set_option maxRecDepth 100000

theorem side_nat7 (y : Int) : ∃ h : Nat, sideF y = h ∧ 1 ≤ h ∧ h ≤ 1000 := ⟨(sideF y).toNat, by unfold sideF; omega, by unfold sideF; omega, by unfold sideF; omega⟩
structure RS (w : World) (p : Nm) (r b : Value) (D : Option Addr) (L : List (List C)) (p' : Nm) (rv : Value) (wx : World) : Prop where
  box : Box wx w.heap.size p r b
  ans : Box wx (w.heap.size + 1) zeroNm nilV nilV
  out : Box wx (w.heap.size + 1 + 1) p' rv b
  rows : Lines (w.heap.size + 1 + 1 + 1) wx D L
  below : Below w.heap.size w wx
theorem RS.far {w : World} {p : Nm} {r b : Value} {D : Option Addr} {L : List (List C)} {p' q : Nm} {rv : Value} {wx : World} (h : RS w p r b D L p' rv wx) {o : Nat} {v : Value} (hq : Box (wx.setCell ⟨w.heap.size + 1 + 1, o, none⟩ v) (w.heap.size + 1 + 1) q rv b) : RS w p r b D L q rv (wx.setCell ⟨w.heap.size + 1 + 1, o, none⟩ v) :=
  ⟨h.box.far (q := ⟨w.heap.size + 1 + 1, o, none⟩) (by exact (by omega : w.heap.size ≠ w.heap.size + 1 + 1)) _, h.ans.far (q := ⟨w.heap.size + 1 + 1, o, none⟩) (by exact (by omega : w.heap.size + 1 ≠ w.heap.size + 1 + 1)) _, hq, h.rows.far (p := ⟨w.heap.size + 1 + 1, o, none⟩) (by exact (by omega : w.heap.size + 1 + 1 < w.heap.size + 1 + 1 + 1)) _,
    h.below.setCell (p := ⟨w.heap.size + 1 + 1, o, none⟩) (by exact (by omega : w.heap.size ≤ w.heap.size + 1 + 1)) _⟩
theorem RS.drew {w : World} {p : Nm} {r b : Value} {D : Option Addr} {L : List (List C)} {p' : Nm} {rv : Value} {wx : World} (h : RS w p r b D L p' rv wx) : RS w p r b D L p' rv wx.drew := ⟨h.box, h.ans, h.out, h.rows.below (below_drewN (Below.refl _ _) 1) (Nat.le_refl _), below_drewN h.below 1⟩
/-- The numbers of a screen that is made x by y. -/
def sizedNm (p : Nm) (x y : Int) : Nm := ⟨x, y, withinF p.x (x - 1), withinF p.y (y - 1), false, p.a, 0, y - 1, withinF p.sx (x - 1), withinF p.sy (y - 1), p.sa, p.noWrap, p.hidden⟩

set_option maxRecDepth 100000 in
set_option maxHeartbeats 4000000 in
theorem gresize_any (p : Nm) (D E : Option Addr) (n c m d : Nat) (L Bk : List (List C)) (x0 y0 : Int) (w : World) (hs : Scr 0 w D E n c m d L Bk) (hm : m ≤ 50) (hlb : ∀ r ∈ Bk, r.length ≤ 1000) :
    Calls Try.prog 44 #[gv p (.slice D n c) (.slice E m d), .int .i64 x0, .int .i64 y0] w (GridPost w (sizedNm p (sideF x0) (sideF y0)) (fittedF L (sideF x0) (sideF y0).toNat) Bk) := by
  obtain ⟨x, hx, hx0, hx1⟩ := side_nat7 x0
  have HX : Hid (∀ w, Calls Try.prog 87 #[.int .i64 x0] w fun e w' => e = .returned (.int .i64 x) ∧ w = w') := fun w => by rw [← hx]; exact side_any x0 w
  obtain ⟨y, hy, hy0, hy1⟩ := side_nat7 y0
  have HY : Hid (∀ w, Calls Try.prog 87 #[.int .i64 y0] w fun e w' => e = .returned (.int .i64 y) ∧ w = w') := fun w => by rw [← hy]; exact side_any y0 w
  rw [hx, hy, Int.toNat_natCast]
  clear hx hy
  have HF : Hid (∀ w', Below w.heap.size w w' → Calls Try.prog 90 #[.slice D n c, .int .i64 x, .int .i64 y] w' (LinesPost w' (fittedF L x y))) := fun w' hb => by
    rw [← hs.nr]
    exact fitted_any D c L x y w' (hs.rows.below hb (Nat.le_refl _)) (by omega)
  have HO : Hid (∀ w', Below w.heap.size w w' → Calls Try.prog 92 #[.slice E m d] w' (LinesPost w' Bk)) := fun w' hb => by
    rw [← hs.nb]
    exact own_any E d Bk w' (hs.back.below hb (Nat.le_refl _)) (by rw [hs.nb]; omega) hlb
  have HLN := Lib.hid (fittedF_len L x y)
  generalize fittedF L x y = M at *
  clear hs
  unfold gv gcs
  go_enter Try.func44, Try.ntmps44
  go_upto_region 3 with (go_at_call 87; (first | refine (HX.out _).mono ?_ | refine (HY.out _).mono ?_); rintro e w' ⟨rfl, rfl⟩)
  refine wp_world (fun wq => Box wq w.heap.size p (.slice D n c) (.slice E m d) ∧ Box wq (w.heap.size + 1) zeroNm nilV nilV ∧ Box wq (w.heap.size + 1 + 1) { p with w := x, h := y } (.slice D n c) (.slice E m d) ∧ Below w.heap.size w wq) ⟨?_, ?_, ?_, ?_⟩ ?_
  · exact ((Box.new w p _ _).alloc _).alloc _
  · have := (Box.new (w.alloc (.cells (gcs p (.slice D n c) (.slice E m d)) 35)) zeroNm nilV nilV).alloc (.cells (gcs { p with w := (x : Int), h := (y : Int) } (.slice D n c) (.slice E m d)) 35)
    rw [World.size_alloc] at this
    exact this
  · have := Box.new ((w.alloc (.cells (gcs p (.slice D n c) (.slice E m d)) 35)).alloc (.cells (gcs zeroNm nilV nilV) 35)) { p with w := (x : Int), h := (y : Int) } (.slice D n c) (.slice E m d)
    rw [World.size_alloc, World.size_alloc] at this
    exact this
  · exact (((Below.refl _ _).alloc (Nat.le_refl _) _).alloc (by simp) _).alloc (by simp; omega) _
  rintro wq ⟨q1, q2, q3, bq⟩
  have y13 := q1.cells.c13
  have z0 := q3.cells.c0
  have z1 := q3.cells.c1
  dsimp only at z0 z1
  have hz1 := q1.lt
  have hz2 := q2.lt
  have hz3 := q3.lt
  go_upto_region 4 with (
    go_at_call 90
    refine (HF.out _ bq).mono ?_
    rintro e w1 ⟨g1, rfl, l1, hb1⟩
    have z13 := (q3.below hb1 hz3).cells.c13
    have zf := (q3.below hb1 hz3).cells.free)
  have rs : RS w p (.slice D n c) (.slice E m d) (some ⟨g1, 0, none⟩) M { p with w := x, h := y } (.slice (some ⟨g1, 0, none⟩) M.length M.length) (w1.setCell ⟨w.heap.size + 1 + 1, 13, none⟩ (.slice (some ⟨g1, 0, none⟩) M.length M.length)) :=
    ⟨(q1.below hb1 hz1).far (q := ⟨w.heap.size + 1 + 1, 13, none⟩) (by exact (by omega : w.heap.size ≠ w.heap.size + 1 + 1)) _, (q2.below hb1 hz2).far (q := ⟨w.heap.size + 1 + 1, 13, none⟩) (by exact (by omega : w.heap.size + 1 ≠ w.heap.size + 1 + 1)) _, (q3.below hb1 hz3).set_rows _,
      (l1.weak (by omega)).far (p := ⟨w.heap.size + 1 + 1, 13, none⟩) (by exact (by omega : w.heap.size + 1 + 1 < w.heap.size + 1 + 1 + 1)) _, (bq.trans (hb1.mono bq.size)).setCell (p := ⟨w.heap.size + 1 + 1, 13, none⟩) (by exact (by omega : w.heap.size ≤ w.heap.size + 1 + 1)) _⟩
  clear y13 z0 z1 z13 zf q1 q2 q3 bq hb1 l1 hz1 hz2 hz3
  generalize (w1.setCell ⟨w.heap.size + 1 + 1, 13, none⟩ (.slice (some ⟨g1, 0, none⟩) M.length M.length)) = w2 at *
  have rsd := rs.drew
  have rs1q := rs.far (rs.out.set_x (withinF p.x ((x : Int) - 1)))
  have rs1 := rs1q.drew
  have rs2 := (rs1q.far (rs1q.out.set_y (withinF p.y ((y : Int) - 1)))).drew
  have u0 := rsd.box.cells.c2
  have u1 := rsd.box.cells.c3
  have u2 := rsd.out.cells.c0
  have u3 := rsd.out.cells.c1
  have u4 := rsd.out.cells.c2
  have uf := rsd.out.cells.free
  have v0 := rs1.box.cells.c2
  have v1 := rs1.box.cells.c3
  have v2 := rs1.out.cells.c0
  have v3 := rs1.out.cells.c1
  have v4 := rs1.out.cells.c3
  have vf := rs1.out.cells.free
  have t0 := rs2.box.cells.c2
  have t1 := rs2.box.cells.c3
  have t2 := rs2.out.cells.c0
  have t3 := rs2.out.cells.c1
  dsimp only at u0 u1 u2 u3 u4 v0 v1 v2 v3 v4 t0 t1 t2 t3
  have s1 : IntKind.i64.wrap ((x : Int) - 1) = (x : Int) - 1 := IntWalk.i64_in _ (by omega)
  have s2 : IntKind.i64.wrap ((y : Int) - 1) = (y : Int) - 1 := IntWalk.i64_in _ (by omega)
  go_region_held3 (fun w' => w'.cell? ⟨w.heap.size, 2, none⟩ = some (.int .i64 p.x) ∧ w'.cell? ⟨w.heap.size, 3, none⟩ = some (.int .i64 p.y) ∧ w'.cell? ⟨w.heap.size + 1 + 1, 0, none⟩ = some (.int .i64 x) ∧ w'.cell? ⟨w.heap.size + 1 + 1, 1, none⟩ = some (.int .i64 y))
    (first
      | with_reducible exact ⟨u0, u1, u2, u3⟩
      | with_reducible exact ⟨v0, v1, v2, v3⟩
      | with_reducible exact ⟨t0, t1, t2, t3⟩
      | fail)
    ((go_at_call 91
      (with_reducible refine (gwithin_any _ _ _).mono ?_)
      rintro e w' ⟨rfl, rfl⟩))
  clear u0 u1 u2 u3 u4 uf v0 v1 v2 v3 v4 vf t0 t1 t2 t3 s1 s2 rs1 rs1q rsd
  generalize (((w2.setCell ⟨w.heap.size + 1 + 1, 2, none⟩ (.int .i64 (withinF p.x ((x : Int) - 1)))).setCell ⟨w.heap.size + 1 + 1, 3, none⟩ (.int .i64 (withinF p.y ((y : Int) - 1)))).drew) = w3 at *
  clear rs
  go_wp2_with fail
  have rs2d := rs2.drew
  have rs21q := rs2.far (rs2.out.set_sx (withinF p.sx ((x : Int) - 1)))
  have rs21 := rs21q.drew
  have rs3 := (rs21q.far (rs21q.out.set_sy (withinF p.sy ((y : Int) - 1)))).drew
  have u0 := rs2d.box.cells.c8
  have u1 := rs2d.box.cells.c9
  have u2 := rs2d.out.cells.c0
  have u3 := rs2d.out.cells.c1
  have u4 := rs2d.out.cells.c8
  have uf := rs2d.out.cells.free
  have v0 := rs21.box.cells.c8
  have v1 := rs21.box.cells.c9
  have v2 := rs21.out.cells.c0
  have v3 := rs21.out.cells.c1
  have v4 := rs21.out.cells.c9
  have vf := rs21.out.cells.free
  have t0 := rs3.box.cells.c8
  have t1 := rs3.box.cells.c9
  have t2 := rs3.out.cells.c0
  have t3 := rs3.out.cells.c1
  dsimp only at u0 u1 u2 u3 u4 v0 v1 v2 v3 v4 t0 t1 t2 t3
  have s1 : IntKind.i64.wrap ((x : Int) - 1) = (x : Int) - 1 := IntWalk.i64_in _ (by omega)
  have s2 : IntKind.i64.wrap ((y : Int) - 1) = (y : Int) - 1 := IntWalk.i64_in _ (by omega)
  go_region_held3 (fun w' => w'.cell? ⟨w.heap.size, 8, none⟩ = some (.int .i64 p.sx) ∧ w'.cell? ⟨w.heap.size, 9, none⟩ = some (.int .i64 p.sy) ∧ w'.cell? ⟨w.heap.size + 1 + 1, 0, none⟩ = some (.int .i64 x) ∧ w'.cell? ⟨w.heap.size + 1 + 1, 1, none⟩ = some (.int .i64 y))
    (first
      | with_reducible exact ⟨u0, u1, u2, u3⟩
      | with_reducible exact ⟨v0, v1, v2, v3⟩
      | with_reducible exact ⟨t0, t1, t2, t3⟩
      | fail)
    ((go_at_call 91
      (with_reducible refine (gwithin_any _ _ _).mono ?_)
      rintro e w' ⟨rfl, rfl⟩))
  clear u0 u1 u2 u3 u4 uf v0 v1 v2 v3 v4 vf t0 t1 t2 t3 s1 s2 rs21 rs21q rs2d
  generalize (((w3.setCell ⟨w.heap.size + 1 + 1, 8, none⟩ (.int .i64 (withinF p.sx ((x : Int) - 1)))).setCell ⟨w.heap.size + 1 + 1, 9, none⟩ (.int .i64 (withinF p.sy ((y : Int) - 1)))).drew) = w4 at *
  clear rs2
  have u1 := rs3.out.cells.c1
  have u4 := rs3.out.cells.c4
  have u6 := rs3.out.cells.c6
  have u7 := rs3.out.cells.c7
  have uf := rs3.out.cells.free
  dsimp only at u1 u4 u6 u7
  go_upto_region 8 with fail
  have rs4 := rs3.far (rs3.out.set_top 0)
  have rs5 := rs4.far (rs4.out.set_bottom ((y : Int) - 1))
  have rs6 := rs5.far (rs5.out.set_wrap false)
  clear u1 u4 u6 u7 uf rs3 rs4 rs5
  obtain ⟨p1, hp1⟩ : ∃ p1 : Nm, p1 = { w := (x : Int), h := (y : Int), x := withinF p.x ((x : Int) - 1), y := withinF p.y ((y : Int) - 1), wrap := false, a := p.a, top := 0, bottom := (y : Int) - 1, sx := withinF p.sx ((x : Int) - 1), sy := withinF p.sy ((y : Int) - 1), sa := p.sa, noWrap := p.noWrap, hidden := p.hidden } := ⟨_, rfl⟩
  have hp1q : sizedNm p (x : Int) (y : Int) = p1 := by rw [hp1]; rfl
  dsimp only at rs6
  rw [← hp1] at rs6
  have HPQ := Lib.hid hp1q
  clear hp1 hp1q
  generalize (((w4.setCell ⟨w.heap.size + 1 + 1, 6, none⟩ (.int .i64 0)).setCell ⟨w.heap.size + 1 + 1, 7, none⟩ (.int .i64 ((y : Int) - 1))).setCell ⟨w.heap.size + 1 + 1, 4, none⟩ (.bool false)) = w5 at *
  have y14 := rs6.box.cells.c14
  have hz1 := rs6.ans.lt
  have hz2 := rs6.out.lt
  go_upto_region 9 with (
    go_at_call 92
    refine (HO.out _ rs6.below).mono ?_
    rintro e w6 ⟨g6, rfl, l6, hb6⟩
    have z14 := (rs6.out.below hb6 hz2).cells.c14
    have zf := (rs6.out.below hb6 hz2).cells.free)
  have x2 := (rs6.ans.below hb6 hz1).far (q := ⟨w.heap.size + 1 + 1, 14, none⟩) (by exact (by omega : w.heap.size + 1 ≠ w.heap.size + 1 + 1)) (.slice (some ⟨g6, 0, none⟩) Bk.length Bk.length)
  have x3 := (rs6.out.below hb6 hz2).set_back (.slice (some ⟨g6, 0, none⟩) Bk.length Bk.length)
  have l1 := (rs6.rows.below hb6 (Nat.le_refl _)).far (p := ⟨w.heap.size + 1 + 1, 14, none⟩) (by exact (by omega : w.heap.size + 1 + 1 < w.heap.size + 1 + 1 + 1)) (.slice (some ⟨g6, 0, none⟩) Bk.length Bk.length)
  have l2 := l6.far (p := ⟨w.heap.size + 1 + 1, 14, none⟩) (by exact hz2) (.slice (some ⟨g6, 0, none⟩) Bk.length Bk.length)
  have bz := (rs6.below.trans (hb6.mono rs6.below.size)).setCell (p := ⟨w.heap.size + 1 + 1, 14, none⟩) (by exact (by omega : w.heap.size ≤ w.heap.size + 1 + 1)) (.slice (some ⟨g6, 0, none⟩) Bk.length Bk.length)
  clear y14 z14 zf l6 hb6 rs6
  generalize (w6.setCell ⟨w.heap.size + 1 + 1, 14, none⟩ (.slice (some ⟨g6, 0, none⟩) Bk.length Bk.length)) = w7 at *
  have HL1 := Lib.hid (l1.put15 (g := w.heap.size + 1) (by omega) p1 (.slice (some ⟨g1, 0, none⟩) M.length M.length) (.slice (some ⟨g6, 0, none⟩) Bk.length Bk.length))
  have HL2 := Lib.hid (l2.put15 (g := w.heap.size + 1) (by omega) p1 (.slice (some ⟨g1, 0, none⟩) M.length M.length) (.slice (some ⟨g6, 0, none⟩) Bk.length Bk.length))
  have HZ := Lib.hid (put15_box x2 (p := p1) (.slice (some ⟨g1, 0, none⟩) M.length M.length) (.slice (some ⟨g6, 0, none⟩) Bk.length Bk.length)).cells
  have HBA := Lib.hid (put15_below bz (Nat.le_succ _) p1 (.slice (some ⟨g1, 0, none⟩) M.length M.length) (.slice (some ⟨g6, 0, none⟩) Bk.length Bk.length))
  have hc2 := x2.cells
  have hc3 := x3.cells
  have hzz := x2.lt
  simp only [zeroNm, nilV] at hc2
  obtain ⟨a0, a1, a2, a3, a4, a5, a6, a7, a8, a9, a10, a11, a12, a13, a14, af⟩ := hc2
  obtain ⟨y0, y1, y2, y3, y4, y5, y6, y7, y8, y9, y10, y11, y12, y13, y14, yf⟩ := hc3
  clear x2 x3 l1 l2 bz
  go_wp2_with fail
  change bodyPost _ _ _ _ _ (put15 w7 (w.heap.size + 1) p1 (.slice (some ⟨g1, 0, none⟩) M.length M.length) (.slice (some ⟨g6, 0, none⟩) Bk.length Bk.length))
  clear a0 a1 a2 a3 a4 a5 a6 a7 a8 a9 a10 a11 a12 a13 a14 af y0 y1 y2 y3 y4 y5 y6 y7 y8 y9 y10 y11 y12 y13 y14 yf
  generalize (put15 w7 (w.heap.size + 1) p1 (.slice (some ⟨g1, 0, none⟩) M.length M.length) (.slice (some ⟨g6, 0, none⟩) Bk.length Bk.length)) = wz at *
  obtain ⟨y0, y1, y2, y3, y4, y5, y6, y7, y8, y9, y10, y11, y12, y13, y14, yf⟩ := HZ.out
  refine bodyPost_ret (v := gv p1 (.slice (some ⟨g1, 0, none⟩) M.length M.length) (.slice (some ⟨g6, 0, none⟩) Bk.length Bk.length)) (by simp [results, Try.results44, go_sem, gv, gcs, y0, y1, y2, y3, y4, y5, y6, y7, y8, y9, y10, y11, y12, y13, y14]) rfl ?_
  rw [HPQ.out]
  exact ⟨_, _, _, _, _, _, rfl, ⟨HL1.out.weak (by omega), HL2.out.weak (by omega), rfl, rfl, Nat.le_refl _, Nat.le_refl _⟩, HBA.out⟩
end Go.Proofs.Ytpcpmeihebgncaa
