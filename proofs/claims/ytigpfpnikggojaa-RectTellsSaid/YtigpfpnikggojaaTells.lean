/-
  The walk of RectTells. Conditions: places are ints.
-/
import Derived.Test.YtigpfpnikggojaaLits
import Derived.Test.YtigpfpnikggojaaRCut
import Derived.Deep.DeepCutAuto
namespace Go.Proofs.Ytigpfpnikggojaa
open Go.RowKit
set_option maxRecDepth 100000

theorem S7 {w : World} {g A C : Nat} {r a m b : R} (h0 : RB w (g) r) (h1 : RB w (A) a) (h2 : RB w (A + 1) m) (h3 : RB w (A + 1 + 1) b) (h4 : RB w (C) a) (h5 : RB w (C + 1) m) (h6 : RB w (C + 1 + 1) b) :
    w.cell? ⟨g, 0, none⟩ = some (.int .i64 r.X) ∧ w.cell? ⟨g, 1, none⟩ = some (.int .i64 r.Y) ∧ w.cell? ⟨g, 2, none⟩ = some (.int .i64 r.W) ∧ w.cell? ⟨g, 3, none⟩ = some (.int .i64 r.H) ∧ w.cell? ⟨A, 0, none⟩ = some (.int .i64 a.X) ∧ w.cell? ⟨A, 1, none⟩ = some (.int .i64 a.Y) ∧ w.cell? ⟨A, 2, none⟩ = some (.int .i64 a.W) ∧ w.cell? ⟨A, 3, none⟩ = some (.int .i64 a.H) ∧ w.cell? ⟨A + 1, 0, none⟩ = some (.int .i64 m.X) ∧ w.cell? ⟨A + 1, 1, none⟩ = some (.int .i64 m.Y) ∧ w.cell? ⟨A + 1, 2, none⟩ = some (.int .i64 m.W) ∧ w.cell? ⟨A + 1, 3, none⟩ = some (.int .i64 m.H) ∧ w.cell? ⟨A + 1 + 1, 0, none⟩ = some (.int .i64 b.X) ∧ w.cell? ⟨A + 1 + 1, 1, none⟩ = some (.int .i64 b.Y) ∧ w.cell? ⟨A + 1 + 1, 2, none⟩ = some (.int .i64 b.W) ∧ w.cell? ⟨A + 1 + 1, 3, none⟩ = some (.int .i64 b.H) ∧ w.cell? ⟨C, 0, none⟩ = some (.int .i64 a.X) ∧ w.cell? ⟨C, 1, none⟩ = some (.int .i64 a.Y) ∧ w.cell? ⟨C, 2, none⟩ = some (.int .i64 a.W) ∧ w.cell? ⟨C, 3, none⟩ = some (.int .i64 a.H) ∧ w.cell? ⟨C + 1, 0, none⟩ = some (.int .i64 m.X) ∧ w.cell? ⟨C + 1, 1, none⟩ = some (.int .i64 m.Y) ∧ w.cell? ⟨C + 1, 2, none⟩ = some (.int .i64 m.W) ∧ w.cell? ⟨C + 1, 3, none⟩ = some (.int .i64 m.H) ∧ w.cell? ⟨C + 1 + 1, 0, none⟩ = some (.int .i64 b.X) ∧ w.cell? ⟨C + 1 + 1, 1, none⟩ = some (.int .i64 b.Y) ∧ w.cell? ⟨C + 1 + 1, 2, none⟩ = some (.int .i64 b.W) ∧ w.cell? ⟨C + 1 + 1, 3, none⟩ = some (.int .i64 b.H) := by
  obtain ⟨x00, x01, x02, x03, _⟩ := h0.cells
  obtain ⟨x10, x11, x12, x13, _⟩ := h1.cells
  obtain ⟨x20, x21, x22, x23, _⟩ := h2.cells
  obtain ⟨x30, x31, x32, x33, _⟩ := h3.cells
  obtain ⟨x40, x41, x42, x43, _⟩ := h4.cells
  obtain ⟨x50, x51, x52, x53, _⟩ := h5.cells
  obtain ⟨x60, x61, x62, x63, _⟩ := h6.cells
  exact ⟨x00, x01, x02, x03, x10, x11, x12, x13, x20, x21, x22, x23, x30, x31, x32, x33, x40, x41, x42, x43, x50, x51, x52, x53, x60, x61, x62, x63⟩

def TRel (w0 : World) (g : Nat) (s1 s2 s3 s4 s11 : Value) (w : World) : Prop :=
  ∃ (k : Nat) (r : R) (d f x y : Int), k ≤ 2 ∧ s11 = .int .i64 k ∧ s1 = .int .i64 d ∧ s2 = .int .i64 f ∧ s3 = .int .i64 x ∧ s4 = .int .i64 y ∧ x ≤ 9223372036854775807 ∧ y ≤ 9223372036854775807 ∧ RB w g r ∧ Below w0.heap.size w0 w

set_option maxHeartbeats 4000000 in
theorem tells_walk (r0 : R) (dir0 first0 x0 y0 : Int) (hx0 : x0 ≤ 9223372036854775807) (hy0 : y0 ≤ 9223372036854775807) (w : World) :
    Calls Try.prog 5 #[rv r0, .int .i64 dir0, .int .i64 first0, .int .i64 x0, .int .i64 y0] w (TrueBelow w) := by
  have p0 := RB.new w r0
  obtain ⟨X0, Y0, W0, H0⟩ := r0
  unfold rv at *
  dsimp only at *
  go_enter Try.func5, Try.ntmps5
  go_wp2_with fail
  have hb0 : Below w.heap.size w (w.alloc (.cells #[.int .i64 X0, .int .i64 Y0, .int .i64 W0, .int .i64 H0] 23)) := (Below.refl w.heap.size w).alloc (Nat.le_refl _) _
  generalize hg : w.heap.size = g at p0 ⊢
  go_loopw [1, 2, 3, 4, 11] (TRel w g) (fun _ _ _ _ i _ => 2 - (intOf i).toNat)
  case atStart =>
    exact ⟨0, _, _, _, _, _, by decide, rfl, rfl, rfl, rfl, rfl, hx0, hy0, p0, hb0⟩
  case round =>
    clear p0 hx0 hy0 hb0
    obtain ⟨k, r, d, f, x, y, hk, rfl, rfl, rfl, rfl, rfl, hx, hy, gz, hz⟩ := hrel
    by_cases hlt : k < 2
    · have hki : (k : Int) < 2 := by omega
      have CUT := fun w => cut_any r d f w
      have RCUT := fun w => rcut_any r d f w
      have IN := fun w => in_any r x y w
      have RN := fun w => rin_any r x y w hx hy
      have AR := fun w => area_any r w
      have RR := fun w => rarea_any r w
      obtain ⟨X, Y, W, H⟩ := r
      generalize cutF ⟨X, Y, W, H⟩ d f = q at *
      obtain ⟨⟨aX, aY, aW, aH⟩, ⟨mX, mY, mW, mH⟩, ⟨bX, bY, bW, bH⟩, ok⟩ := q
      generalize inF ⟨X, Y, W, H⟩ x y = ii at *
      generalize areaF ⟨X, Y, W, H⟩ = uu at *
      unfold cutV rv at *
      dsimp only at *
      obtain ⟨r0, r1, r2, r3, rf⟩ := gz.cells
      dsimp only at r0 r1 r2 r3
      go_upto_region 5 with (first
        | (go_at_call 7
           (with_reducible refine (CUT _).mono ?_)
           rintro e w2 ⟨rfl, hb2⟩))
      have p2 := gz.below hb2 gz.lt
      obtain ⟨x0, x1, x2, xb, xs⟩ := boxes w2 ⟨aX, aY, aW, aH⟩ ⟨mX, mY, mW, mH⟩ ⟨bX, bY, bW, bH⟩
      refine wp_world (fun wq => RB wq g ⟨X, Y, W, H⟩ ∧ RB wq w2.heap.size ⟨aX, aY, aW, aH⟩ ∧ RB wq (w2.heap.size + 1) ⟨mX, mY, mW, mH⟩ ∧ RB wq (w2.heap.size + 1 + 1) ⟨bX, bY, bW, bH⟩ ∧ Below w.heap.size w wq) ⟨((p2.alloc _).alloc _).alloc _, x0, x1, x2, (hz.trans (hb2.mono hz.size)).trans (xb.mono (Nat.le_trans hz.size hb2.size))⟩ ?_
      clear x0 x1 x2 xb xs p2 hb2 r0 r1 r2 r3 rf gz hz
      rintro wq ⟨gz, pa, pm, pb, hz⟩
      generalize w2.heap.size = A at *
      obtain ⟨r0, r1, r2, r3, rf⟩ := gz.cells
      dsimp only at r0 r1 r2 r3
      go_upto_region 6 with (first
        | (go_at_call 11
           (with_reducible refine (RCUT _).mono ?_)
           rintro e w3 ⟨rfl, hb3⟩))
      obtain ⟨x0, x1, x2, xb, xs⟩ := boxes w3 ⟨aX, aY, aW, aH⟩ ⟨mX, mY, mW, mH⟩ ⟨bX, bY, bW, bH⟩
      have q0 := gz.below hb3 gz.lt
      have q1 := pa.below hb3 pa.lt
      have q2 := pm.below hb3 pm.lt
      have q3 := pb.below hb3 pb.lt
      refine wp_world (fun wq => RB wq g ⟨X, Y, W, H⟩ ∧ RB wq A ⟨aX, aY, aW, aH⟩ ∧ RB wq (A + 1) ⟨mX, mY, mW, mH⟩ ∧ RB wq (A + 1 + 1) ⟨bX, bY, bW, bH⟩ ∧ RB wq w3.heap.size ⟨aX, aY, aW, aH⟩ ∧ RB wq (w3.heap.size + 1) ⟨mX, mY, mW, mH⟩ ∧ RB wq (w3.heap.size + 1 + 1) ⟨bX, bY, bW, bH⟩ ∧ Below w.heap.size w wq)
        ⟨((q0.alloc _).alloc _).alloc _, ((q1.alloc _).alloc _).alloc _, ((q2.alloc _).alloc _).alloc _, ((q3.alloc _).alloc _).alloc _, x0, x1, x2, (hz.trans (hb3.mono hz.size)).trans (xb.mono (Nat.le_trans hz.size hb3.size))⟩ ?_
      clear x0 x1 x2 xb xs hb3 q0 q1 q2 q3 r0 r1 r2 r3 rf gz hz pa pm pb
      rintro wx ⟨gz, az, mz, bz, cz, nz, dz, hz⟩
      generalize w3.heap.size = C at *
      have gwx : RB wx.drew (g) ⟨X, Y, W, H⟩ := gz
      have awx : RB wx.drew (A) ⟨aX, aY, aW, aH⟩ := az
      have mwx : RB wx.drew (A + 1) ⟨mX, mY, mW, mH⟩ := mz
      have bwx : RB wx.drew (A + 1 + 1) ⟨bX, bY, bW, bH⟩ := bz
      have cwx : RB wx.drew (C) ⟨aX, aY, aW, aH⟩ := cz
      have nwx : RB wx.drew (C + 1) ⟨mX, mY, mW, mH⟩ := nz
      have dwx : RB wx.drew (C + 1 + 1) ⟨bX, bY, bW, bH⟩ := dz
      have kwx : Below w.heap.size w wx.drew := hz.drew
      clear gz az mz bz cz nz dz hz CUT RCUT
      go_region_held3 (fun w' => w'.cell? ⟨g, 0, none⟩ = some (.int .i64 X) ∧ w'.cell? ⟨g, 1, none⟩ = some (.int .i64 Y) ∧ w'.cell? ⟨g, 2, none⟩ = some (.int .i64 W) ∧ w'.cell? ⟨g, 3, none⟩ = some (.int .i64 H) ∧ w'.cell? ⟨A, 0, none⟩ = some (.int .i64 aX) ∧ w'.cell? ⟨A, 1, none⟩ = some (.int .i64 aY) ∧ w'.cell? ⟨A, 2, none⟩ = some (.int .i64 aW) ∧ w'.cell? ⟨A, 3, none⟩ = some (.int .i64 aH) ∧ w'.cell? ⟨A + 1, 0, none⟩ = some (.int .i64 mX) ∧ w'.cell? ⟨A + 1, 1, none⟩ = some (.int .i64 mY) ∧ w'.cell? ⟨A + 1, 2, none⟩ = some (.int .i64 mW) ∧ w'.cell? ⟨A + 1, 3, none⟩ = some (.int .i64 mH) ∧ w'.cell? ⟨A + 1 + 1, 0, none⟩ = some (.int .i64 bX) ∧ w'.cell? ⟨A + 1 + 1, 1, none⟩ = some (.int .i64 bY) ∧ w'.cell? ⟨A + 1 + 1, 2, none⟩ = some (.int .i64 bW) ∧ w'.cell? ⟨A + 1 + 1, 3, none⟩ = some (.int .i64 bH) ∧ w'.cell? ⟨C, 0, none⟩ = some (.int .i64 aX) ∧ w'.cell? ⟨C, 1, none⟩ = some (.int .i64 aY) ∧ w'.cell? ⟨C, 2, none⟩ = some (.int .i64 aW) ∧ w'.cell? ⟨C, 3, none⟩ = some (.int .i64 aH) ∧ w'.cell? ⟨C + 1, 0, none⟩ = some (.int .i64 mX) ∧ w'.cell? ⟨C + 1, 1, none⟩ = some (.int .i64 mY) ∧ w'.cell? ⟨C + 1, 2, none⟩ = some (.int .i64 mW) ∧ w'.cell? ⟨C + 1, 3, none⟩ = some (.int .i64 mH) ∧ w'.cell? ⟨C + 1 + 1, 0, none⟩ = some (.int .i64 bX) ∧ w'.cell? ⟨C + 1 + 1, 1, none⟩ = some (.int .i64 bY) ∧ w'.cell? ⟨C + 1 + 1, 2, none⟩ = some (.int .i64 bW) ∧ w'.cell? ⟨C + 1 + 1, 3, none⟩ = some (.int .i64 bH))
        (first
            | with_reducible exact S7 gwx awx mwx bwx cwx nwx dwx
            | with_reducible exact S7 gv1 av1 mv1 bv1 cv1 nv1 dv1
            | with_reducible exact S7 gv2 av2 mv2 bv2 cv2 nv2 dv2
            | with_reducible exact S7 gv3 av3 mv3 bv3 cv3 nv3 dv3
            | with_reducible exact S7 gv4 av4 mv4 bv4 cv4 nv4 dv4
            | fail)
        (first
            | (go_at_call 9
               (with_reducible refine (IN _).mono ?_)
               rintro e v1 ⟨rfl, hv1⟩
               have gv1 := gwx.below hv1 gwx.lt
               have av1 := awx.below hv1 awx.lt
               have mv1 := mwx.below hv1 mwx.lt
               have bv1 := bwx.below hv1 bwx.lt
               have cv1 := cwx.below hv1 cwx.lt
               have nv1 := nwx.below hv1 nwx.lt
               have dv1 := dwx.below hv1 dwx.lt
               have kv1 := kwx.trans (hv1.mono kwx.size))
            | (go_at_call 12
               (with_reducible refine (RN _).mono ?_)
               rintro e v2 ⟨rfl, hv2⟩
               have gv2 := gv1.below hv2 gv1.lt
               have av2 := av1.below hv2 av1.lt
               have mv2 := mv1.below hv2 mv1.lt
               have bv2 := bv1.below hv2 bv1.lt
               have cv2 := cv1.below hv2 cv1.lt
               have nv2 := nv1.below hv2 nv1.lt
               have dv2 := dv1.below hv2 dv1.lt
               have kv2 := kv1.trans (hv2.mono kv1.size))
            | (go_at_call 10
               (with_reducible refine (AR _).mono ?_)
               rintro e v3 ⟨rfl, hv3⟩
               have gv3 := gv2.below hv3 gv2.lt
               have av3 := av2.below hv3 av2.lt
               have mv3 := mv2.below hv3 mv2.lt
               have bv3 := bv2.below hv3 bv2.lt
               have cv3 := cv2.below hv3 cv2.lt
               have nv3 := nv2.below hv3 nv2.lt
               have dv3 := dv2.below hv3 dv2.lt
               have kv3 := kv2.trans (hv3.mono kv2.size))
            | (go_at_call 13
               (with_reducible refine (RR _).mono ?_)
               rintro e v4 ⟨rfl, hv4⟩
               have gv4 := gv3.below hv4 gv3.lt
               have av4 := av3.below hv4 av3.lt
               have mv4 := mv3.below hv4 mv3.lt
               have bv4 := bv3.below hv4 bv3.lt
               have cv4 := cv3.below hv4 cv3.lt
               have nv4 := nv3.below hv4 nv3.lt
               have dv4 := dv3.below hv4 dv3.lt
               have kv4 := kv3.trans (hv4.mono kv3.size)))
      have gl := gv4.lt
      go_upto_region 8 with fail
      refine wp_world (fun wq => RB wq g ⟨X, Y, W, H⟩ ∧ Below w.heap.size w wq) ⟨gv4, kv4⟩ ?_
      clear gwx awx mwx bwx cwx nwx dwx kwx hv1 hv2 hv3 hv4 gv1 av1 mv1 bv1 cv1 nv1 dv1 kv1 gv2 av2 mv2 bv2 cv2 nv2 dv2 kv2 gv3 av3 mv3 bv3 cv3 nv3 dv3 kv3 gv4 av4 mv4 bv4 cv4 nv4 dv4 kv4 gl
      rintro wz ⟨gz, hz⟩
      obtain ⟨y0, y1, y2, y3, yf⟩ := gz.cells
      dsimp only at y0 y1 y2 y3
      obtain ⟨X2, eX, lX, uX⟩ := and15 X
      obtain ⟨Y2, eY, lY, uY⟩ := and15 Y
      obtain ⟨W2, eW, lW, uW⟩ := and15 W
      obtain ⟨H2, eH, lH, uH⟩ := and15 H
      obtain ⟨d2, ed, _, _⟩ := and3 d
      obtain ⟨f2, ef, _, _⟩ := and15 f
      obtain ⟨x2, ex, lx, ux⟩ := and31 x
      obtain ⟨y2', ey, ly, uy⟩ := and31 y
      go_wp2_with fail
      go_roundw
      case rel =>
        exact ⟨k + 1, ⟨X2, Y2, W2, H2⟩, d2, f2, x2, y2', by omega, by go_num, rfl, rfl, rfl, rfl, by omega, by omega, gz.put ⟨X2, Y2, W2, H2⟩, below_set4 hz (by omega) _ _ _ _⟩
      case measure => simp [intOf]; omega
    · obtain rfl : k = 2 := by omega
      go_wp2_with (first
        | (go_at_call 8
           (with_reducible refine (awake_any _).mono ?_)
           rintro e v6 ⟨rfl, hv6⟩))
      go_ret
      exact ⟨rfl, hz.trans (hv6.mono hz.size)⟩
end Go.Proofs.Ytigpfpnikggojaa
