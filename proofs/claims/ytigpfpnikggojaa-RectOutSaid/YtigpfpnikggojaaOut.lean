/-
  The walk of RectOut. Conditions: none.
-/
import Derived.Test.YtigpfpnikggojaaLits
import Derived.Test.YtigpfpnikggojaaWhole
import Derived.Deep.DeepCutAuto
namespace Go.Proofs.Ytigpfpnikggojaa
open Go.RowKit
set_option maxRecDepth 100000

/-- A part that lies within a rectangle, and has a place. -/
def Within (r q : R) : Prop := r.X ≤ q.X ∧ r.Y ≤ q.Y ∧ q.X + q.W ≤ r.X + r.W ∧ q.Y + q.H ≤ r.Y + r.H ∧ 1 ≤ q.W ∧ 1 ≤ q.H ∧ q.X ≤ 40 ∧ q.Y ≤ 40 ∧ q.W ≤ 40 ∧ q.H ≤ 40
theorem within_area {r q : R} (h : Within r q) (h0 : 0 ≤ r.X) (h1 : 0 ≤ r.Y) : (areaF q == 0) = false := by
  obtain ⟨a, b, c, d, e, f, g, i, j, k⟩ := h
  have n : noneF q = false := none_small (by omega)
  unfold areaF
  rw [n]
  simp only [Bool.false_eq_true, if_false, beq_eq_false_iff_ne]
  have := Int.mul_pos (show 0 < q.W by omega) (show 0 < q.H by omega)
  omega
theorem within_parts {r a m b : R} {dir first : Int} (hs : 0 ≤ r.X ∧ r.X ≤ 15 ∧ 0 ≤ r.Y ∧ r.Y ≤ 15 ∧ 1 ≤ r.W ∧ r.W ≤ 16 ∧ 1 ≤ r.H ∧ r.H ≤ 16)
    (h : (dir = 1 ∧ 1 ≤ first ∧ first ≤ r.W - 2 ∧ (a, m, b) = ((⟨r.X, r.Y, first, r.H⟩ : R), (⟨r.X + first, r.Y, 1, r.H⟩ : R), (⟨r.X + first + 1, r.Y, r.W - 1 - first, r.H⟩ : R))) ∨
      (dir = 2 ∧ 1 ≤ first ∧ first ≤ r.H - 2 ∧ (a, m, b) = ((⟨r.X, r.Y, r.W, first⟩ : R), (⟨r.X, r.Y + first, r.W, 1⟩ : R), (⟨r.X, r.Y + first + 1, r.W, r.H - 1 - first⟩ : R)))) (k : Nat) : Within r (pt a m b k) := by
  obtain ⟨X, Y, W, H⟩ := r
  dsimp only at *
  rcases h with ⟨rfl, l0, l1, h⟩ | ⟨rfl, l0, l1, h⟩
  · injection h with h1 h; injection h with h2 h3
    subst h1; subst h2; subst h3
    unfold pt Within
    split
    · dsimp only; omega
    · split
      · dsimp only; omega
      · dsimp only; omega
  · injection h with h1 h; injection h with h2 h3
    subst h1; subst h2; subst h3
    unfold pt Within
    split
    · dsimp only; omega
    · split
      · dsimp only; omega
      · dsimp only; omega

theorem R4 {w : World} {g : Nat} {r : R} (h : RB w g r) : w.cell? ⟨g, 0, none⟩ = some (.int .i64 r.X) ∧ w.cell? ⟨g, 1, none⟩ = some (.int .i64 r.Y) ∧ w.cell? ⟨g, 2, none⟩ = some (.int .i64 r.W) ∧ w.cell? ⟨g, 3, none⟩ = some (.int .i64 r.H) := ⟨h.cells.1, h.cells.2.1, h.cells.2.2.1, h.cells.2.2.2.1⟩
/-- How many of the places -1, 0, .. (k of them) cut. -/
def cntO (L : Int) (k : Nat) : Int := max 0 (min ((k : Int) - 2) (L - 2))
def OutRel (w0 : World) (g : Nat) (r : R) (L : Int) (s5 s6 : Value) (w : World) : Prop :=
  ∃ k : Nat, k ≤ 21 ∧ s6 = .int .i64 ((k : Int) - 1) ∧ s5 = .int .i64 (cntO L k) ∧ RB w g r ∧ Below w0.heap.size w0 w
def InRel (w0 : World) (g T : Nat) (r a m b : R) (s : Value) (w : World) : Prop :=
  ∃ j : Nat, j ≤ 3 ∧ s = .int .i64 j ∧ RB w g r ∧ TB w T a m b ∧ Below w0.heap.size w0 w

theorem in_small {X Y W H x y : Int} {q : Bool} (hs : 0 ≤ X ∧ X ≤ 15 ∧ 0 ≤ Y ∧ Y ≤ 15 ∧ 1 ≤ W ∧ W ≤ 16 ∧ 1 ≤ H ∧ H ≤ 16) (h : (q = true) ↔ (X ≤ x ∧ x < X + W ∧ Y ≤ y ∧ y < Y + H)) : inF ⟨X, Y, W, H⟩ x y = q := by
  have n : noneF ⟨X, Y, W, H⟩ = false := none_small (by dsimp only; omega)
  unfold inF
  rw [n, Bool.eq_iff_iff, h]
  simp only [Bool.not_false, Bool.true_and, Bool.and_eq_true, decide_eq_true_eq]
  omega

set_option maxHeartbeats 8000000 in
theorem out_walk (r0 : R) (dir0 : Int) (w : World) : Calls Try.prog 4 #[rv r0, .int .i64 dir0] w (TrueBelow w) := by
  obtain ⟨X0, Y0, W0, H0⟩ := r0
  obtain ⟨X, eX, lX, uX⟩ := and15 X0
  obtain ⟨Y, eY, lY, uY⟩ := and15 Y0
  obtain ⟨W1, eW, lW1, uW1⟩ := and15 W0
  obtain ⟨H1, eH, lH1, uH1⟩ := and15 H0
  obtain ⟨d0, ed, ld, ud⟩ := and1 dir0
  unfold rv at *
  dsimp only at *
  go_enter Try.func4, Try.ntmps4
  go_upto_region 2 with fail
  have gz := RB.new w ⟨X, Y, W1 + 1, H1 + 1⟩
  have hz := (Below.refl w.heap.size w).alloc (Nat.le_refl _) (.cells #[.int .i64 X, .int .i64 Y, .int .i64 (W1 + 1), .int .i64 (H1 + 1)] 23)
  clear eX eY eW eH
  have lW : 1 ≤ W1 + 1 ∧ W1 + 1 ≤ 16 := by omega
  have lH : 1 ≤ H1 + 1 ∧ H1 + 1 ≤ 16 := by omega
  generalize W1 + 1 = W at *
  generalize H1 + 1 = H at *
  have I0 := fun w => in_is (in_small (x := X) (y := Y) (q := true) ⟨lX, uX, lY, uY, lW.1, lW.2, lH.1, lH.2⟩ (by simp <;> omega)) w
  have I1 := fun w => in_is (in_small (x := X + W - 1) (y := Y + H - 1) (q := true) ⟨lX, uX, lY, uY, lW.1, lW.2, lH.1, lH.2⟩ (by simp <;> omega)) w
  have I2 := fun w => in_is (in_small (x := X - 1) (y := Y) (q := false) ⟨lX, uX, lY, uY, lW.1, lW.2, lH.1, lH.2⟩ (by simp <;> omega)) w
  have I3 := fun w => in_is (in_small (x := X + W) (y := Y) (q := false) ⟨lX, uX, lY, uY, lW.1, lW.2, lH.1, lH.2⟩ (by simp <;> omega)) w
  have I4 := fun w => in_is (in_small (x := X) (y := Y + H) (q := false) ⟨lX, uX, lY, uY, lW.1, lW.2, lH.1, lH.2⟩ (by simp <;> omega)) w
  have I5 := fun w => in_is (in_small (x := X) (y := Y - 1) (q := false) ⟨lX, uX, lY, uY, lW.1, lW.2, lH.1, lH.2⟩ (by simp <;> omega)) w
  have hn : noneF ⟨X, Y, W, H⟩ = false := none_small (by dsimp only; omega)
  have har := area_wrap hn
  have AR := fun w => area_is (r := ⟨X, Y, W, H⟩) (q := W * H) (by unfold areaF; rw [hn]; rfl) w
  dsimp only at I0 I1 I2 I3 I4 I5 AR har
  have HN := Lib.hid hn
  clear hn
  have e1 : IntKind.i64.wrap (X + W) = X + W := by rw [IntKind.wrap_i64]; omega
  have e2 : IntKind.i64.wrap (Y + H) = Y + H := by rw [IntKind.wrap_i64]; omega
  have e3 : IntKind.i64.wrap (X + W - 1) = X + W - 1 := by rw [IntKind.wrap_i64]; omega
  have e4 : IntKind.i64.wrap (Y + H - 1) = Y + H - 1 := by rw [IntKind.wrap_i64]; omega
  have e5 : IntKind.i64.wrap (X - 1) = X - 1 := by rw [IntKind.wrap_i64]; omega
  have e6 : IntKind.i64.wrap (Y - 1) = Y - 1 := by rw [IntKind.wrap_i64]; omega
  have e7 : IntKind.i64.wrap (W * H) = W * H := by
    obtain ⟨_, h1, h2⟩ := har
    generalize W * H = z at *
    rw [IntKind.wrap_i64]; omega
  have e8 : wrap64 (W * H) = W * H := har.1
  clear har
  generalize hg : w.heap.size = g at gz ⊢
  go_cut [101] from 28 (fun s101 wc => s101 = .bool false ∧ RB wc g ⟨X, Y, W, H⟩ ∧ Below w.heap.size w wc)
  case first =>
    refine wp_world (fun wx => RB wx g ⟨X, Y, W, H⟩ ∧ Below w.heap.size w wx) ⟨gz, hz⟩ ?_
    clear gz hz
    rintro wx ⟨gz, hz⟩
    have gwx : RB wx.drew g ⟨X, Y, W, H⟩ := gz
    have kwx : Below w.heap.size w wx.drew := hz.drew

    clear gz hz
    simp only [List.append_eq, List.cons_append, List.nil_append]
    go_region_held3 (fun w' => w'.cell? ⟨g, 0, none⟩ = some (.int .i64 X) ∧ w'.cell? ⟨g, 1, none⟩ = some (.int .i64 Y) ∧ w'.cell? ⟨g, 2, none⟩ = some (.int .i64 W) ∧ w'.cell? ⟨g, 3, none⟩ = some (.int .i64 H))
      (first
        | with_reducible exact R4 gwx
        | with_reducible exact R4 gv0
        | with_reducible exact R4 gv1
        | with_reducible exact R4 gv2
        | with_reducible exact R4 gv3
        | with_reducible exact R4 gv4
        | with_reducible exact R4 gv5
        | with_reducible exact R4 gv6
        | fail)
      (first
        | (go_at_call 9
           (with_reducible refine (I0 _).mono ?_)
           rintro e v0 ⟨rfl, hv0⟩
           have gv0 := gwx.below hv0 gwx.lt
           have kv0 := kwx.trans (hv0.mono kwx.size))
        | (go_at_call 9
           (with_reducible refine (I1 _).mono ?_)
           rintro e v1 ⟨rfl, hv1⟩
           have gv1 := gv0.below hv1 gv0.lt
           have kv1 := kv0.trans (hv1.mono kv0.size))
        | (go_at_call 9
           (with_reducible refine (I2 _).mono ?_)
           rintro e v2 ⟨rfl, hv2⟩
           have gv2 := gv1.below hv2 gv1.lt
           have kv2 := kv1.trans (hv2.mono kv1.size))
        | (go_at_call 9
           (with_reducible refine (I3 _).mono ?_)
           rintro e v3 ⟨rfl, hv3⟩
           have gv3 := gv2.below hv3 gv2.lt
           have kv3 := kv2.trans (hv3.mono kv2.size))
        | (go_at_call 9
           (with_reducible refine (I4 _).mono ?_)
           rintro e v4 ⟨rfl, hv4⟩
           have gv4 := gv3.below hv4 gv3.lt
           have kv4 := kv3.trans (hv4.mono kv3.size))
        | (go_at_call 9
           (with_reducible refine (I5 _).mono ?_)
           rintro e v5 ⟨rfl, hv5⟩
           have gv5 := gv4.below hv5 gv4.lt
           have kv5 := kv4.trans (hv5.mono kv4.size))
        | (go_at_call 10
           (with_reducible refine (AR _).mono ?_)
           rintro e v6 ⟨rfl, hv6⟩
           have gv6 := gv5.below hv6 gv5.lt
           have kv6 := kv5.trans (hv6.mono kv5.size)))
    go_wp2_with fail
    go_meet
    exact ⟨rfl, gv6, kv6⟩

  case rest =>
  obtain ⟨rfl, gz, hz⟩ := hcut
  clear I0 I1 I2 I3 I4 I5 AR e1 e2 e3 e4 e5 e6 e7 e8
  go_upto_region 5 with fail
  have ld1 : 1 ≤ d0 + 1 ∧ d0 + 1 ≤ 2 := by omega
  clear ed
  generalize d0 + 1 = dr at *
  clear ld ud
  obtain ⟨L, hL, lL, uL⟩ : ∃ L : Int, L = (if dr = 1 then W else H) ∧ 1 ≤ L ∧ L ≤ 16 := ⟨_, rfl, by split <;> omega, by split <;> omega⟩
  have HLL := Lib.hid hL
  clear hL
  go_wp2_with fail
  go_loopw [5, 6] (OutRel w g ⟨X, Y, W, H⟩ L) (fun _ i _ => 21 - (intOf i + 1).toNat)
  case atStart =>
    exact ⟨0, by decide, rfl, by unfold cntO; congr 1; omega, gz, hz⟩
  case round =>
    obtain ⟨k, hk, rfl, rfl, gz, hz⟩ := hrel
    by_cases hlt : k < 21
    · have hki : (k : Int) - 1 < 20 := by omega
      have hk0 : -1 ≤ (k : Int) - 1 := by omega
      have key := cut_ways HN.out dr ((k : Int) - 1)
      have CUT := fun w => cut_any ⟨X, Y, W, H⟩ dr ((k : Int) - 1) w
      unfold rv at CUT
      dsimp only at key CUT
      obtain ⟨r0, r1, r2, r3, rf⟩ := gz.cells
      dsimp only at r0 r1 r2 r3
      have Y3 : (∃ a m b : R, cutF ⟨X, Y, W, H⟩ dr ((k : Int) - 1) = (a, m, b, true) ∧ (∀ j, Within ⟨X, Y, W, H⟩ (pt a m b j)) ∧ cntO L (k + 1) = cntO L k + 1) ∨ (cutF ⟨X, Y, W, H⟩ dr ((k : Int) - 1) = (zR, zR, zR, false) ∧ cntO L (k + 1) = cntO L k) := by
        have hL := HLL.out
        rcases key with ⟨k0, k1, k2, k⟩ | ⟨k0, k1, k2, k⟩ | ⟨k0, k1, k⟩
        · refine .inl ⟨_, _, _, k, within_parts (by dsimp only; omega) (.inl ⟨k0, k1, k2, rfl⟩), ?_⟩
          rw [if_pos k0] at hL
          unfold cntO; omega
        · refine .inl ⟨_, _, _, k, within_parts (by dsimp only; omega) (.inr ⟨k0, k1, k2, rfl⟩), ?_⟩
          rw [if_neg (by omega)] at hL
          unfold cntO; omega
        · refine .inr ⟨k, ?_⟩
          by_cases hd : dr = 1
          · rw [if_pos hd] at hL
            unfold cntO; omega
          · rw [if_neg hd] at hL
            unfold cntO; omega
      clear key
      have hc0 : 0 ≤ cntO L k ∧ cntO L k ≤ 20 := by unfold cntO; omega
      rcases Y3 with ⟨a, m, b, ck, HW, hcn⟩ | ⟨ck, hcn⟩
      · rw [ck] at CUT
        clear ck
        have HWW := Lib.hid HW
        have HCN := Lib.hid hcn
        clear HW hcn
        generalize cntO L k = cn at *
        generalize hK : cntO L (k + 1) = cn2 at *
        have HKK := Lib.hid hK
        clear hK
        have HT : Hid (∀ w g k, TB w g a m b → k < 3 → _) := Lib.hid fun w g k h (hk : k < 3) => TB.row (w := w) (g := g) h hk
        generalize pt a m b = pp at *
        obtain ⟨aX, aY, aW, aH⟩ := a
        obtain ⟨mX, mY, mW, mH⟩ := m
        obtain ⟨bX, bY, bW, bH⟩ := b
        unfold cutV rv at CUT
        dsimp only at CUT
        go_upto_region 10 with (first
          | (go_at_call 7
             (with_reducible refine (CUT _).mono ?_)
             rintro e w2 ⟨rfl, hb2⟩))
        have p2 := gz.below hb2 gz.lt
        obtain ⟨x0, x1, x2, xb, xs⟩ := boxes w2 ⟨aX, aY, aW, aH⟩ ⟨mX, mY, mW, mH⟩ ⟨bX, bY, bW, bH⟩
        refine wp_world (fun wq => RB wq g ⟨X, Y, W, H⟩ ∧ RB wq w2.heap.size ⟨aX, aY, aW, aH⟩ ∧ RB wq (w2.heap.size + 1) ⟨mX, mY, mW, mH⟩ ∧ RB wq (w2.heap.size + 1 + 1) ⟨bX, bY, bW, bH⟩ ∧ Below w.heap.size w wq) ⟨((p2.alloc _).alloc _).alloc _, x0, x1, x2, (hz.trans (hb2.mono hz.size)).trans (xb.mono (Nat.le_trans hz.size hb2.size))⟩ ?_
        clear x0 x1 x2 xb xs p2 hb2 r0 r1 r2 r3 rf gz hz
        rintro wq ⟨gz, pa, pm, pb, hz⟩
        generalize w2.heap.size = C at *
        obtain ⟨a0, a1, a2, a3, af⟩ := pa.cells
        obtain ⟨m0, m1, m2, m3, mf⟩ := pm.cells
        obtain ⟨b0, b1, b2, b3, bf⟩ := pb.cells
        dsimp only at a0 a1 a2 a3 m0 m1 m2 m3 b0 b1 b2 b3
        go_wp2_with fail
        have gl := gz.lt
        clear a0 a1 a2 a3 af m0 m1 m2 m3 mf b0 b1 b2 b3 bf CUT
        go_loopw [127] (InRel w g wq.heap.size ⟨X, Y, W, H⟩ ⟨aX, aY, aW, aH⟩ ⟨mX, mY, mW, mH⟩ ⟨bX, bY, bW, bH⟩) (fun i _ => 3 - (intOf i).toNat)
        case atStart =>
          exact ⟨0, by decide, rfl, gz.alloc _, Held.new _ _ _, hz.alloc hz.size _⟩
        case round =>
          clear gl
          obtain ⟨j, hj, rfl, gz, tz, hz⟩ := hrel
          by_cases hjt : j < 3
          · have hji : (j : Int) < 3 := by omega
            obtain ⟨t0, t1, t2, t3⟩ := HT.out _ _ _ tz hjt
            have hw := HWW.out j
            have hfa := within_area hw lX lY
            generalize hq : pp j = q at *
            have AQ := fun w => area_any q w
            clear hq
            obtain ⟨qX, qY, qW, qH⟩ := q
            generalize areaF ⟨qX, qY, qW, qH⟩ = uq at *
            unfold rv at AQ
            unfold Within at hw
            obtain ⟨h1, h2, h3, h4, h5, h6, h7, h8, h9, h10⟩ := hw
            dsimp only at t0 t1 t2 t3 AQ h1 h2 h3 h4 h5 h6 h7 h8 h9 h10
            have HTZ := Lib.hid tz
            have gl := gz.lt
            clear tz
            obtain ⟨r0, r1, r2, r3, rf⟩ := gz.cells
            dsimp only at r0 r1 r2 r3
            have f1 : decide (qX < X) = false := by simp; omega
            have f2 : decide (qY < Y) = false := by simp; omega
            have f3 : decide (X + W < qX + qW) = false := by simp; omega
            have f4 : decide (Y + H < qY + qH) = false := by simp; omega
            go_wp2_with (first
              | (go_at_call 10
                 (with_reducible refine (AQ _).mono ?_)
                 rintro e w5 ⟨rfl, hb5⟩))
            go_roundw
            case rel =>
              have tl := Held.lt HTZ.out
              have hB := ((Below.refl wr.heap.size wr).alloc (Nat.le_refl _) _).trans (hb5.mono (by simp))
              exact ⟨j + 1, by omega, by go_num, gz.below hB gl, Held.below HTZ.out hB tl, hz.trans (hB.mono hz.size)⟩
            case measure => simp [intOf]; omega
          · obtain rfl : j = 3 := by omega
            clear tz HT
            go_wp2_with fail
            go_roundw
            case rel => exact ⟨k + 1, by omega, by go_num, by rw [HKK.out, HCN.out], gz, hz⟩
            case measure => simp [intOf]; omega
      · rw [ck] at CUT
        clear ck
        unfold cutV rv zR at CUT
        dsimp only at CUT
        go_wp2_with (first
          | (go_at_call 7
             (with_reducible refine (CUT _).mono ?_)
             rintro e w2 ⟨rfl, hb2⟩))
        go_roundw
        case rel =>
          have p2 := gz.below hb2 gz.lt
          obtain ⟨x0, x1, x2, xb, xs⟩ := boxes w2 zR zR zR
          exact ⟨k + 1, by omega, by go_num, by rw [hcn], ((p2.alloc _).alloc _).alloc _, (hz.trans (hb2.mono hz.size)).trans (xb.mono (Nat.le_trans hz.size hb2.size))⟩
        case measure => simp [intOf]; omega
    · obtain rfl : k = 21 := by omega
      obtain ⟨r0, r1, r2, r3, rf⟩ := gz.cells
      dsimp only at r0 r1 r2 r3
      have F : (dr = 1 ∧ 2 ≤ W ∧ cntO L 21 = W - 2) ∨ (dr = 1 ∧ W < 2 ∧ cntO L 21 = 0) ∨ (dr = 2 ∧ 2 ≤ H ∧ cntO L 21 = H - 2) ∨ (dr = 2 ∧ H < 2 ∧ cntO L 21 = 0) := by
        have hL := HLL.out
        by_cases hd : dr = 1
        · rw [if_pos hd] at hL
          unfold cntO; omega
        · rw [if_neg hd] at hL
          unfold cntO; omega
      have FF := Lib.hid F
      clear F
      generalize cntO L 21 = cc at *
      rcases FF.out with ⟨rfl, h1, rfl⟩ | ⟨rfl, h1, rfl⟩ | ⟨rfl, h1, rfl⟩ | ⟨rfl, h1, rfl⟩
      all_goals
        clear FF
        go_wp2_with (first
          | (go_at_call 8
             (with_reducible refine (awake_any _).mono ?_)
             rintro e v9 ⟨rfl, hv9⟩))
        go_ret
        exact ⟨rfl, (hz.alloc hz.size _).trans (hv9.mono (by have := hz.size; simp; omega))⟩
end Go.Proofs.Ytigpfpnikggojaa
