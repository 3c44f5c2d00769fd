/-
  The walk of RectWhole. Conditions: none.
-/
import Derived.Test.YtigpfpnikggojaaLits
import Derived.Deep.DeepCutAuto
namespace Go.Proofs.Ytigpfpnikggojaa
open Go.RowKit
set_option maxRecDepth 100000
set_option linter.unusedSimpArgs false

/-- How many of the parts a place is in. -/
def cnt (a m b : R) (x y : Int) : Nat → Int
  | 0 => 0
  | k + 1 => cnt a m b x y k + (if inF (pt a m b k) x y = true then 1 else 0)

def WRel (w0 : World) (cn : Nat → Int) (g A T : Nat) (r a m b : R) (s16 s91 : Value) (w : World) : Prop :=
  ∃ k : Nat, k ≤ 3 ∧ s91 = .int .i64 k ∧ s16 = .int .i64 (cn k) ∧ RB w g r ∧ RB w A a ∧ RB w (A + 1) m ∧ RB w (A + 1 + 1) b ∧ TB w T a m b ∧ Below w0.heap.size w0 w

theorem cnt_le (a m b : R) (x y : Int) (k : Nat) : 0 ≤ cnt a m b x y k ∧ cnt a m b x y k ≤ k := by
  induction k with
  | zero => exact ⟨Int.le_refl _, Int.le_refl _⟩
  | succ k ih =>
    unfold cnt
    split <;> omega

theorem whole_sum {r a m b : R} {dir first x y : Int} (hs : 0 ≤ r.X ∧ r.X ≤ 15 ∧ 0 ≤ r.Y ∧ r.Y ≤ 15 ∧ 0 ≤ r.W ∧ r.W ≤ 31 ∧ 0 ≤ r.H ∧ r.H ≤ 31)
    (h : (dir = 1 ∧ 1 ≤ first ∧ first ≤ r.W - 2 ∧ (a, m, b) = ((⟨r.X, r.Y, first, r.H⟩ : R), (⟨r.X + first, r.Y, 1, r.H⟩ : R), (⟨r.X + first + 1, r.Y, r.W - 1 - first, r.H⟩ : R))) ∨
      (dir = 2 ∧ 1 ≤ first ∧ first ≤ r.H - 2 ∧ (a, m, b) = ((⟨r.X, r.Y, r.W, first⟩ : R), (⟨r.X, r.Y + first, r.W, 1⟩ : R), (⟨r.X, r.Y + first + 1, r.W, r.H - 1 - first⟩ : R)))) :
    (cnt a m b x y 3 == 1) = inF r x y ∧ cnt a m b x y 3 ≤ 1 ∧ areaF a + areaF m + areaF b = areaF r ∧ 0 ≤ areaF a ∧ 0 ≤ areaF m ∧ 0 ≤ areaF b ∧ areaF a ≤ 1000000 ∧ areaF m ≤ 1000000 ∧ areaF b ≤ 1000000 := by
  obtain ⟨X, Y, W, H⟩ := r
  dsimp only at *
  have n0 : noneF ⟨X, Y, W, H⟩ = false := none_small (by dsimp only; omega)
  rcases h with ⟨rfl, l0, l1, h⟩ | ⟨rfl, l0, l1, h⟩
  · injection h with h1 h; injection h with h2 h3
    subst h1; subst h2; subst h3
    have n1 : noneF ⟨X, Y, first, H⟩ = false := none_small (by dsimp only; omega)
    have n2 : noneF ⟨X + first, Y, 1, H⟩ = false := none_small (by dsimp only; omega)
    have n3 : noneF ⟨X + first + 1, Y, W - 1 - first, H⟩ = false := none_small (by dsimp only; omega)
    refine ⟨?_, ?_, ?_, ?_⟩
    · rw [Bool.eq_iff_iff]
      simp only [cnt, pt, inF, n0, n1, n2, n3, beq_iff_eq, Bool.not_false, Bool.true_and, Bool.and_eq_true, decide_eq_true_eq, if_true, if_false, Nat.zero_add, Nat.succ_ne_zero, Nat.reduceAdd, Nat.reduceEqDiff]
      split <;> split <;> split <;> omega
    · simp only [cnt, pt, inF, n0, n1, n2, n3, beq_iff_eq, Bool.not_false, Bool.true_and, Bool.and_eq_true, decide_eq_true_eq, if_true, if_false, Nat.zero_add, Nat.succ_ne_zero, Nat.reduceAdd, Nat.reduceEqDiff]
      split <;> split <;> split <;> omega
    · unfold areaF
      simp only [n0, n1, n2, n3, Bool.false_eq_true, if_false]
      rw [← Int.add_mul, ← Int.add_mul]
      congr 1
      omega
    · have a1 := area_wrap n1
      have a2 := area_wrap n2
      have a3 := area_wrap n3
      unfold areaF
      simp only [n0, n1, n2, n3, Bool.false_eq_true, if_false]
      exact ⟨a1.2.1, a2.2.1, a3.2.1, a1.2.2, a2.2.2, a3.2.2⟩
  · injection h with h1 h; injection h with h2 h3
    subst h1; subst h2; subst h3
    have n1 : noneF ⟨X, Y, W, first⟩ = false := none_small (by dsimp only; omega)
    have n2 : noneF ⟨X, Y + first, W, 1⟩ = false := none_small (by dsimp only; omega)
    have n3 : noneF ⟨X, Y + first + 1, W, H - 1 - first⟩ = false := none_small (by dsimp only; omega)
    refine ⟨?_, ?_, ?_, ?_⟩
    · rw [Bool.eq_iff_iff]
      simp only [cnt, pt, inF, n0, n1, n2, n3, beq_iff_eq, Bool.not_false, Bool.true_and, Bool.and_eq_true, decide_eq_true_eq, if_true, if_false, Nat.zero_add, Nat.succ_ne_zero, Nat.reduceAdd, Nat.reduceEqDiff]
      split <;> split <;> split <;> omega
    · simp only [cnt, pt, inF, n0, n1, n2, n3, beq_iff_eq, Bool.not_false, Bool.true_and, Bool.and_eq_true, decide_eq_true_eq, if_true, if_false, Nat.zero_add, Nat.succ_ne_zero, Nat.reduceAdd, Nat.reduceEqDiff]
      split <;> split <;> split <;> omega
    · unfold areaF
      simp only [n0, n1, n2, n3, Bool.false_eq_true, if_false]
      rw [← Int.mul_add, ← Int.mul_add]
      congr 1
      omega
    · have a1 := area_wrap n1
      have a2 := area_wrap n2
      have a3 := area_wrap n3
      unfold areaF
      simp only [n0, n1, n2, n3, Bool.false_eq_true, if_false]
      exact ⟨a1.2.1, a2.2.1, a3.2.1, a1.2.2, a2.2.2, a3.2.2⟩

theorem S4 {w : World} {g A : Nat} {r a m b : R} (h0 : RB w g r) (h1 : RB w A a) (h2 : RB w (A + 1) m) (h3 : RB w (A + 1 + 1) b) :
    w.cell? ⟨g, 0, none⟩ = some (.int .i64 r.X) ∧ w.cell? ⟨g, 1, none⟩ = some (.int .i64 r.Y) ∧ w.cell? ⟨g, 2, none⟩ = some (.int .i64 r.W) ∧ w.cell? ⟨g, 3, none⟩ = some (.int .i64 r.H) ∧
    w.cell? ⟨A, 0, none⟩ = some (.int .i64 a.X) ∧ w.cell? ⟨A, 1, none⟩ = some (.int .i64 a.Y) ∧ w.cell? ⟨A, 2, none⟩ = some (.int .i64 a.W) ∧ w.cell? ⟨A, 3, none⟩ = some (.int .i64 a.H) ∧
    w.cell? ⟨A + 1, 0, none⟩ = some (.int .i64 m.X) ∧ w.cell? ⟨A + 1, 1, none⟩ = some (.int .i64 m.Y) ∧ w.cell? ⟨A + 1, 2, none⟩ = some (.int .i64 m.W) ∧ w.cell? ⟨A + 1, 3, none⟩ = some (.int .i64 m.H) ∧
    w.cell? ⟨A + 1 + 1, 0, none⟩ = some (.int .i64 b.X) ∧ w.cell? ⟨A + 1 + 1, 1, none⟩ = some (.int .i64 b.Y) ∧ w.cell? ⟨A + 1 + 1, 2, none⟩ = some (.int .i64 b.W) ∧ w.cell? ⟨A + 1 + 1, 3, none⟩ = some (.int .i64 b.H) := by
  obtain ⟨a0, a1, a2, a3, _⟩ := h0.cells
  obtain ⟨b0, b1, b2, b3, _⟩ := h1.cells
  obtain ⟨c0, c1, c2, c3, _⟩ := h2.cells
  obtain ⟨d0, d1, d2, d3, _⟩ := h3.cells
  exact ⟨a0, a1, a2, a3, b0, b1, b2, b3, c0, c1, c2, c3, d0, d1, d2, d3⟩

set_option maxHeartbeats 4000000 in
theorem whole_walk (r0 : R) (dir0 first0 x0 y0 : Int) (w : World) :
    Calls Try.prog 6 #[rv r0, .int .i64 dir0, .int .i64 first0, .int .i64 x0, .int .i64 y0] w (TrueBelow w) := by
  obtain ⟨X0, Y0, W0, H0⟩ := r0
  obtain ⟨X, eX, lX, uX⟩ := and15 X0
  obtain ⟨Y, eY, lY, uY⟩ := and15 Y0
  obtain ⟨W, eW, lW, uW⟩ := and31 W0
  obtain ⟨H, eH, lH, uH⟩ := and31 H0
  obtain ⟨d0, ed, ld, ud⟩ := and1 dir0
  obtain ⟨first, ef, lf, uf⟩ := and31 first0
  obtain ⟨x1, ex, lx, ux⟩ := and63 x0
  obtain ⟨y1, ey, ly, uy⟩ := and63 y0
  have hn : noneF ⟨X, Y, W, H⟩ = false := none_small (by dsimp only; omega)
  have key := cut_ways hn (d0 + 1) first
  have CUT := fun w => cut_any ⟨X, Y, W, H⟩ (d0 + 1) first w
  have INR := fun w => in_any ⟨X, Y, W, H⟩ (x1 - 4) (y1 - 4) w
  clear hn
  unfold rv at *
  dsimp only at *
  go_enter Try.func6, Try.ntmps6
  go_upto_region 3 with fail
  refine wp_world (fun wq => RB wq w.heap.size ⟨X, Y, W, H⟩ ∧ Below w.heap.size w wq) ⟨RB.new w ⟨X, Y, W, H⟩, (Below.refl w.heap.size w).alloc (Nat.le_refl _) _⟩ ?_
  rintro wq ⟨p0, hw⟩
  clear eX eY eW eH ed ef ex ey
  obtain ⟨r0, r1, r2, r3, rf⟩ := p0.cells
  dsimp only at r0 r1 r2 r3
  have ld1 : 1 ≤ d0 + 1 ∧ d0 + 1 ≤ 2 := by omega
  have lx1 : -4 ≤ x1 - 4 ∧ x1 - 4 ≤ 59 := by omega
  have ly1 : -4 ≤ y1 - 4 ∧ y1 - 4 ≤ 59 := by omega
  generalize d0 + 1 = dr at *
  generalize x1 - 4 = x at *
  generalize y1 - 4 = y at *
  clear ld ud lx ux ly uy
  have Y3 : (∃ a m b : R, cutF ⟨X, Y, W, H⟩ dr first = (a, m, b, true) ∧ 1 ≤ first ∧ ((dr = 1 ∧ first ≤ W - 2) ∨ (dr = 2 ∧ first ≤ H - 2)) ∧
      ((cnt a m b x y 3 == 1) = inF ⟨X, Y, W, H⟩ x y ∧ cnt a m b x y 3 ≤ 1 ∧ areaF a + areaF m + areaF b = areaF ⟨X, Y, W, H⟩ ∧ 0 ≤ areaF a ∧ 0 ≤ areaF m ∧ 0 ≤ areaF b ∧ areaF a ≤ 1000000 ∧ areaF m ≤ 1000000 ∧ areaF b ≤ 1000000)) ∨
      (¬ (dr = 1 ∧ 1 ≤ first ∧ first ≤ W - 2) ∧ ¬ (dr = 2 ∧ 1 ≤ first ∧ first ≤ H - 2) ∧ cutF ⟨X, Y, W, H⟩ dr first = (zR, zR, zR, false)) := by
    rcases key with ⟨k0, k1, k2, k⟩ | ⟨k0, k1, k2, k⟩ | ⟨k0, k1, k⟩
    · exact .inl ⟨_, _, _, k, k1, .inl ⟨k0, k2⟩, whole_sum (by dsimp only; omega) (.inl ⟨k0, k1, k2, rfl⟩)⟩
    · exact .inl ⟨_, _, _, k, k1, .inr ⟨k0, k2⟩, whole_sum (by dsimp only; omega) (.inr ⟨k0, k1, k2, rfl⟩)⟩
    · exact .inr ⟨k0, k1, k⟩
  clear key
  rcases Y3 with ⟨a, m, b, k, k1, kd, HS⟩ | ⟨k0, k1, k⟩
  · rw [k] at CUT
    clear k
    have AA0 := fun w => area_any a w
    have AM0 := fun w => area_any m w
    have AB0 := fun w => area_any b w
    have AR0 := fun w => area_any ⟨X, Y, W, H⟩ w
    have HP : Hid (∀ k, (inF (pt a m b k) x y = true → cnt a m b x y (k + 1) = cnt a m b x y k + 1) ∧ (inF (pt a m b k) x y = false → cnt a m b x y (k + 1) = cnt a m b x y k)) := by
      refine Lib.hid fun k => ⟨fun h => ?_, fun h => ?_⟩
      · show cnt a m b x y k + (if inF (pt a m b k) x y = true then 1 else 0) = _
        rw [h]; rfl
      · show cnt a m b x y k + (if inF (pt a m b k) x y = true then 1 else 0) = _
        rw [h]; simp
    have HN : Hid (∀ k : Nat, 0 ≤ cnt a m b x y k ∧ cnt a m b x y k ≤ k) := Lib.hid (cnt_le a m b x y)
    have HI : Hid (∀ (k : Nat) w, Calls Try.prog 9 #[.agg #[.int .i64 (pt a m b k).X, .int .i64 (pt a m b k).Y, .int .i64 (pt a m b k).W, .int .i64 (pt a m b k).H], .int .i64 x, .int .i64 y] w (New (.bool (inF (pt a m b k) x y)) w)) := Lib.hid fun k w => in_any (pt a m b k) x y w
    have HC0 : Hid (cnt a m b x y 0 = 0) := Lib.hid rfl
    have HT : Hid (∀ w g k, TB w g a m b → k < 3 → _) := Lib.hid fun w g k h (hk : k < 3) => TB.row (w := w) (g := g) h hk
    generalize cnt a m b x y = cn at *
    generalize pt a m b = pp at *
    obtain ⟨aX, aY, aW, aH⟩ := a
    obtain ⟨mX, mY, mW, mH⟩ := m
    obtain ⟨bX, bY, bW, bH⟩ := b
    unfold cutV rv at *
    dsimp only at *
    have HHS := Lib.hid HS
    clear HS
    go_upto_region 4 with (first
      | (go_at_call 7
         (with_reducible refine (CUT _).mono ?_)
         rintro e w2 ⟨rfl, hb2⟩))
    have p2 := p0.below hb2 p0.lt
    obtain ⟨x0, x1, x2, xb, xs⟩ := boxes w2 ⟨aX, aY, aW, aH⟩ ⟨mX, mY, mW, mH⟩ ⟨bX, bY, bW, bH⟩
    refine wp_world (fun wq => RB wq w.heap.size ⟨X, Y, W, H⟩ ∧ RB wq w2.heap.size ⟨aX, aY, aW, aH⟩ ∧ RB wq (w2.heap.size + 1) ⟨mX, mY, mW, mH⟩ ∧ RB wq (w2.heap.size + 1 + 1) ⟨bX, bY, bW, bH⟩ ∧ Below w.heap.size w wq) ⟨((p2.alloc _).alloc _).alloc _, x0, x1, x2, (hw.trans (hb2.mono hw.size)).trans (xb.mono (Nat.le_trans hw.size hb2.size))⟩ ?_
    clear x0 x1 x2 xb xs p2 hb2 r0 r1 r2 r3 rf p0 hw wq
    rintro wq ⟨p0, pa, pm, pb, hw⟩
    generalize w2.heap.size = A at *
    generalize hg : w.heap.size = g at p0 ⊢
    obtain ⟨r0, r1, r2, r3, rf⟩ := p0.cells
    obtain ⟨a0, a1, a2, a3, af⟩ := pa.cells
    obtain ⟨m0, m1, m2, m3, mf⟩ := pm.cells
    obtain ⟨b0, b1, b2, b3, bf⟩ := pb.cells
    dsimp only at r0 r1 r2 r3 a0 a1 a2 a3 m0 m1 m2 m3 b0 b1 b2 b3
    rcases kd with ⟨rfl, kd⟩ | ⟨rfl, kd⟩
    all_goals
      go_wp2_with fail
      have hz := pa.lt
      clear a0 a1 a2 a3 af m0 m1 m2 m3 mf b0 b1 b2 b3 bf r0 r1 r2 r3 rf
      go_loopw [16, 91] (WRel w cn g A wq.heap.size ⟨X, Y, W, H⟩ ⟨aX, aY, aW, aH⟩ ⟨mX, mY, mW, mH⟩ ⟨bX, bY, bW, bH⟩) (fun _ i _ => 3 - (intOf i).toNat)
      case atStart =>
        exact ⟨0, by decide, rfl, by rw [HC0.out], p0.alloc _, pa.alloc _, pm.alloc _, pb.alloc _, Held.new _ _ _, hw.alloc hw.size _⟩
      case round =>
        obtain ⟨k, hk, rfl, rfl, gz, az, mz, bz, tz, hz⟩ := hrel
        by_cases hlt : k < 3
        · have hki : (k : Int) < 3 := by omega
          obtain ⟨t0, t1, t2, t3⟩ := HT.out _ _ _ tz hlt
          have hI := HI.out k
          have hP := HP.out k
          have hN := HN.out k
          generalize hq : pp k = q at *
          obtain ⟨qX, qY, qW, qH⟩ := q
          dsimp only at t0 t1 t2 t3 hI
          have HTZ := Lib.hid tz
          have HN1 := Lib.hid hN
          clear hN hq
          cases hin : inF ⟨qX, qY, qW, qH⟩ x y with
          | true =>
            rw [hin] at hI
            have hP1 := Lib.hid (hP.1 hin)
            have hN0 := HN1.out
            have hki2 : 0 ≤ cn k ∧ cn k ≤ 3 := by omega
            clear hP hin
            go_wp2_with (first
              | (go_at_call 9
                 (with_reducible refine (hI _).mono ?_)
                 rintro e w5 ⟨rfl, hb5⟩))
            go_roundw
            case rel =>
              have gl := gz.lt
              have al := az.lt
              have ml := mz.lt
              have bl := bz.lt
              have tl := Held.lt HTZ.out
              have hs5 := hb5.size
              simp only [World.size_alloc] at hs5
              have hB := ((Below.refl wr.heap.size wr).alloc (Nat.le_refl _) _).trans (hb5.mono (by simp))
              exact ⟨k + 1, by omega, by go_num, by rw [hP1.out], gz.below hB gl, az.below hB al, mz.below hB ml, bz.below hB bl, Held.below HTZ.out hB tl, hz.trans (hB.mono hz.size)⟩
            case measure => simp [intOf]; omega
          | false =>
            rw [hin] at hI
            have hP1 := Lib.hid (hP.2 hin)
            clear hP hin
            go_wp2_with (first
              | (go_at_call 9
                 (with_reducible refine (hI _).mono ?_)
                 rintro e w5 ⟨rfl, hb5⟩))
            go_roundw
            case rel =>
              have gl := gz.lt
              have al := az.lt
              have ml := mz.lt
              have bl := bz.lt
              have tl := Held.lt HTZ.out
              have hB := ((Below.refl wr.heap.size wr).alloc (Nat.le_refl _) _).trans (hb5.mono (by simp))
              exact ⟨k + 1, by omega, by go_num, by rw [hP1.out], gz.below hB gl, az.below hB al, mz.below hB ml, bz.below hB bl, Held.below HTZ.out hB tl, hz.trans (hB.mono hz.size)⟩
            case measure => simp [intOf]; omega
        · obtain rfl : k = 3 := by omega
          clear tz HI HT HC0 HP
          obtain ⟨z1, z2, z3, z4, z5, z6, z7, z8, z9⟩ := HHS.out
          have hN := HN.out 3
          clear HHS HN
          have IN := INR
          generalize inF ⟨X, Y, W, H⟩ x y = ii at *
          generalize cn 3 = cc at *
          have AA := AA0
          have AM := AM0
          have AB := AB0
          have AR := AR0
          clear AA0 AM0 AB0 AR0 INR
          generalize areaF ⟨aX, aY, aW, aH⟩ = ua at *
          generalize areaF ⟨mX, mY, mW, mH⟩ = um at *
          generalize areaF ⟨bX, bY, bW, bH⟩ = ub at *
          generalize areaF ⟨X, Y, W, H⟩ = ur at *
          have hcc : (cc = 1 ∧ ii = true) ∨ (cc = 0 ∧ ii = false) := by
            cases ii
            · right
              have := z1
              rw [beq_eq_false_iff_ne] at this
              exact ⟨by omega, rfl⟩
            · left
              exact ⟨beq_iff_eq.1 z1, rfl⟩
          have hsum : (ua + um + ub == ur) = true := beq_iff_eq.2 z3
          have hsum2 : ua + um + ub = ur := z3
          have wr1 : wrap64 (ua + um) = ua + um := IntWalk.wrap64_in _ ⟨by omega, by omega⟩
          have wr2 : wrap64 (ua + um + ub) = ua + um + ub := IntWalk.wrap64_in _ ⟨by omega, by omega⟩
          have wr3 : IntKind.i64.wrap (IntKind.i64.wrap (ua + um) + ub) = ur := by
            rw [IntKind.wrap_i64, IntKind.wrap_i64]; omega
          clear z1 z2 z3 z4 z5 z6 z7 z8 z9 hN
          rcases hcc with ⟨rfl, rfl⟩ | ⟨rfl, rfl⟩
          all_goals
            go_upto_region 18 with fail
            refine wp_world (fun wx => RB wx g ⟨X, Y, W, H⟩ ∧ RB wx A ⟨aX, aY, aW, aH⟩ ∧ RB wx (A + 1) ⟨mX, mY, mW, mH⟩ ∧ RB wx (A + 1 + 1) ⟨bX, bY, bW, bH⟩ ∧ Below w.heap.size w wx) ⟨gz, az, mz, bz, hz⟩ ?_
            clear gz az mz bz hz
            rintro wx ⟨gz, az, mz, bz, hz⟩
            have gwx : RB wx.drew g ⟨X, Y, W, H⟩ := gz
            have awx : RB wx.drew A ⟨aX, aY, aW, aH⟩ := az
            have mwx : RB wx.drew (A + 1) ⟨mX, mY, mW, mH⟩ := mz
            have bwx : RB wx.drew (A + 1 + 1) ⟨bX, bY, bW, bH⟩ := bz
            have kwx : Below w.heap.size w wx.drew := hz.drew
            clear gz az mz bz hz
            go_region_held3 (fun w' => w'.cell? ⟨g, 0, none⟩ = some (.int .i64 X) ∧ w'.cell? ⟨g, 1, none⟩ = some (.int .i64 Y) ∧ w'.cell? ⟨g, 2, none⟩ = some (.int .i64 W) ∧ w'.cell? ⟨g, 3, none⟩ = some (.int .i64 H) ∧ w'.cell? ⟨A, 0, none⟩ = some (.int .i64 aX) ∧ w'.cell? ⟨A, 1, none⟩ = some (.int .i64 aY) ∧ w'.cell? ⟨A, 2, none⟩ = some (.int .i64 aW) ∧ w'.cell? ⟨A, 3, none⟩ = some (.int .i64 aH) ∧ w'.cell? ⟨A + 1, 0, none⟩ = some (.int .i64 mX) ∧ w'.cell? ⟨A + 1, 1, none⟩ = some (.int .i64 mY) ∧ w'.cell? ⟨A + 1, 2, none⟩ = some (.int .i64 mW) ∧ w'.cell? ⟨A + 1, 3, none⟩ = some (.int .i64 mH) ∧ w'.cell? ⟨A + 1 + 1, 0, none⟩ = some (.int .i64 bX) ∧ w'.cell? ⟨A + 1 + 1, 1, none⟩ = some (.int .i64 bY) ∧ w'.cell? ⟨A + 1 + 1, 2, none⟩ = some (.int .i64 bW) ∧ w'.cell? ⟨A + 1 + 1, 3, none⟩ = some (.int .i64 bH))
             (first
              | with_reducible exact S4 gwx awx mwx bwx
              | with_reducible exact S4 gv1 av1 mv1 bv1
              | with_reducible exact S4 gv2 av2 mv2 bv2
              | with_reducible exact S4 gv3 av3 mv3 bv3
              | with_reducible exact S4 gv4 av4 mv4 bv4
              | with_reducible exact S4 gv5 av5 mv5 bv5
              | with_reducible exact S4 gv6 av6 mv6 bv6
              | fail)
             (first
              | (go_at_call 9
                 (with_reducible refine (IN _).mono ?_)
                 rintro e v1 ⟨rfl, hv1⟩
                 have gv1 := gwx.below hv1 gwx.lt
                 have av1 := awx.below hv1 awx.lt
                 have mv1 := mwx.below hv1 mwx.lt
                 have bv1 := bwx.below hv1 bwx.lt
                 have kv1 := kwx.trans (hv1.mono kwx.size))
              | (go_at_call 10
                 (with_reducible refine (AA _).mono ?_)
                 rintro e v2 ⟨rfl, hv2⟩
                 have gv2 := gv1.below hv2 gv1.lt
                 have av2 := av1.below hv2 av1.lt
                 have mv2 := mv1.below hv2 mv1.lt
                 have bv2 := bv1.below hv2 bv1.lt
                 have kv2 := kv1.trans (hv2.mono kv1.size))
              | (go_at_call 10
                 (with_reducible refine (AM _).mono ?_)
                 rintro e v3 ⟨rfl, hv3⟩
                 have gv3 := gv2.below hv3 gv2.lt
                 have av3 := av2.below hv3 av2.lt
                 have mv3 := mv2.below hv3 mv2.lt
                 have bv3 := bv2.below hv3 bv2.lt
                 have kv3 := kv2.trans (hv3.mono kv2.size))
              | (go_at_call 10
                 (with_reducible refine (AB _).mono ?_)
                 rintro e v4 ⟨rfl, hv4⟩
                 have gv4 := gv3.below hv4 gv3.lt
                 have av4 := av3.below hv4 av3.lt
                 have mv4 := mv3.below hv4 mv3.lt
                 have bv4 := bv3.below hv4 bv3.lt
                 have kv4 := kv3.trans (hv4.mono kv3.size))
              | (go_at_call 10
                 (with_reducible refine (AR _).mono ?_)
                 rintro e v5 ⟨rfl, hv5⟩
                 have gv5 := gv4.below hv5 gv4.lt
                 have av5 := av4.below hv5 av4.lt
                 have mv5 := mv4.below hv5 mv4.lt
                 have bv5 := bv4.below hv5 bv4.lt
                 have kv5 := kv4.trans (hv5.mono kv4.size))
              | (go_at_call 8
                 (with_reducible refine (awake_any _).mono ?_)
                 rintro e v6 ⟨rfl, hv6⟩
                 have gv6 := gv5.below hv6 gv5.lt
                 have av6 := av5.below hv6 av5.lt
                 have mv6 := mv5.below hv6 mv5.lt
                 have bv6 := bv5.below hv6 bv5.lt
                 have kv6 := kv5.trans (hv6.mono kv5.size)))
            go_wp2_with fail
            go_ret
            exact ⟨rfl, kv6⟩

  · rw [k] at CUT
    clear k
    unfold cutV rv zR at CUT
    dsimp only at CUT
    go_upto_region 4 with (first
      | (go_at_call 7
         (with_reducible refine (CUT _).mono ?_)
         rintro e w2 ⟨rfl, hb2⟩))
    have p2 := p0.below hb2 p0.lt
    obtain ⟨x0, x1, x2, xb, xs⟩ := boxes w2 ⟨0, 0, 0, 0⟩ ⟨0, 0, 0, 0⟩ ⟨0, 0, 0, 0⟩
    refine wp_world (fun wq => RB wq w.heap.size ⟨X, Y, W, H⟩ ∧ RB wq w2.heap.size ⟨0, 0, 0, 0⟩ ∧ RB wq (w2.heap.size + 1) ⟨0, 0, 0, 0⟩ ∧ RB wq (w2.heap.size + 1 + 1) ⟨0, 0, 0, 0⟩ ∧ Below w.heap.size w wq) ⟨((p2.alloc _).alloc _).alloc _, x0, x1, x2, (hw.trans (hb2.mono hw.size)).trans (xb.mono (Nat.le_trans hw.size hb2.size))⟩ ?_
    clear x0 x1 x2 xb xs p2 hb2 r0 r1 r2 r3 rf p0 hw wq
    rintro wq ⟨p0, pa, pm, pb, hw⟩
    generalize w2.heap.size = A at *
    generalize hg : w.heap.size = g at p0 ⊢
    obtain ⟨r0, r1, r2, r3, rf⟩ := p0.cells
    obtain ⟨a0, a1, a2, a3, af⟩ := pa.cells
    obtain ⟨m0, m1, m2, m3, mf⟩ := pm.cells
    obtain ⟨b0, b1, b2, b3, bf⟩ := pb.cells
    dsimp only at r0 r1 r2 r3 a0 a1 a2 a3 m0 m1 m2 m3 b0 b1 b2 b3
    have F : (dr = 1 ∧ first < 1) ∨ (dr = 1 ∧ 1 ≤ first ∧ W - 2 < first) ∨ (dr = 2 ∧ first < 1) ∨ (dr = 2 ∧ 1 ≤ first ∧ H - 2 < first) := by omega
    clear k0 k1
    rcases F with ⟨rfl, k0⟩ | ⟨rfl, k0, k1⟩ | ⟨rfl, k0⟩ | ⟨rfl, k0, k1⟩
    all_goals
      go_wp2_with (first
        | (go_at_call 8
           (with_reducible refine (awake_any _).mono ?_)
           rintro e v6 ⟨rfl, hv6⟩))
      go_ret
      exact ⟨rfl, hw.trans (hv6.mono hw.size)⟩
end Go.Proofs.Ytigpfpnikggojaa
