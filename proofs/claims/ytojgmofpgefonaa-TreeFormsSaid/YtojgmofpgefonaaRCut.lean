/-
  What the document's own Cut answers: the plain function; of what was there nothing turns. Conditions: none.
-/
import Derived.Test.YtojgmofpgefonaaCut
namespace Go.Proofs.Ytojgmofpgefonaa
open Go.RowKit
set_option linter.unusedSimpArgs false
set_option maxRecDepth 100000

theorem three (w : World) (r : R) : RB ((((w.alloc (.cells #[.int .i64 r.X, .int .i64 r.Y, .int .i64 r.W, .int .i64 r.H] 48)).alloc (.cells #[.int .i64 r.X, .int .i64 r.Y, .int .i64 r.W, .int .i64 r.H] 48)).alloc (.cells #[.int .i64 r.X, .int .i64 r.Y, .int .i64 r.W, .int .i64 r.H] 48)).drew) w.heap.size r ∧
    RB ((((w.alloc (.cells #[.int .i64 r.X, .int .i64 r.Y, .int .i64 r.W, .int .i64 r.H] 48)).alloc (.cells #[.int .i64 r.X, .int .i64 r.Y, .int .i64 r.W, .int .i64 r.H] 48)).alloc (.cells #[.int .i64 r.X, .int .i64 r.Y, .int .i64 r.W, .int .i64 r.H] 48)).drew) (w.heap.size + 1) r ∧
    RB ((((w.alloc (.cells #[.int .i64 r.X, .int .i64 r.Y, .int .i64 r.W, .int .i64 r.H] 48)).alloc (.cells #[.int .i64 r.X, .int .i64 r.Y, .int .i64 r.W, .int .i64 r.H] 48)).alloc (.cells #[.int .i64 r.X, .int .i64 r.Y, .int .i64 r.W, .int .i64 r.H] 48)).drew) (w.heap.size + 1 + 1) r ∧
    Below w.heap.size w ((((w.alloc (.cells #[.int .i64 r.X, .int .i64 r.Y, .int .i64 r.W, .int .i64 r.H] 48)).alloc (.cells #[.int .i64 r.X, .int .i64 r.Y, .int .i64 r.W, .int .i64 r.H] 48)).alloc (.cells #[.int .i64 r.X, .int .i64 r.Y, .int .i64 r.W, .int .i64 r.H] 48)).drew) := by
  have h0 := RB.new w r
  have h1 := RB.new (w.alloc (.cells #[.int .i64 r.X, .int .i64 r.Y, .int .i64 r.W, .int .i64 r.H] 48)) r
  have h2 := RB.new ((w.alloc (.cells #[.int .i64 r.X, .int .i64 r.Y, .int .i64 r.W, .int .i64 r.H] 48)).alloc (.cells #[.int .i64 r.X, .int .i64 r.Y, .int .i64 r.W, .int .i64 r.H] 48)) r
  simp only [World.size_alloc] at h1 h2
  exact ⟨((h0.alloc _).alloc _).drew, (h1.alloc _).drew, h2.drew, (((((Below.refl _ _).alloc (Nat.le_refl _) _).alloc (by simp) _).alloc (by simp; omega) _)).drew⟩

theorem both_false {n f : Int} (h : bothF n f = false) (l : 1 ≤ f) : n - 2 < f := by
  unfold bothF at h
  simp [l] at h
  exact h
set_option maxHeartbeats 2000000 in
theorem rcut_go (r : R) (dir first : Int) (l1 : 1 ≤ first) (w : World) (hn : noneF r = false) : Calls Try.prog 67 #[rv r, .int .i64 dir, .int .i64 first] w (New (cutV (cutF r dir first)) w) := by
  have N : ∀ w, Calls Try.prog 44 #[rv r] w (New (.bool (noneF r)) w) := rnone_any r
  rw [hn] at N
  obtain ⟨_, _, _, _, lW, uW, lH, uH⟩ := none_no hn
  have K : (dir = 1 ∧ 1 ≤ first ∧ first ≤ r.W - 2 ∧ cutF r dir first = (⟨r.X, r.Y, first, r.H⟩, ⟨r.X + first, r.Y, 1, r.H⟩, ⟨r.X + first + 1, r.Y, r.W - 1 - first, r.H⟩, true)) ∨ (dir = 2 ∧ 1 ≤ first ∧ first ≤ r.H - 2 ∧ cutF r dir first = (⟨r.X, r.Y, r.W, first⟩, ⟨r.X, r.Y + first, r.W, 1⟩, ⟨r.X, r.Y + first + 1, r.W, r.H - 1 - first⟩, true)) ∨
      (dir = 1 ∧ r.W - 2 < first ∧ cutF r dir first = (zR, zR, zR, false)) ∨ (dir = 2 ∧ r.H - 2 < first ∧ cutF r dir first = (zR, zR, zR, false)) ∨ ((dir == 1) = false ∧ (dir == 2) = false ∧ cutF r dir first = (zR, zR, zR, false)) := by
    by_cases h1 : dir = 1
    · subst h1
      cases hb : bothF r.W first with
      | false => exact .inr (.inr (.inl ⟨rfl, both_false hb l1, cut_no1 hb⟩))
      | true => exact .inl ⟨rfl, (both_iff hb rfl).1, (both_iff hb rfl).2, cut_ok1 hn hb⟩
    · by_cases h2 : dir = 2
      · subst h2
        cases hb : bothF r.H first with
        | false => exact .inr (.inr (.inr (.inl ⟨rfl, both_false hb l1, cut_no2 hb⟩)))
        | true => exact .inr (.inl ⟨rfl, (both_iff hb rfl).1, (both_iff hb rfl).2, cut_ok2 hn hb⟩)
      · exact .inr (.inr (.inr (.inr ⟨by simpa using h1, by simpa using h2, cut_no h1 h2⟩)))
  generalize cutF r dir first = q at *
  have HK := Lib.hid K
  clear K
  clear hn
  obtain ⟨X, Y, W, H⟩ := r
  unfold rv at *
  dsimp only at *
  go_enter Try.func67, Try.ntmps67
  go_upto_region 3 with (go_at_call 44; refine (N _).mono ?_; rintro e w2 ⟨rfl, hb⟩; obtain ⟨p0, q1, q2, q3, hw, hs⟩ := four hb)
  refine wp_world (fun wq => RB wq w.heap.size ⟨X, Y, W, H⟩ ∧ RB wq (w.heap.size + 1) zR ∧ RB wq (w.heap.size + 1 + 1) zR ∧ RB wq (w.heap.size + 1 + 1 + 1) zR ∧ Below w.heap.size w wq) ⟨p0, q1, q2, q3, hw⟩ ?_
  clear p0 q1 q2 q3 hw hs hb w2
  rintro wq ⟨p0, q1, q2, q3, hw⟩
  go_cut [10, 11, 12] from 13 (fun s10 s11 s12 wc => ∃ A M B : Nat, s10 = .pointer (some ⟨A, 0, none⟩) ∧ s11 = .pointer (some ⟨M, 0, none⟩) ∧ s12 = .pointer (some ⟨B, 0, none⟩) ∧ w.heap.size + 4 ≤ A ∧ w.heap.size + 4 ≤ M ∧ w.heap.size + 4 ≤ B ∧ A ≠ M ∧ A ≠ B ∧ M ≠ B ∧
    RB wc w.heap.size ⟨X, Y, W, H⟩ ∧ RB wc (w.heap.size + 1) zR ∧ RB wc (w.heap.size + 1 + 1) zR ∧ RB wc (w.heap.size + 1 + 1 + 1) zR ∧ Below w.heap.size w wc ∧ RB wc A ⟨X, Y, W, H⟩ ∧ RB wc M ⟨X, Y, W, H⟩ ∧ RB wc B ⟨X, Y, W, H⟩)
  case first =>
    have XX := Lib.hid (three wq ⟨X, Y, W, H⟩)
    have P0 := Lib.hid p0
    have Q1 := Lib.hid q1
    have Q2 := Lib.hid q2
    have Q3 := Lib.hid q3
    have HW := Lib.hid hw
    obtain ⟨r0, r1, r2, r3, rf⟩ := p0.cells
    dsimp only at r0 r1 r2 r3
    have e1 : ∀ o i, (wq.alloc o).cell? ⟨w.heap.size, i, none⟩ = wq.cell? ⟨w.heap.size, i, none⟩ := fun o i => World.cell?_alloc_lt _ _ _ p0.lt
    have e2 : ∀ o o' i, ((wq.alloc o).alloc o').cell? ⟨w.heap.size, i, none⟩ = wq.cell? ⟨w.heap.size, i, none⟩ := fun o o' i => (World.cell?_alloc_lt _ _ _ (p0.alloc o).lt).trans (e1 o i)
    have e3 : ∀ o o' o'' i, (((wq.alloc o).alloc o').alloc o'').cell? ⟨w.heap.size, i, none⟩ = wq.cell? ⟨w.heap.size, i, none⟩ := fun o o' o'' i => (World.cell?_alloc_lt _ _ _ ((p0.alloc o).alloc o').lt).trans (e2 o o' i)
    have z3 := q3.lt
    have z0 := p0.lt
    clear p0 q1 q2 q3 hw
    go_region
    all_goals
      clear e1 e2 e3 r0 r1 r2 r3 rf
      go_wp2_with fail
      go_meet
      obtain ⟨x0, x1, x2, xb⟩ := XX.out
      have g0 := P0.out.below xb z0
      have g1 := Q1.out.below xb (by omega)
      have g2 := Q2.out.below xb (by omega)
      have g3 := Q3.out.below xb z3
      have g4 := HW.out.trans (xb.mono HW.out.size)
      first
        | exact ⟨_, _, _, rfl, rfl, rfl, by omega, by omega, by omega, by omega, by omega, by omega, g0, g1, g2, g3, g4, x0, x1, x2⟩
        | exact ⟨_, _, _, rfl, rfl, rfl, by omega, by omega, by omega, by omega, by omega, by omega, g0, g1, g2, g3, g4, x0, x2, x1⟩
        | exact ⟨_, _, _, rfl, rfl, rfl, by omega, by omega, by omega, by omega, by omega, by omega, g0, g1, g2, g3, g4, x1, x0, x2⟩
        | exact ⟨_, _, _, rfl, rfl, rfl, by omega, by omega, by omega, by omega, by omega, by omega, g0, g1, g2, g3, g4, x1, x2, x0⟩
        | exact ⟨_, _, _, rfl, rfl, rfl, by omega, by omega, by omega, by omega, by omega, by omega, g0, g1, g2, g3, g4, x2, x0, x1⟩
        | exact ⟨_, _, _, rfl, rfl, rfl, by omega, by omega, by omega, by omega, by omega, by omega, g0, g1, g2, g3, g4, x2, x1, x0⟩
  case rest =>
  clear p0 q1 q2 q3 hw wq
  obtain ⟨A, M, B, rfl, rfl, rfl, lA, lM, lB, nAM, nAB, nMB, p0, q1, q2, q3, hw, pA, pM, pB⟩ := hcut
  rename World => wq
  rcases HK.out with ⟨rfl, _, _, rfl⟩ | ⟨rfl, _, _, rfl⟩ | ⟨rfl, _, rfl⟩ | ⟨rfl, _, rfl⟩ | ⟨h1, h2, rfl⟩
  all_goals clear HK
  · obtain ⟨r0, r1, r2, r3, rf⟩ := p0.cells
    obtain ⟨a0, a1, a2, a3, af⟩ := pA.cells
    obtain ⟨b0, b1, b2, b3, bf⟩ := pM.cells
    obtain ⟨c0, c1, c2, c3, cf⟩ := pB.cells
    dsimp only [zR] at r0 r1 r2 r3 a0 a1 a2 a3 b0 b1 b2 b3 c0 c1 c2 c3
    go_upto_region 5 with fail
    go_region
    go_upto_region 6 with fail
    refine wp_world (fun wq => RB wq w.heap.size ⟨X, Y, W, H⟩ ∧ RB wq (w.heap.size + 1) zR ∧ RB wq (w.heap.size + 1 + 1) zR ∧ RB wq (w.heap.size + 1 + 1 + 1) zR ∧ Below w.heap.size w wq ∧ RB wq A ⟨X, Y, first, H⟩ ∧ RB wq M ⟨X, Y, 1, H⟩ ∧ RB wq B ⟨X, Y, W - 1 - first, H⟩)
      ⟨(((p0.far (by omega) _).far (by omega) _).far (by omega) _).drew, (((q1.far (by omega) _).far (by omega) _).far (by omega) _).drew, (((q2.far (by omega) _).far (by omega) _).far (by omega) _).drew, (((q3.far (by omega) _).far (by omega) _).far (by omega) _).drew, (((hw.setCell (p := ⟨A, 2, none⟩) (by simp; omega) _).setCell (p := ⟨M, 2, none⟩) (by simp; omega) _).setCell (p := ⟨B, 2, none⟩) (by simp; omega) _).drew, (((pA.s2 _).far (by omega) _).far (by omega) _).drew, (((pM.far (by omega) _).s2 _).far (by omega) _).drew, (((pB.far (by omega) _).far (by omega) _).s2 _).drew⟩ ?_
    clear r0 r1 r2 r3 rf a0 a1 a2 a3 af b0 b1 b2 b3 bf c0 c1 c2 c3 cf p0 q1 q2 q3 hw pA pM pB wq
    rintro wq ⟨p0, q1, q2, q3, hw, pA, pM, pB⟩
    obtain ⟨r0, r1, r2, r3, rf⟩ := p0.cells
    obtain ⟨a0, a1, a2, a3, af⟩ := pA.cells
    obtain ⟨b0, b1, b2, b3, bf⟩ := pM.cells
    obtain ⟨c0, c1, c2, c3, cf⟩ := pB.cells
    dsimp only [zR] at r0 r1 r2 r3 a0 a1 a2 a3 b0 b1 b2 b3 c0 c1 c2 c3
    go_region
    go_upto_region 7 with fail
    refine wp_world (fun wq => RB wq w.heap.size ⟨X, Y, W, H⟩ ∧ RB wq (w.heap.size + 1) zR ∧ RB wq (w.heap.size + 1 + 1) zR ∧ RB wq (w.heap.size + 1 + 1 + 1) zR ∧ Below w.heap.size w wq ∧ RB wq A ⟨X, Y, first, H⟩ ∧ RB wq M ⟨X + first, Y, 1, H⟩ ∧ RB wq B ⟨X + first + 1, Y, W - 1 - first, H⟩)
      ⟨((p0.far (by omega) _).far (by omega) _).drew, ((q1.far (by omega) _).far (by omega) _).drew, ((q2.far (by omega) _).far (by omega) _).drew, ((q3.far (by omega) _).far (by omega) _).drew, ((hw.setCell (p := ⟨M, 0, none⟩) (by simp; omega) _).setCell (p := ⟨B, 0, none⟩) (by simp; omega) _).drew, ((pA.far (by omega) _).far (by omega) _).drew, ((pM.s0 _).far (by omega) _).drew, ((pB.far (by omega) _).s0 _).drew⟩ ?_
    clear r0 r1 r2 r3 rf a0 a1 a2 a3 af b0 b1 b2 b3 bf c0 c1 c2 c3 cf p0 q1 q2 q3 hw pA pM pB wq
    rintro wq ⟨p0, q1, q2, q3, hw, pA, pM, pB⟩
    obtain ⟨r0, r1, r2, r3, rf⟩ := p0.cells
    obtain ⟨a0, a1, a2, a3, af⟩ := pA.cells
    obtain ⟨b0, b1, b2, b3, bf⟩ := pM.cells
    obtain ⟨c0, c1, c2, c3, cf⟩ := pB.cells
    dsimp only [zR] at r0 r1 r2 r3 a0 a1 a2 a3 b0 b1 b2 b3 c0 c1 c2 c3
    obtain ⟨x0, x1, x2, x3, xf⟩ := q1.cells
    obtain ⟨y0, y1, y2, y3, yf⟩ := q2.cells
    obtain ⟨z0, z1, z2, z3, zf⟩ := q3.cells
    dsimp only [zR] at x0 x1 x2 x3 y0 y1 y2 y3 z0 z1 z2 z3
    go_region
    go_wp2_with fail
    refine bodyPost_ret (v := cutV (⟨X, Y, first, H⟩, ⟨X + first, Y, 1, H⟩, ⟨X + first + 1, Y, W - 1 - first, H⟩, true)) ?_ rfl ⟨rfl, ?_⟩
    · simp [results, Try.results67, go_sem, cutV, rv, zR, x0, x1, x2, x3, y0, y1, y2, y3, z0, z1, z2, z3]
    · exact (below_set4 (below_set4 (below_set4 hw (by omega) _ _ _ _) (by omega) _ _ _ _) (by omega) _ _ _ _).drew
  · obtain ⟨r0, r1, r2, r3, rf⟩ := p0.cells
    obtain ⟨a0, a1, a2, a3, af⟩ := pA.cells
    obtain ⟨b0, b1, b2, b3, bf⟩ := pM.cells
    obtain ⟨c0, c1, c2, c3, cf⟩ := pB.cells
    dsimp only [zR] at r0 r1 r2 r3 a0 a1 a2 a3 b0 b1 b2 b3 c0 c1 c2 c3
    go_upto_region 9 with fail
    go_region
    go_upto_region 10 with fail
    refine wp_world (fun wq => RB wq w.heap.size ⟨X, Y, W, H⟩ ∧ RB wq (w.heap.size + 1) zR ∧ RB wq (w.heap.size + 1 + 1) zR ∧ RB wq (w.heap.size + 1 + 1 + 1) zR ∧ Below w.heap.size w wq ∧ RB wq A ⟨X, Y, W, first⟩ ∧ RB wq M ⟨X, Y, W, 1⟩ ∧ RB wq B ⟨X, Y, W, H - 1 - first⟩)
      ⟨(((p0.far (by omega) _).far (by omega) _).far (by omega) _).drew, (((q1.far (by omega) _).far (by omega) _).far (by omega) _).drew, (((q2.far (by omega) _).far (by omega) _).far (by omega) _).drew, (((q3.far (by omega) _).far (by omega) _).far (by omega) _).drew, (((hw.setCell (p := ⟨A, 3, none⟩) (by simp; omega) _).setCell (p := ⟨M, 3, none⟩) (by simp; omega) _).setCell (p := ⟨B, 3, none⟩) (by simp; omega) _).drew, (((pA.s3 _).far (by omega) _).far (by omega) _).drew, (((pM.far (by omega) _).s3 _).far (by omega) _).drew, (((pB.far (by omega) _).far (by omega) _).s3 _).drew⟩ ?_
    clear r0 r1 r2 r3 rf a0 a1 a2 a3 af b0 b1 b2 b3 bf c0 c1 c2 c3 cf p0 q1 q2 q3 hw pA pM pB wq
    rintro wq ⟨p0, q1, q2, q3, hw, pA, pM, pB⟩
    obtain ⟨r0, r1, r2, r3, rf⟩ := p0.cells
    obtain ⟨a0, a1, a2, a3, af⟩ := pA.cells
    obtain ⟨b0, b1, b2, b3, bf⟩ := pM.cells
    obtain ⟨c0, c1, c2, c3, cf⟩ := pB.cells
    dsimp only [zR] at r0 r1 r2 r3 a0 a1 a2 a3 b0 b1 b2 b3 c0 c1 c2 c3
    go_region
    go_upto_region 11 with fail
    refine wp_world (fun wq => RB wq w.heap.size ⟨X, Y, W, H⟩ ∧ RB wq (w.heap.size + 1) zR ∧ RB wq (w.heap.size + 1 + 1) zR ∧ RB wq (w.heap.size + 1 + 1 + 1) zR ∧ Below w.heap.size w wq ∧ RB wq A ⟨X, Y, W, first⟩ ∧ RB wq M ⟨X, Y + first, W, 1⟩ ∧ RB wq B ⟨X, Y + first + 1, W, H - 1 - first⟩)
      ⟨((p0.far (by omega) _).far (by omega) _).drew, ((q1.far (by omega) _).far (by omega) _).drew, ((q2.far (by omega) _).far (by omega) _).drew, ((q3.far (by omega) _).far (by omega) _).drew, ((hw.setCell (p := ⟨M, 1, none⟩) (by simp; omega) _).setCell (p := ⟨B, 1, none⟩) (by simp; omega) _).drew, ((pA.far (by omega) _).far (by omega) _).drew, ((pM.s1 _).far (by omega) _).drew, ((pB.far (by omega) _).s1 _).drew⟩ ?_
    clear r0 r1 r2 r3 rf a0 a1 a2 a3 af b0 b1 b2 b3 bf c0 c1 c2 c3 cf p0 q1 q2 q3 hw pA pM pB wq
    rintro wq ⟨p0, q1, q2, q3, hw, pA, pM, pB⟩
    obtain ⟨r0, r1, r2, r3, rf⟩ := p0.cells
    obtain ⟨a0, a1, a2, a3, af⟩ := pA.cells
    obtain ⟨b0, b1, b2, b3, bf⟩ := pM.cells
    obtain ⟨c0, c1, c2, c3, cf⟩ := pB.cells
    dsimp only [zR] at r0 r1 r2 r3 a0 a1 a2 a3 b0 b1 b2 b3 c0 c1 c2 c3
    obtain ⟨x0, x1, x2, x3, xf⟩ := q1.cells
    obtain ⟨y0, y1, y2, y3, yf⟩ := q2.cells
    obtain ⟨z0, z1, z2, z3, zf⟩ := q3.cells
    dsimp only [zR] at x0 x1 x2 x3 y0 y1 y2 y3 z0 z1 z2 z3
    go_region
    go_wp2_with fail
    refine bodyPost_ret (v := cutV (⟨X, Y, W, first⟩, ⟨X, Y + first, W, 1⟩, ⟨X, Y + first + 1, W, H - 1 - first⟩, true)) ?_ rfl ⟨rfl, ?_⟩
    · simp [results, Try.results67, go_sem, cutV, rv, zR, x0, x1, x2, x3, y0, y1, y2, y3, z0, z1, z2, z3]
    · exact (below_set4 (below_set4 (below_set4 hw (by omega) _ _ _ _) (by omega) _ _ _ _) (by omega) _ _ _ _).drew
  · obtain ⟨r0, r1, r2, r3, rf⟩ := p0.cells
    obtain ⟨a0, a1, a2, a3, af⟩ := pA.cells
    obtain ⟨b0, b1, b2, b3, bf⟩ := pM.cells
    obtain ⟨c0, c1, c2, c3, cf⟩ := pB.cells
    dsimp only [zR] at r0 r1 r2 r3 a0 a1 a2 a3 b0 b1 b2 b3 c0 c1 c2 c3
    obtain ⟨x0, x1, x2, x3, xf⟩ := q1.cells
    obtain ⟨y0, y1, y2, y3, yf⟩ := q2.cells
    obtain ⟨z0, z1, z2, z3, zf⟩ := q3.cells
    dsimp only [zR] at x0 x1 x2 x3 y0 y1 y2 y3 z0 z1 z2 z3
    go_wp2_with fail
    refine bodyPost_ret (v := cutV (zR, zR, zR, false)) ?_ rfl ⟨rfl, ?_⟩
    · simp [results, Try.results67, go_sem, cutV, rv, zR, x0, x1, x2, x3, y0, y1, y2, y3, z0, z1, z2, z3]
    · exact below_set4 (below_set4 (below_set4 hw (by omega) _ _ _ _) (by omega) _ _ _ _) (by omega) _ _ _ _
  · obtain ⟨r0, r1, r2, r3, rf⟩ := p0.cells
    obtain ⟨a0, a1, a2, a3, af⟩ := pA.cells
    obtain ⟨b0, b1, b2, b3, bf⟩ := pM.cells
    obtain ⟨c0, c1, c2, c3, cf⟩ := pB.cells
    dsimp only [zR] at r0 r1 r2 r3 a0 a1 a2 a3 b0 b1 b2 b3 c0 c1 c2 c3
    obtain ⟨x0, x1, x2, x3, xf⟩ := q1.cells
    obtain ⟨y0, y1, y2, y3, yf⟩ := q2.cells
    obtain ⟨z0, z1, z2, z3, zf⟩ := q3.cells
    dsimp only [zR] at x0 x1 x2 x3 y0 y1 y2 y3 z0 z1 z2 z3
    go_wp2_with fail
    refine bodyPost_ret (v := cutV (zR, zR, zR, false)) ?_ rfl ⟨rfl, ?_⟩
    · simp [results, Try.results67, go_sem, cutV, rv, zR, x0, x1, x2, x3, y0, y1, y2, y3, z0, z1, z2, z3]
    · exact below_set4 (below_set4 (below_set4 hw (by omega) _ _ _ _) (by omega) _ _ _ _) (by omega) _ _ _ _
  · obtain ⟨r0, r1, r2, r3, rf⟩ := p0.cells
    obtain ⟨a0, a1, a2, a3, af⟩ := pA.cells
    obtain ⟨b0, b1, b2, b3, bf⟩ := pM.cells
    obtain ⟨c0, c1, c2, c3, cf⟩ := pB.cells
    dsimp only [zR] at r0 r1 r2 r3 a0 a1 a2 a3 b0 b1 b2 b3 c0 c1 c2 c3
    obtain ⟨x0, x1, x2, x3, xf⟩ := q1.cells
    obtain ⟨y0, y1, y2, y3, yf⟩ := q2.cells
    obtain ⟨z0, z1, z2, z3, zf⟩ := q3.cells
    dsimp only [zR] at x0 x1 x2 x3 y0 y1 y2 y3 z0 z1 z2 z3
    go_wp2_with fail
    refine bodyPost_ret (v := cutV (zR, zR, zR, false)) ?_ rfl ⟨rfl, ?_⟩
    · simp [results, Try.results67, go_sem, cutV, rv, zR, x0, x1, x2, x3, y0, y1, y2, y3, z0, z1, z2, z3]
    · exact below_set4 (below_set4 (below_set4 hw (by omega) _ _ _ _) (by omega) _ _ _ _) (by omega) _ _ _ _

set_option maxHeartbeats 1000000 in
theorem rcut_none (r : R) (dir first : Int) (w : World) (hn : noneF r = true) : Calls Try.prog 67 #[rv r, .int .i64 dir, .int .i64 first] w (New (cutV (zR, zR, zR, false)) w) := by
  have N : ∀ w, Calls Try.prog 44 #[rv r] w (New (.bool (noneF r)) w) := rnone_any r
  rw [hn] at N
  clear hn
  obtain ⟨X, Y, W, H⟩ := r
  unfold rv at *
  dsimp only at *
  go_enter Try.func67, Try.ntmps67
  go_wp2_with (go_at_call 44; refine (N _).mono ?_; rintro e w2 ⟨rfl, hb⟩; obtain ⟨p0, q1, q2, q3, hw, hs⟩ := four hb; obtain ⟨x0, x1, x2, x3, xf⟩ := q1.cells; obtain ⟨y0, y1, y2, y3, yf⟩ := q2.cells; obtain ⟨z0, z1, z2, z3, zf⟩ := q3.cells)
  refine bodyPost_ret (v := cutV (zR, zR, zR, false)) ?_ rfl ⟨rfl, ?_⟩
  · simp [results, Try.results67, go_sem, cutV, rv, zR, x0, x1, x2, x3, y0, y1, y2, y3, z0, z1, z2, z3]
  · exact below_set4 (below_set4 (below_set4 hw (by omega) _ _ _ _) (by omega) _ _ _ _) (by omega) _ _ _ _

set_option maxHeartbeats 1000000 in
theorem rcut_low (r : R) (dir first : Int) (w : World) (hn : noneF r = false) (lf : first < 1) : Calls Try.prog 67 #[rv r, .int .i64 dir, .int .i64 first] w (New (cutV (zR, zR, zR, false)) w) := by
  have N : ∀ w, Calls Try.prog 44 #[rv r] w (New (.bool (noneF r)) w) := rnone_any r
  rw [hn] at N
  clear hn
  obtain ⟨X, Y, W, H⟩ := r
  unfold rv at *
  dsimp only at *
  go_enter Try.func67, Try.ntmps67
  go_wp2_with (go_at_call 44; refine (N _).mono ?_; rintro e w2 ⟨rfl, hb⟩; obtain ⟨p0, q1, q2, q3, hw, hs⟩ := four hb; obtain ⟨x0, x1, x2, x3, xf⟩ := q1.cells; obtain ⟨y0, y1, y2, y3, yf⟩ := q2.cells; obtain ⟨z0, z1, z2, z3, zf⟩ := q3.cells)
  refine bodyPost_ret (v := cutV (zR, zR, zR, false)) ?_ rfl ⟨rfl, ?_⟩
  · simp [results, Try.results67, go_sem, cutV, rv, zR, x0, x1, x2, x3, y0, y1, y2, y3, z0, z1, z2, z3]
  · exact below_set4 (below_set4 (below_set4 hw (by omega) _ _ _ _) (by omega) _ _ _ _) (by omega) _ _ _ _

theorem rcut_any (r : R) (dir first : Int) (w : World) : Calls Try.prog 67 #[rv r, .int .i64 dir, .int .i64 first] w (New (cutV (cutF r dir first)) w) := by
  by_cases hn : noneF r = true
  · rw [show cutF r dir first = (zR, zR, zR, false) by unfold cutF okF; simp [hn]]
    exact rcut_none r dir first w hn
  · have hn' := Bool.eq_false_iff.2 hn
    by_cases lf : first < 1
    · have hz : ∀ n, bothF n first = false := fun n => by unfold bothF; simp; omega
      rw [show cutF r dir first = (zR, zR, zR, false) by unfold cutF okF; simp [hz]]
      exact rcut_low r dir first w hn' lf
    · exact rcut_go r dir first (by omega) w hn'
end Go.Proofs.Ytojgmofpgefonaa
