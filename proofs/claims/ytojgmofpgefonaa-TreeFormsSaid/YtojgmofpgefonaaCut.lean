/-
  What Cut of package rect answers: the plain function; of what was there nothing turns. Conditions: none.
-/
import Derived.Test.YtojgmofpgefonaaLeaf
import Derived.Deep.RegionHeld3
import Derived.Deep.Cut
import Derived.BigRegion
namespace Go.Proofs.Ytojgmofpgefonaa
open Go.RowKit
set_option linter.unusedSimpArgs false

def zR : R := ⟨0, 0, 0, 0⟩
def okF (r : R) (dir first : Int) : Bool := !noneF r && ((dir == 1 && bothF r.W first) || (dir == 2 && bothF r.H first))
def cutF (r : R) (dir first : Int) : R × R × R × Bool :=
  if okF r dir first = true then
    if dir = 1 then (⟨r.X, r.Y, first, r.H⟩, ⟨r.X + first, r.Y, 1, r.H⟩, ⟨r.X + first + 1, r.Y, r.W - 1 - first, r.H⟩, true)
    else (⟨r.X, r.Y, r.W, first⟩, ⟨r.X, r.Y + first, r.W, 1⟩, ⟨r.X, r.Y + first + 1, r.W, r.H - 1 - first⟩, true)
  else (zR, zR, zR, false)
def cutV (q : R × R × R × Bool) : Value := .tuple #[rv q.1, rv q.2.1, rv q.2.2.1, .bool q.2.2.2]

/-- Where Cut has its variables. -/
def CS (w : World) (A B : Nat) (r a m b : R) (wq : World) : Prop := w.heap.size ≤ A ∧ A < B ∧ RB wq A r ∧ RB wq B a ∧ RB wq (B + 1) m ∧ RB wq (B + 2) b ∧ Below w.heap.size w wq
theorem RB.lt {w : World} {g : Nat} {r : R} (h : RB w g r) : g < w.heap.size := Held.lt h

theorem RB.alloc {w : World} {g : Nat} {r : R} (h : RB w g r) (o : Obj) : RB (w.alloc o) g r := Held.alloc h o
theorem RB.below {w w' : World} {g B : Nat} {r : R} (h : RB w g r) (hb : Below B w w') (hg : g < B) : RB w' g r := Held.below h hb hg
theorem RB.drew {w : World} {g : Nat} {r : R} (h : RB w g r) : RB w.drew g r := h
/-- Behind the first call: the four variables. -/
theorem four {w w2 : World} {X Y W H : Int} (hb : Below ((((w.alloc (.cells #[.int .i64 X, .int .i64 Y, .int .i64 W, .int .i64 H] 48)).alloc (.cells #[.int .i64 0, .int .i64 0, .int .i64 0, .int .i64 0] 48)).alloc (.cells #[.int .i64 0, .int .i64 0, .int .i64 0, .int .i64 0] 48)).alloc (.cells #[.int .i64 0, .int .i64 0, .int .i64 0, .int .i64 0] 48)).heap.size ((((w.alloc (.cells #[.int .i64 X, .int .i64 Y, .int .i64 W, .int .i64 H] 48)).alloc (.cells #[.int .i64 0, .int .i64 0, .int .i64 0, .int .i64 0] 48)).alloc (.cells #[.int .i64 0, .int .i64 0, .int .i64 0, .int .i64 0] 48)).alloc (.cells #[.int .i64 0, .int .i64 0, .int .i64 0, .int .i64 0] 48)) w2) :
    RB w2 w.heap.size ⟨X, Y, W, H⟩ ∧ RB w2 (w.heap.size + 1) zR ∧ RB w2 (w.heap.size + 1 + 1) zR ∧ RB w2 (w.heap.size + 1 + 1 + 1) zR ∧ Below w.heap.size w w2 ∧ w.heap.size + 4 ≤ w2.heap.size := by
  have h0 := RB.new w ⟨X, Y, W, H⟩
  have h1 := RB.new (w.alloc (.cells #[.int .i64 X, .int .i64 Y, .int .i64 W, .int .i64 H] 48)) zR
  have h2 := RB.new ((w.alloc (.cells #[.int .i64 X, .int .i64 Y, .int .i64 W, .int .i64 H] 48)).alloc (.cells #[.int .i64 0, .int .i64 0, .int .i64 0, .int .i64 0] 48)) zR
  have h3 := RB.new (((w.alloc (.cells #[.int .i64 X, .int .i64 Y, .int .i64 W, .int .i64 H] 48)).alloc (.cells #[.int .i64 0, .int .i64 0, .int .i64 0, .int .i64 0] 48)).alloc (.cells #[.int .i64 0, .int .i64 0, .int .i64 0, .int .i64 0] 48)) zR
  simp only [World.size_alloc] at h1 h2 h3 hb
  have sz := hb.size
  simp only [World.size_alloc] at sz
  exact ⟨((((h0.alloc _).alloc _).alloc _)).below hb (by omega), ((h1.alloc _).alloc _).below hb (by omega), (h2.alloc _).below hb (by omega), RB.below h3 hb (by omega),
    ((((((Below.refl _ _).alloc (Nat.le_refl _) _).alloc (by simp) _).alloc (by simp; omega) _).alloc (by simp; omega) _)).trans (hb.mono (by omega)), by omega⟩

theorem RB.far {w : World} {g k o : Nat} {r : R} (h : RB w g r) (hk : g ≠ k) (x : Value) : RB (w.setCell ⟨k, o, none⟩ x) g r := Held.far h hk x
theorem RB.s0 {w : World} {g : Nat} {r : R} (h : RB w g r) (x : Int) : RB (w.setCell ⟨g, 0, none⟩ (.int .i64 x)) g ⟨x, r.Y, r.W, r.H⟩ := Held.set1 h 0 _
theorem RB.s1 {w : World} {g : Nat} {r : R} (h : RB w g r) (x : Int) : RB (w.setCell ⟨g, 1, none⟩ (.int .i64 x)) g ⟨r.X, x, r.W, r.H⟩ := Held.set1 h 1 _
theorem RB.s2 {w : World} {g : Nat} {r : R} (h : RB w g r) (x : Int) : RB (w.setCell ⟨g, 2, none⟩ (.int .i64 x)) g ⟨r.X, r.Y, x, r.H⟩ := Held.set1 h 2 _
theorem RB.s3 {w : World} {g : Nat} {r : R} (h : RB w g r) (x : Int) : RB (w.setCell ⟨g, 3, none⟩ (.int .i64 x)) g ⟨r.X, r.Y, r.W, x⟩ := Held.set1 h 3 _

set_option maxHeartbeats 1000000 in
theorem cut_none (r : R) (dir first : Int) (w : World) (hn : noneF r = true) : Calls Try.prog 69 #[rv r, .int .i64 dir, .int .i64 first] w (New (cutV (zR, zR, zR, false)) w) := by
  have N : ∀ w, Calls Try.prog 73 #[rv r] w (New (.bool (noneF r)) w) := none_any r
  rw [hn] at N
  obtain ⟨X, Y, W, H⟩ := r
  unfold rv at *
  dsimp only at *
  clear hn
  go_enter Try.func69, Try.ntmps69
  go_wp2_with (go_at_call 73; refine (N _).mono ?_; rintro e w2 ⟨rfl, hb⟩
               obtain ⟨_, q1, q2, q3, hw, _⟩ := four hb
               obtain ⟨a0, a1, a2, a3, af⟩ := q1.cells
               obtain ⟨b0, b1, b2, b3, bf⟩ := q2.cells
               obtain ⟨c0, c1, c2, c3, cf⟩ := q3.cells)
  refine bodyPost_ret (v := cutV (zR, zR, zR, false)) ?_ rfl ⟨rfl, ?_⟩
  · simp [results, Try.results69, go_sem, cutV, rv, zR, a0, a1, a2, a3, b0, b1, b2, b3, c0, c1, c2, c3]
  · exact below_set4 (below_set4 (below_set4 hw (by omega) _ _ _ _) (by omega) _ _ _ _) (by omega) _ _ _ _

theorem both_iff {n f : Int} {b : Bool} (h : bothF n f = b) : (b = true → 1 ≤ f ∧ f ≤ n - 2) := by
  subst h
  unfold bothF
  simp
theorem cut_ok1 {r : R} {first : Int} (hn : noneF r = false) (h : bothF r.W first = true) : cutF r 1 first = (⟨r.X, r.Y, first, r.H⟩, ⟨r.X + first, r.Y, 1, r.H⟩, ⟨r.X + first + 1, r.Y, r.W - 1 - first, r.H⟩, true) := by
  unfold cutF okF
  simp [hn, h]
theorem cut_ok2 {r : R} {first : Int} (hn : noneF r = false) (h : bothF r.H first = true) : cutF r 2 first = (⟨r.X, r.Y, r.W, first⟩, ⟨r.X, r.Y + first, r.W, 1⟩, ⟨r.X, r.Y + first + 1, r.W, r.H - 1 - first⟩, true) := by
  unfold cutF okF
  simp [hn, h]
theorem cut_no1 {r : R} {first : Int} (h : bothF r.W first = false) : cutF r 1 first = (zR, zR, zR, false) := by
  unfold cutF okF
  simp [h]
theorem cut_no2 {r : R} {first : Int} (h : bothF r.H first = false) : cutF r 2 first = (zR, zR, zR, false) := by
  unfold cutF okF
  simp [h]
theorem cut_no {r : R} {dir first : Int} (h1 : dir ≠ 1) (h2 : dir ≠ 2) : cutF r dir first = (zR, zR, zR, false) := by
  unfold cutF okF
  simp [h1, h2]

set_option maxHeartbeats 2000000 in
theorem cut_no_ (r : R) (dir : Int) (first : Int) (w : World) (hn : noneF r = false) (h1 : (dir == 1) = false) (h2 : (dir == 2) = false) : Calls Try.prog 69 #[rv r, .int .i64 dir, .int .i64 first] w (New (cutV (zR, zR, zR, false)) w) := by
  have N : ∀ w, Calls Try.prog 73 #[rv r] w (New (.bool (noneF r)) w) := none_any r
  rw [hn] at N
  obtain ⟨_, _, _, _, lW, uW, lH, uH⟩ := none_no hn
  clear hn
  obtain ⟨X, Y, W, H⟩ := r
  unfold rv at *
  dsimp only at *
  go_enter Try.func69, Try.ntmps69
  go_upto_region 3 with (go_at_call 73; refine (N _).mono ?_; rintro e w2 ⟨rfl, hb⟩; obtain ⟨p0, q1, q2, q3, hw, hs⟩ := four hb)
  refine wp_world (fun wq => RB wq w.heap.size ⟨X, Y, W, H⟩ ∧ RB wq (w.heap.size + 1) zR ∧ RB wq (w.heap.size + 1 + 1) zR ∧ RB wq (w.heap.size + 1 + 1 + 1) zR ∧ Below w.heap.size w wq) ⟨p0, q1, q2, q3, hw⟩ ?_
  clear p0 q1 q2 q3 hw hs hb w2
  rintro wq ⟨p0, q1, q2, q3, hw⟩
  obtain ⟨r0, r1, r2, r3, rf⟩ := p0.cells
  obtain ⟨a0, a1, a2, a3, af⟩ := q1.cells
  obtain ⟨b0, b1, b2, b3, bf⟩ := q2.cells
  obtain ⟨c0, c1, c2, c3, cf⟩ := q3.cells
  dsimp only [zR] at r0 r1 r2 r3 a0 a1 a2 a3 b0 b1 b2 b3 c0 c1 c2 c3
  go_region
  go_upto_region 4 with fail
  refine wp_world (fun wq => RB wq w.heap.size ⟨X, Y, W, H⟩ ∧ RB wq (w.heap.size + 1) ⟨X, Y, W, H⟩ ∧ RB wq (w.heap.size + 1 + 1) ⟨X, Y, W, H⟩ ∧ RB wq (w.heap.size + 1 + 1 + 1) ⟨X, Y, W, H⟩ ∧ Below w.heap.size w wq)
    ⟨(((p0.far4 (by omega) _ _ _ _).far4 (by omega) _ _ _ _).far4 (by omega) _ _ _ _).drew, (((q1.put ⟨X, Y, W, H⟩).far4 (by omega) _ _ _ _).far4 (by omega) _ _ _ _).drew, (((q2.far4 (by omega) _ _ _ _).put ⟨X, Y, W, H⟩).far4 (by omega) _ _ _ _).drew, (((q3.far4 (by omega) _ _ _ _).far4 (by omega) _ _ _ _).put ⟨X, Y, W, H⟩).drew, (below_set4 (below_set4 (below_set4 hw (by omega) _ _ _ _) (by omega) _ _ _ _) (by omega) _ _ _ _).drew⟩ ?_
  clear r0 r1 r2 r3 rf a0 a1 a2 a3 af b0 b1 b2 b3 bf c0 c1 c2 c3 cf p0 q1 q2 q3 hw wq
  rintro wq ⟨p0, q1, q2, q3, hw⟩
  obtain ⟨r0, r1, r2, r3, rf⟩ := p0.cells
  obtain ⟨a0, a1, a2, a3, af⟩ := q1.cells
  obtain ⟨b0, b1, b2, b3, bf⟩ := q2.cells
  obtain ⟨c0, c1, c2, c3, cf⟩ := q3.cells
  dsimp only [zR] at r0 r1 r2 r3 a0 a1 a2 a3 b0 b1 b2 b3 c0 c1 c2 c3
  go_wp2_with fail
  refine bodyPost_ret (v := cutV (zR, zR, zR, false)) ?_ rfl ⟨rfl, ?_⟩
  · simp [results, Try.results69, go_sem, cutV, rv, zR, a0, a1, a2, a3, b0, b1, b2, b3, c0, c1, c2, c3]
  · exact below_set4 (below_set4 (below_set4 hw (by omega) _ _ _ _) (by omega) _ _ _ _) (by omega) _ _ _ _

set_option maxHeartbeats 2000000 in
theorem cut_w_no (r : R) (first : Int) (w : World) (hn : noneF r = false) (hb : bothF r.W first = false) : Calls Try.prog 69 #[rv r, .int .i64 1, .int .i64 first] w (New (cutV (zR, zR, zR, false)) w) := by
  have N : ∀ w, Calls Try.prog 73 #[rv r] w (New (.bool (noneF r)) w) := none_any r
  rw [hn] at N
  obtain ⟨_, _, _, _, lW, uW, lH, uH⟩ := none_no hn
  have B : ∀ w, Calls Try.prog 74 #[.int .i64 r.W, .int .i64 first] w (Ans (.bool (bothF r.W first)) w) := both_any r.W first lW uW
  rw [hb] at B
  clear hb
  clear hn
  obtain ⟨X, Y, W, H⟩ := r
  unfold rv at *
  dsimp only at *
  go_enter Try.func69, Try.ntmps69
  go_upto_region 3 with (go_at_call 73; refine (N _).mono ?_; rintro e w2 ⟨rfl, hb⟩; obtain ⟨p0, q1, q2, q3, hw, hs⟩ := four hb)
  refine wp_world (fun wq => RB wq w.heap.size ⟨X, Y, W, H⟩ ∧ RB wq (w.heap.size + 1) zR ∧ RB wq (w.heap.size + 1 + 1) zR ∧ RB wq (w.heap.size + 1 + 1 + 1) zR ∧ Below w.heap.size w wq) ⟨p0, q1, q2, q3, hw⟩ ?_
  clear p0 q1 q2 q3 hw hs hb w2
  rintro wq ⟨p0, q1, q2, q3, hw⟩
  obtain ⟨r0, r1, r2, r3, rf⟩ := p0.cells
  obtain ⟨a0, a1, a2, a3, af⟩ := q1.cells
  obtain ⟨b0, b1, b2, b3, bf⟩ := q2.cells
  obtain ⟨c0, c1, c2, c3, cf⟩ := q3.cells
  dsimp only [zR] at r0 r1 r2 r3 a0 a1 a2 a3 b0 b1 b2 b3 c0 c1 c2 c3
  go_region
  go_upto_region 4 with fail
  refine wp_world (fun wq => RB wq w.heap.size ⟨X, Y, W, H⟩ ∧ RB wq (w.heap.size + 1) ⟨X, Y, W, H⟩ ∧ RB wq (w.heap.size + 1 + 1) ⟨X, Y, W, H⟩ ∧ RB wq (w.heap.size + 1 + 1 + 1) ⟨X, Y, W, H⟩ ∧ Below w.heap.size w wq)
    ⟨(((p0.far4 (by omega) _ _ _ _).far4 (by omega) _ _ _ _).far4 (by omega) _ _ _ _).drew, (((q1.put ⟨X, Y, W, H⟩).far4 (by omega) _ _ _ _).far4 (by omega) _ _ _ _).drew, (((q2.far4 (by omega) _ _ _ _).put ⟨X, Y, W, H⟩).far4 (by omega) _ _ _ _).drew, (((q3.far4 (by omega) _ _ _ _).far4 (by omega) _ _ _ _).put ⟨X, Y, W, H⟩).drew, (below_set4 (below_set4 (below_set4 hw (by omega) _ _ _ _) (by omega) _ _ _ _) (by omega) _ _ _ _).drew⟩ ?_
  clear r0 r1 r2 r3 rf a0 a1 a2 a3 af b0 b1 b2 b3 bf c0 c1 c2 c3 cf p0 q1 q2 q3 hw wq
  rintro wq ⟨p0, q1, q2, q3, hw⟩
  obtain ⟨r0, r1, r2, r3, rf⟩ := p0.cells
  obtain ⟨a0, a1, a2, a3, af⟩ := q1.cells
  obtain ⟨b0, b1, b2, b3, bf⟩ := q2.cells
  obtain ⟨c0, c1, c2, c3, cf⟩ := q3.cells
  dsimp only [zR] at r0 r1 r2 r3 a0 a1 a2 a3 b0 b1 b2 b3 c0 c1 c2 c3
  go_upto_region 7 with (go_at_call 74; refine (B _).mono ?_; rintro e w3 ⟨rfl, rfl⟩)
  go_region
  go_upto_region 8 with fail
  refine wp_world (fun wq => ∃ a m b : R, RB wq w.heap.size ⟨X, Y, W, H⟩ ∧ RB wq (w.heap.size + 1) a ∧ RB wq (w.heap.size + 1 + 1) m ∧ RB wq (w.heap.size + 1 + 1 + 1) b ∧ Below w.heap.size w wq)
    ⟨_, _, _, (((p0.far (by omega) _).far (by omega) _).far (by omega) _).drew, (((q1.s2 _).far (by omega) _).far (by omega) _).drew, (((q2.far (by omega) _).s2 _).far (by omega) _).drew, (((q3.far (by omega) _).far (by omega) _).s2 _).drew, (((hw.setCell (p := ⟨w.heap.size + 1, 2, none⟩) (by simp) _).setCell (p := ⟨w.heap.size + 1 + 1, 2, none⟩) (by simp; omega) _).setCell (p := ⟨w.heap.size + 1 + 1 + 1, 2, none⟩) (by simp; omega) _).drew⟩ ?_
  clear r0 r1 r2 r3 rf a0 a1 a2 a3 af b0 b1 b2 b3 bf c0 c1 c2 c3 cf p0 q1 q2 q3 hw wq
  rintro wq ⟨aa, am, ab, p0, q1, q2, q3, hw⟩
  obtain ⟨aX, aY, aW, aH⟩ := aa
  obtain ⟨mX, mY, mW, mH⟩ := am
  obtain ⟨bX, bY, bW, bH⟩ := ab
  obtain ⟨r0, r1, r2, r3, rf⟩ := p0.cells
  obtain ⟨a0, a1, a2, a3, af⟩ := q1.cells
  obtain ⟨b0, b1, b2, b3, bf⟩ := q2.cells
  obtain ⟨c0, c1, c2, c3, cf⟩ := q3.cells
  dsimp only [zR] at r0 r1 r2 r3 a0 a1 a2 a3 b0 b1 b2 b3 c0 c1 c2 c3
  go_region
  go_upto_region 13 with fail
  refine wp_world (fun wq => ∃ a m b : R, RB wq w.heap.size ⟨X, Y, W, H⟩ ∧ RB wq (w.heap.size + 1) a ∧ RB wq (w.heap.size + 1 + 1) m ∧ RB wq (w.heap.size + 1 + 1 + 1) b ∧ Below w.heap.size w wq)
    ⟨_, _, _, ((p0.far (by omega) _).far (by omega) _).drew, ((q1.far (by omega) _).far (by omega) _).drew, ((q2.s0 _).far (by omega) _).drew, ((q3.far (by omega) _).s0 _).drew, ((hw.setCell (p := ⟨w.heap.size + 1 + 1, 0, none⟩) (by simp; omega) _).setCell (p := ⟨w.heap.size + 1 + 1 + 1, 0, none⟩) (by simp; omega) _).drew⟩ ?_
  clear r0 r1 r2 r3 rf a0 a1 a2 a3 af b0 b1 b2 b3 bf c0 c1 c2 c3 cf p0 q1 q2 q3 hw wq
  rintro wq ⟨aa, am, ab, p0, q1, q2, q3, hw⟩
  obtain ⟨aX, aY, aW, aH⟩ := aa
  obtain ⟨mX, mY, mW, mH⟩ := am
  obtain ⟨bX, bY, bW, bH⟩ := ab
  obtain ⟨r0, r1, r2, r3, rf⟩ := p0.cells
  obtain ⟨a0, a1, a2, a3, af⟩ := q1.cells
  obtain ⟨b0, b1, b2, b3, bf⟩ := q2.cells
  obtain ⟨c0, c1, c2, c3, cf⟩ := q3.cells
  dsimp only [zR] at r0 r1 r2 r3 a0 a1 a2 a3 b0 b1 b2 b3 c0 c1 c2 c3
  go_wp2_with fail
  refine bodyPost_ret (v := cutV (zR, zR, zR, false)) ?_ rfl ⟨rfl, ?_⟩
  · simp [results, Try.results69, go_sem, cutV, rv, zR, a0, a1, a2, a3, b0, b1, b2, b3, c0, c1, c2, c3]
  · exact below_set4 (below_set4 (below_set4 hw (by omega) _ _ _ _) (by omega) _ _ _ _) (by omega) _ _ _ _

set_option maxHeartbeats 2000000 in
theorem cut_h_no (r : R) (first : Int) (w : World) (hn : noneF r = false) (hb : bothF r.H first = false) : Calls Try.prog 69 #[rv r, .int .i64 2, .int .i64 first] w (New (cutV (zR, zR, zR, false)) w) := by
  have N : ∀ w, Calls Try.prog 73 #[rv r] w (New (.bool (noneF r)) w) := none_any r
  rw [hn] at N
  obtain ⟨_, _, _, _, lW, uW, lH, uH⟩ := none_no hn
  have B : ∀ w, Calls Try.prog 74 #[.int .i64 r.H, .int .i64 first] w (Ans (.bool (bothF r.H first)) w) := both_any r.H first lH uH
  rw [hb] at B
  clear hb
  clear hn
  obtain ⟨X, Y, W, H⟩ := r
  unfold rv at *
  dsimp only at *
  go_enter Try.func69, Try.ntmps69
  go_upto_region 3 with (go_at_call 73; refine (N _).mono ?_; rintro e w2 ⟨rfl, hb⟩; obtain ⟨p0, q1, q2, q3, hw, hs⟩ := four hb)
  refine wp_world (fun wq => RB wq w.heap.size ⟨X, Y, W, H⟩ ∧ RB wq (w.heap.size + 1) zR ∧ RB wq (w.heap.size + 1 + 1) zR ∧ RB wq (w.heap.size + 1 + 1 + 1) zR ∧ Below w.heap.size w wq) ⟨p0, q1, q2, q3, hw⟩ ?_
  clear p0 q1 q2 q3 hw hs hb w2
  rintro wq ⟨p0, q1, q2, q3, hw⟩
  obtain ⟨r0, r1, r2, r3, rf⟩ := p0.cells
  obtain ⟨a0, a1, a2, a3, af⟩ := q1.cells
  obtain ⟨b0, b1, b2, b3, bf⟩ := q2.cells
  obtain ⟨c0, c1, c2, c3, cf⟩ := q3.cells
  dsimp only [zR] at r0 r1 r2 r3 a0 a1 a2 a3 b0 b1 b2 b3 c0 c1 c2 c3
  go_region
  go_upto_region 4 with fail
  refine wp_world (fun wq => RB wq w.heap.size ⟨X, Y, W, H⟩ ∧ RB wq (w.heap.size + 1) ⟨X, Y, W, H⟩ ∧ RB wq (w.heap.size + 1 + 1) ⟨X, Y, W, H⟩ ∧ RB wq (w.heap.size + 1 + 1 + 1) ⟨X, Y, W, H⟩ ∧ Below w.heap.size w wq)
    ⟨(((p0.far4 (by omega) _ _ _ _).far4 (by omega) _ _ _ _).far4 (by omega) _ _ _ _).drew, (((q1.put ⟨X, Y, W, H⟩).far4 (by omega) _ _ _ _).far4 (by omega) _ _ _ _).drew, (((q2.far4 (by omega) _ _ _ _).put ⟨X, Y, W, H⟩).far4 (by omega) _ _ _ _).drew, (((q3.far4 (by omega) _ _ _ _).far4 (by omega) _ _ _ _).put ⟨X, Y, W, H⟩).drew, (below_set4 (below_set4 (below_set4 hw (by omega) _ _ _ _) (by omega) _ _ _ _) (by omega) _ _ _ _).drew⟩ ?_
  clear r0 r1 r2 r3 rf a0 a1 a2 a3 af b0 b1 b2 b3 bf c0 c1 c2 c3 cf p0 q1 q2 q3 hw wq
  rintro wq ⟨p0, q1, q2, q3, hw⟩
  obtain ⟨r0, r1, r2, r3, rf⟩ := p0.cells
  obtain ⟨a0, a1, a2, a3, af⟩ := q1.cells
  obtain ⟨b0, b1, b2, b3, bf⟩ := q2.cells
  obtain ⟨c0, c1, c2, c3, cf⟩ := q3.cells
  dsimp only [zR] at r0 r1 r2 r3 a0 a1 a2 a3 b0 b1 b2 b3 c0 c1 c2 c3
  go_upto_region 11 with (go_at_call 74; refine (B _).mono ?_; rintro e w3 ⟨rfl, rfl⟩)
  go_region
  go_upto_region 12 with fail
  refine wp_world (fun wq => ∃ a m b : R, RB wq w.heap.size ⟨X, Y, W, H⟩ ∧ RB wq (w.heap.size + 1) a ∧ RB wq (w.heap.size + 1 + 1) m ∧ RB wq (w.heap.size + 1 + 1 + 1) b ∧ Below w.heap.size w wq)
    ⟨_, _, _, (((p0.far (by omega) _).far (by omega) _).far (by omega) _).drew, (((q1.s3 _).far (by omega) _).far (by omega) _).drew, (((q2.far (by omega) _).s3 _).far (by omega) _).drew, (((q3.far (by omega) _).far (by omega) _).s3 _).drew, (((hw.setCell (p := ⟨w.heap.size + 1, 3, none⟩) (by simp) _).setCell (p := ⟨w.heap.size + 1 + 1, 3, none⟩) (by simp; omega) _).setCell (p := ⟨w.heap.size + 1 + 1 + 1, 3, none⟩) (by simp; omega) _).drew⟩ ?_
  clear r0 r1 r2 r3 rf a0 a1 a2 a3 af b0 b1 b2 b3 bf c0 c1 c2 c3 cf p0 q1 q2 q3 hw wq
  rintro wq ⟨aa, am, ab, p0, q1, q2, q3, hw⟩
  obtain ⟨aX, aY, aW, aH⟩ := aa
  obtain ⟨mX, mY, mW, mH⟩ := am
  obtain ⟨bX, bY, bW, bH⟩ := ab
  obtain ⟨r0, r1, r2, r3, rf⟩ := p0.cells
  obtain ⟨a0, a1, a2, a3, af⟩ := q1.cells
  obtain ⟨b0, b1, b2, b3, bf⟩ := q2.cells
  obtain ⟨c0, c1, c2, c3, cf⟩ := q3.cells
  dsimp only [zR] at r0 r1 r2 r3 a0 a1 a2 a3 b0 b1 b2 b3 c0 c1 c2 c3
  go_region
  go_upto_region 13 with fail
  refine wp_world (fun wq => ∃ a m b : R, RB wq w.heap.size ⟨X, Y, W, H⟩ ∧ RB wq (w.heap.size + 1) a ∧ RB wq (w.heap.size + 1 + 1) m ∧ RB wq (w.heap.size + 1 + 1 + 1) b ∧ Below w.heap.size w wq)
    ⟨_, _, _, ((p0.far (by omega) _).far (by omega) _).drew, ((q1.far (by omega) _).far (by omega) _).drew, ((q2.s1 _).far (by omega) _).drew, ((q3.far (by omega) _).s1 _).drew, ((hw.setCell (p := ⟨w.heap.size + 1 + 1, 1, none⟩) (by simp; omega) _).setCell (p := ⟨w.heap.size + 1 + 1 + 1, 1, none⟩) (by simp; omega) _).drew⟩ ?_
  clear r0 r1 r2 r3 rf a0 a1 a2 a3 af b0 b1 b2 b3 bf c0 c1 c2 c3 cf p0 q1 q2 q3 hw wq
  rintro wq ⟨aa, am, ab, p0, q1, q2, q3, hw⟩
  obtain ⟨aX, aY, aW, aH⟩ := aa
  obtain ⟨mX, mY, mW, mH⟩ := am
  obtain ⟨bX, bY, bW, bH⟩ := ab
  obtain ⟨r0, r1, r2, r3, rf⟩ := p0.cells
  obtain ⟨a0, a1, a2, a3, af⟩ := q1.cells
  obtain ⟨b0, b1, b2, b3, bf⟩ := q2.cells
  obtain ⟨c0, c1, c2, c3, cf⟩ := q3.cells
  dsimp only [zR] at r0 r1 r2 r3 a0 a1 a2 a3 b0 b1 b2 b3 c0 c1 c2 c3
  go_wp2_with fail
  refine bodyPost_ret (v := cutV (zR, zR, zR, false)) ?_ rfl ⟨rfl, ?_⟩
  · simp [results, Try.results69, go_sem, cutV, rv, zR, a0, a1, a2, a3, b0, b1, b2, b3, c0, c1, c2, c3]
  · exact below_set4 (below_set4 (below_set4 hw (by omega) _ _ _ _) (by omega) _ _ _ _) (by omega) _ _ _ _

set_option maxHeartbeats 2000000 in
theorem cut_w (r : R) (first : Int) (w : World) (hn : noneF r = false) (hb : bothF r.W first = true) : Calls Try.prog 69 #[rv r, .int .i64 1, .int .i64 first] w (New (cutV (⟨r.X, r.Y, first, r.H⟩, ⟨r.X + first, r.Y, 1, r.H⟩, ⟨r.X + first + 1, r.Y, r.W - 1 - first, r.H⟩, true)) w) := by
  have N : ∀ w, Calls Try.prog 73 #[rv r] w (New (.bool (noneF r)) w) := none_any r
  rw [hn] at N
  obtain ⟨_, _, _, _, lW, uW, lH, uH⟩ := none_no hn
  have B : ∀ w, Calls Try.prog 74 #[.int .i64 r.W, .int .i64 first] w (Ans (.bool (bothF r.W first)) w) := both_any r.W first lW uW
  rw [hb] at B
  obtain ⟨lf, uf⟩ := both_iff hb rfl
  clear hb
  clear hn
  obtain ⟨X, Y, W, H⟩ := r
  unfold rv at *
  dsimp only at *
  go_enter Try.func69, Try.ntmps69
  go_upto_region 3 with (go_at_call 73; refine (N _).mono ?_; rintro e w2 ⟨rfl, hb⟩; obtain ⟨p0, q1, q2, q3, hw, hs⟩ := four hb)
  refine wp_world (fun wq => RB wq w.heap.size ⟨X, Y, W, H⟩ ∧ RB wq (w.heap.size + 1) zR ∧ RB wq (w.heap.size + 1 + 1) zR ∧ RB wq (w.heap.size + 1 + 1 + 1) zR ∧ Below w.heap.size w wq) ⟨p0, q1, q2, q3, hw⟩ ?_
  clear p0 q1 q2 q3 hw hs hb w2
  rintro wq ⟨p0, q1, q2, q3, hw⟩
  obtain ⟨r0, r1, r2, r3, rf⟩ := p0.cells
  obtain ⟨a0, a1, a2, a3, af⟩ := q1.cells
  obtain ⟨b0, b1, b2, b3, bf⟩ := q2.cells
  obtain ⟨c0, c1, c2, c3, cf⟩ := q3.cells
  dsimp only [zR] at r0 r1 r2 r3 a0 a1 a2 a3 b0 b1 b2 b3 c0 c1 c2 c3
  go_region
  go_upto_region 4 with fail
  refine wp_world (fun wq => RB wq w.heap.size ⟨X, Y, W, H⟩ ∧ RB wq (w.heap.size + 1) ⟨X, Y, W, H⟩ ∧ RB wq (w.heap.size + 1 + 1) ⟨X, Y, W, H⟩ ∧ RB wq (w.heap.size + 1 + 1 + 1) ⟨X, Y, W, H⟩ ∧ Below w.heap.size w wq)
    ⟨(((p0.far4 (by omega) _ _ _ _).far4 (by omega) _ _ _ _).far4 (by omega) _ _ _ _).drew, (((q1.put ⟨X, Y, W, H⟩).far4 (by omega) _ _ _ _).far4 (by omega) _ _ _ _).drew, (((q2.far4 (by omega) _ _ _ _).put ⟨X, Y, W, H⟩).far4 (by omega) _ _ _ _).drew, (((q3.far4 (by omega) _ _ _ _).far4 (by omega) _ _ _ _).put ⟨X, Y, W, H⟩).drew, (below_set4 (below_set4 (below_set4 hw (by omega) _ _ _ _) (by omega) _ _ _ _) (by omega) _ _ _ _).drew⟩ ?_
  clear r0 r1 r2 r3 rf a0 a1 a2 a3 af b0 b1 b2 b3 bf c0 c1 c2 c3 cf p0 q1 q2 q3 hw wq
  rintro wq ⟨p0, q1, q2, q3, hw⟩
  obtain ⟨r0, r1, r2, r3, rf⟩ := p0.cells
  obtain ⟨a0, a1, a2, a3, af⟩ := q1.cells
  obtain ⟨b0, b1, b2, b3, bf⟩ := q2.cells
  obtain ⟨c0, c1, c2, c3, cf⟩ := q3.cells
  dsimp only [zR] at r0 r1 r2 r3 a0 a1 a2 a3 b0 b1 b2 b3 c0 c1 c2 c3
  go_upto_region 7 with (go_at_call 74; refine (B _).mono ?_; rintro e w3 ⟨rfl, rfl⟩)
  go_region
  go_upto_region 8 with fail
  refine wp_world (fun wq => RB wq w.heap.size ⟨X, Y, W, H⟩ ∧ RB wq (w.heap.size + 1) ⟨X, Y, first, H⟩ ∧ RB wq (w.heap.size + 1 + 1) ⟨X, Y, 1, H⟩ ∧ RB wq (w.heap.size + 1 + 1 + 1) ⟨X, Y, W - 1 - first, H⟩ ∧ Below w.heap.size w wq)
    ⟨(((p0.far (by omega) _).far (by omega) _).far (by omega) _).drew, (((q1.s2 _).far (by omega) _).far (by omega) _).drew, (((q2.far (by omega) _).s2 _).far (by omega) _).drew, (((q3.far (by omega) _).far (by omega) _).s2 _).drew, (((hw.setCell (p := ⟨w.heap.size + 1, 2, none⟩) (by simp) _).setCell (p := ⟨w.heap.size + 1 + 1, 2, none⟩) (by simp; omega) _).setCell (p := ⟨w.heap.size + 1 + 1 + 1, 2, none⟩) (by simp; omega) _).drew⟩ ?_
  clear r0 r1 r2 r3 rf a0 a1 a2 a3 af b0 b1 b2 b3 bf c0 c1 c2 c3 cf p0 q1 q2 q3 hw wq
  rintro wq ⟨p0, q1, q2, q3, hw⟩
  obtain ⟨r0, r1, r2, r3, rf⟩ := p0.cells
  obtain ⟨a0, a1, a2, a3, af⟩ := q1.cells
  obtain ⟨b0, b1, b2, b3, bf⟩ := q2.cells
  obtain ⟨c0, c1, c2, c3, cf⟩ := q3.cells
  dsimp only [zR] at r0 r1 r2 r3 a0 a1 a2 a3 b0 b1 b2 b3 c0 c1 c2 c3
  go_region
  go_upto_region 13 with fail
  refine wp_world (fun wq => RB wq w.heap.size ⟨X, Y, W, H⟩ ∧ RB wq (w.heap.size + 1) ⟨X, Y, first, H⟩ ∧ RB wq (w.heap.size + 1 + 1) ⟨X + first, Y, 1, H⟩ ∧ RB wq (w.heap.size + 1 + 1 + 1) ⟨X + first + 1, Y, W - 1 - first, H⟩ ∧ Below w.heap.size w wq)
    ⟨((p0.far (by omega) _).far (by omega) _).drew, ((q1.far (by omega) _).far (by omega) _).drew, ((q2.s0 _).far (by omega) _).drew, ((q3.far (by omega) _).s0 _).drew, ((hw.setCell (p := ⟨w.heap.size + 1 + 1, 0, none⟩) (by simp; omega) _).setCell (p := ⟨w.heap.size + 1 + 1 + 1, 0, none⟩) (by simp; omega) _).drew⟩ ?_
  clear r0 r1 r2 r3 rf a0 a1 a2 a3 af b0 b1 b2 b3 bf c0 c1 c2 c3 cf p0 q1 q2 q3 hw wq
  rintro wq ⟨p0, q1, q2, q3, hw⟩
  obtain ⟨r0, r1, r2, r3, rf⟩ := p0.cells
  obtain ⟨a0, a1, a2, a3, af⟩ := q1.cells
  obtain ⟨b0, b1, b2, b3, bf⟩ := q2.cells
  obtain ⟨c0, c1, c2, c3, cf⟩ := q3.cells
  dsimp only [zR] at r0 r1 r2 r3 a0 a1 a2 a3 b0 b1 b2 b3 c0 c1 c2 c3
  go_wp2_with fail
  go_region
  go_wp2_with fail
  refine bodyPost_ret (v := cutV (⟨X, Y, first, H⟩, ⟨X + first, Y, 1, H⟩, ⟨X + first + 1, Y, W - 1 - first, H⟩, true)) ?_ rfl ⟨rfl, ?_⟩
  · simp [results, Try.results69, go_sem, cutV, rv, zR, a0, a1, a2, a3, b0, b1, b2, b3, c0, c1, c2, c3]
  · exact (below_set4 (below_set4 (below_set4 hw (by omega) _ _ _ _) (by omega) _ _ _ _) (by omega) _ _ _ _).drew

set_option maxHeartbeats 2000000 in
theorem cut_h (r : R) (first : Int) (w : World) (hn : noneF r = false) (hb : bothF r.H first = true) : Calls Try.prog 69 #[rv r, .int .i64 2, .int .i64 first] w (New (cutV (⟨r.X, r.Y, r.W, first⟩, ⟨r.X, r.Y + first, r.W, 1⟩, ⟨r.X, r.Y + first + 1, r.W, r.H - 1 - first⟩, true)) w) := by
  have N : ∀ w, Calls Try.prog 73 #[rv r] w (New (.bool (noneF r)) w) := none_any r
  rw [hn] at N
  obtain ⟨_, _, _, _, lW, uW, lH, uH⟩ := none_no hn
  have B : ∀ w, Calls Try.prog 74 #[.int .i64 r.H, .int .i64 first] w (Ans (.bool (bothF r.H first)) w) := both_any r.H first lH uH
  rw [hb] at B
  obtain ⟨lf, uf⟩ := both_iff hb rfl
  clear hb
  clear hn
  obtain ⟨X, Y, W, H⟩ := r
  unfold rv at *
  dsimp only at *
  go_enter Try.func69, Try.ntmps69
  go_upto_region 3 with (go_at_call 73; refine (N _).mono ?_; rintro e w2 ⟨rfl, hb⟩; obtain ⟨p0, q1, q2, q3, hw, hs⟩ := four hb)
  refine wp_world (fun wq => RB wq w.heap.size ⟨X, Y, W, H⟩ ∧ RB wq (w.heap.size + 1) zR ∧ RB wq (w.heap.size + 1 + 1) zR ∧ RB wq (w.heap.size + 1 + 1 + 1) zR ∧ Below w.heap.size w wq) ⟨p0, q1, q2, q3, hw⟩ ?_
  clear p0 q1 q2 q3 hw hs hb w2
  rintro wq ⟨p0, q1, q2, q3, hw⟩
  obtain ⟨r0, r1, r2, r3, rf⟩ := p0.cells
  obtain ⟨a0, a1, a2, a3, af⟩ := q1.cells
  obtain ⟨b0, b1, b2, b3, bf⟩ := q2.cells
  obtain ⟨c0, c1, c2, c3, cf⟩ := q3.cells
  dsimp only [zR] at r0 r1 r2 r3 a0 a1 a2 a3 b0 b1 b2 b3 c0 c1 c2 c3
  go_region
  go_upto_region 4 with fail
  refine wp_world (fun wq => RB wq w.heap.size ⟨X, Y, W, H⟩ ∧ RB wq (w.heap.size + 1) ⟨X, Y, W, H⟩ ∧ RB wq (w.heap.size + 1 + 1) ⟨X, Y, W, H⟩ ∧ RB wq (w.heap.size + 1 + 1 + 1) ⟨X, Y, W, H⟩ ∧ Below w.heap.size w wq)
    ⟨(((p0.far4 (by omega) _ _ _ _).far4 (by omega) _ _ _ _).far4 (by omega) _ _ _ _).drew, (((q1.put ⟨X, Y, W, H⟩).far4 (by omega) _ _ _ _).far4 (by omega) _ _ _ _).drew, (((q2.far4 (by omega) _ _ _ _).put ⟨X, Y, W, H⟩).far4 (by omega) _ _ _ _).drew, (((q3.far4 (by omega) _ _ _ _).far4 (by omega) _ _ _ _).put ⟨X, Y, W, H⟩).drew, (below_set4 (below_set4 (below_set4 hw (by omega) _ _ _ _) (by omega) _ _ _ _) (by omega) _ _ _ _).drew⟩ ?_
  clear r0 r1 r2 r3 rf a0 a1 a2 a3 af b0 b1 b2 b3 bf c0 c1 c2 c3 cf p0 q1 q2 q3 hw wq
  rintro wq ⟨p0, q1, q2, q3, hw⟩
  obtain ⟨r0, r1, r2, r3, rf⟩ := p0.cells
  obtain ⟨a0, a1, a2, a3, af⟩ := q1.cells
  obtain ⟨b0, b1, b2, b3, bf⟩ := q2.cells
  obtain ⟨c0, c1, c2, c3, cf⟩ := q3.cells
  dsimp only [zR] at r0 r1 r2 r3 a0 a1 a2 a3 b0 b1 b2 b3 c0 c1 c2 c3
  go_upto_region 11 with (go_at_call 74; refine (B _).mono ?_; rintro e w3 ⟨rfl, rfl⟩)
  go_region
  go_upto_region 12 with fail
  refine wp_world (fun wq => RB wq w.heap.size ⟨X, Y, W, H⟩ ∧ RB wq (w.heap.size + 1) ⟨X, Y, W, first⟩ ∧ RB wq (w.heap.size + 1 + 1) ⟨X, Y, W, 1⟩ ∧ RB wq (w.heap.size + 1 + 1 + 1) ⟨X, Y, W, H - 1 - first⟩ ∧ Below w.heap.size w wq)
    ⟨(((p0.far (by omega) _).far (by omega) _).far (by omega) _).drew, (((q1.s3 _).far (by omega) _).far (by omega) _).drew, (((q2.far (by omega) _).s3 _).far (by omega) _).drew, (((q3.far (by omega) _).far (by omega) _).s3 _).drew, (((hw.setCell (p := ⟨w.heap.size + 1, 3, none⟩) (by simp) _).setCell (p := ⟨w.heap.size + 1 + 1, 3, none⟩) (by simp; omega) _).setCell (p := ⟨w.heap.size + 1 + 1 + 1, 3, none⟩) (by simp; omega) _).drew⟩ ?_
  clear r0 r1 r2 r3 rf a0 a1 a2 a3 af b0 b1 b2 b3 bf c0 c1 c2 c3 cf p0 q1 q2 q3 hw wq
  rintro wq ⟨p0, q1, q2, q3, hw⟩
  obtain ⟨r0, r1, r2, r3, rf⟩ := p0.cells
  obtain ⟨a0, a1, a2, a3, af⟩ := q1.cells
  obtain ⟨b0, b1, b2, b3, bf⟩ := q2.cells
  obtain ⟨c0, c1, c2, c3, cf⟩ := q3.cells
  dsimp only [zR] at r0 r1 r2 r3 a0 a1 a2 a3 b0 b1 b2 b3 c0 c1 c2 c3
  go_region
  go_upto_region 13 with fail
  refine wp_world (fun wq => RB wq w.heap.size ⟨X, Y, W, H⟩ ∧ RB wq (w.heap.size + 1) ⟨X, Y, W, first⟩ ∧ RB wq (w.heap.size + 1 + 1) ⟨X, Y + first, W, 1⟩ ∧ RB wq (w.heap.size + 1 + 1 + 1) ⟨X, Y + first + 1, W, H - 1 - first⟩ ∧ Below w.heap.size w wq)
    ⟨((p0.far (by omega) _).far (by omega) _).drew, ((q1.far (by omega) _).far (by omega) _).drew, ((q2.s1 _).far (by omega) _).drew, ((q3.far (by omega) _).s1 _).drew, ((hw.setCell (p := ⟨w.heap.size + 1 + 1, 1, none⟩) (by simp; omega) _).setCell (p := ⟨w.heap.size + 1 + 1 + 1, 1, none⟩) (by simp; omega) _).drew⟩ ?_
  clear r0 r1 r2 r3 rf a0 a1 a2 a3 af b0 b1 b2 b3 bf c0 c1 c2 c3 cf p0 q1 q2 q3 hw wq
  rintro wq ⟨p0, q1, q2, q3, hw⟩
  obtain ⟨r0, r1, r2, r3, rf⟩ := p0.cells
  obtain ⟨a0, a1, a2, a3, af⟩ := q1.cells
  obtain ⟨b0, b1, b2, b3, bf⟩ := q2.cells
  obtain ⟨c0, c1, c2, c3, cf⟩ := q3.cells
  dsimp only [zR] at r0 r1 r2 r3 a0 a1 a2 a3 b0 b1 b2 b3 c0 c1 c2 c3
  go_wp2_with fail
  go_region
  go_wp2_with fail
  refine bodyPost_ret (v := cutV (⟨X, Y, W, first⟩, ⟨X, Y + first, W, 1⟩, ⟨X, Y + first + 1, W, H - 1 - first⟩, true)) ?_ rfl ⟨rfl, ?_⟩
  · simp [results, Try.results69, go_sem, cutV, rv, zR, a0, a1, a2, a3, b0, b1, b2, b3, c0, c1, c2, c3]
  · exact (below_set4 (below_set4 (below_set4 hw (by omega) _ _ _ _) (by omega) _ _ _ _) (by omega) _ _ _ _).drew

theorem cut_any (r : R) (dir first : Int) (w : World) : Calls Try.prog 69 #[rv r, .int .i64 dir, .int .i64 first] w (New (cutV (cutF r dir first)) w) := by
  by_cases hn : noneF r = true
  · rw [show cutF r dir first = (zR, zR, zR, false) by unfold cutF okF; simp [hn]]
    exact cut_none r dir first w hn
  · have hn' := Bool.eq_false_iff.2 hn
    by_cases h1 : dir = 1
    · subst h1
      cases hb : bothF r.W first with
      | false => rw [cut_no1 hb]; exact cut_w_no r first w hn' hb
      | true => rw [cut_ok1 hn' hb]; exact cut_w r first w hn' hb
    · by_cases h2 : dir = 2
      · subst h2
        cases hb : bothF r.H first with
        | false => rw [cut_no2 hb]; exact cut_h_no r first w hn' hb
        | true => rw [cut_ok2 hn' hb]; exact cut_h r first w hn' hb
      · rw [cut_no h1 h2]
        exact cut_no_ r dir first w hn' (by simpa using h1) (by simpa using h2)
end Go.Proofs.Ytojgmofpgefonaa
