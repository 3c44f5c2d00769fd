/-
  That the small check 'awake' at the end of every statement of this seat answers true. Conditions: none.
-/
import Derived.Test.YtigpfpnikggojaaCut
namespace Go.Proofs.Ytigpfpnikggojaa
open Go.RowKit
set_option maxRecDepth 100000

theorem cut_is {r a m b : R} {dir first : Int} {ok : Bool} (h : cutF r dir first = (a, m, b, ok)) (w : World) :
    Calls Try.prog 7 #[.agg #[.int .i64 r.X, .int .i64 r.Y, .int .i64 r.W, .int .i64 r.H], .int .i64 dir, .int .i64 first] w
      (New (.tuple #[.agg #[.int .i64 a.X, .int .i64 a.Y, .int .i64 a.W, .int .i64 a.H], .agg #[.int .i64 m.X, .int .i64 m.Y, .int .i64 m.W, .int .i64 m.H], .agg #[.int .i64 b.X, .int .i64 b.Y, .int .i64 b.W, .int .i64 b.H], .bool ok]) w) := by
  have := cut_any r dir first w
  rw [h] at this
  exact this
theorem in_is {r : R} {x y : Int} {q : Bool} (h : inF r x y = q) (w : World) : Calls Try.prog 9 #[.agg #[.int .i64 r.X, .int .i64 r.Y, .int .i64 r.W, .int .i64 r.H], .int .i64 x, .int .i64 y] w (New (.bool q) w) := by
  subst h; exact in_any r x y w
theorem area_is {r : R} {q : Int} (h : areaF r = q) (w : World) : Calls Try.prog 10 #[.agg #[.int .i64 r.X, .int .i64 r.Y, .int .i64 r.W, .int .i64 r.H]] w (New (.int .i64 q) w) := by
  subst h; exact area_any r w

theorem aw1 : cutF ⟨1, 2, 7, 3⟩ 1 2 = (⟨1, 2, 2, 3⟩, ⟨3, 2, 1, 3⟩, ⟨4, 2, 4, 3⟩, true) := by decide +kernel
theorem aw2 : cutF ⟨0, 0, 2, 9⟩ 1 1 = (zR, zR, zR, false) := by decide +kernel
theorem aw3 : inF ⟨1, 2, 2, 3⟩ 2 4 = true := by decide +kernel
theorem aw4 : inF ⟨1, 2, 2, 3⟩ 3 4 = false := by decide +kernel
theorem aw5 : areaF ⟨4, 2, 4, 3⟩ = 12 := by decide +kernel
theorem aw6 : areaF ⟨0, 0, -1, 0⟩ = 0 := by decide +kernel

/-- Three variables made one behind the other. -/
theorem boxes (w : World) (a m b : R) : RB (((w.alloc (.cells #[.int .i64 a.X, .int .i64 a.Y, .int .i64 a.W, .int .i64 a.H] 23)).alloc (.cells #[.int .i64 m.X, .int .i64 m.Y, .int .i64 m.W, .int .i64 m.H] 23)).alloc (.cells #[.int .i64 b.X, .int .i64 b.Y, .int .i64 b.W, .int .i64 b.H] 23)) w.heap.size a ∧
    RB (((w.alloc (.cells #[.int .i64 a.X, .int .i64 a.Y, .int .i64 a.W, .int .i64 a.H] 23)).alloc (.cells #[.int .i64 m.X, .int .i64 m.Y, .int .i64 m.W, .int .i64 m.H] 23)).alloc (.cells #[.int .i64 b.X, .int .i64 b.Y, .int .i64 b.W, .int .i64 b.H] 23)) (w.heap.size + 1) m ∧
    RB (((w.alloc (.cells #[.int .i64 a.X, .int .i64 a.Y, .int .i64 a.W, .int .i64 a.H] 23)).alloc (.cells #[.int .i64 m.X, .int .i64 m.Y, .int .i64 m.W, .int .i64 m.H] 23)).alloc (.cells #[.int .i64 b.X, .int .i64 b.Y, .int .i64 b.W, .int .i64 b.H] 23)) (w.heap.size + 1 + 1) b ∧
    Below w.heap.size w (((w.alloc (.cells #[.int .i64 a.X, .int .i64 a.Y, .int .i64 a.W, .int .i64 a.H] 23)).alloc (.cells #[.int .i64 m.X, .int .i64 m.Y, .int .i64 m.W, .int .i64 m.H] 23)).alloc (.cells #[.int .i64 b.X, .int .i64 b.Y, .int .i64 b.W, .int .i64 b.H] 23)) ∧
    (((w.alloc (.cells #[.int .i64 a.X, .int .i64 a.Y, .int .i64 a.W, .int .i64 a.H] 23)).alloc (.cells #[.int .i64 m.X, .int .i64 m.Y, .int .i64 m.W, .int .i64 m.H] 23)).alloc (.cells #[.int .i64 b.X, .int .i64 b.Y, .int .i64 b.W, .int .i64 b.H] 23)).heap.size = w.heap.size + 3 := by
  have h0 := RB.new w a
  have h1 := RB.new (w.alloc (.cells #[.int .i64 a.X, .int .i64 a.Y, .int .i64 a.W, .int .i64 a.H] 23)) m
  have h2 := RB.new ((w.alloc (.cells #[.int .i64 a.X, .int .i64 a.Y, .int .i64 a.W, .int .i64 a.H] 23)).alloc (.cells #[.int .i64 m.X, .int .i64 m.Y, .int .i64 m.W, .int .i64 m.H] 23)) b
  simp only [World.size_alloc] at h1 h2
  exact ⟨(h0.alloc _).alloc _, h1.alloc _, h2, (((Below.refl _ _).alloc (Nat.le_refl _) _).alloc (by simp) _).alloc (by simp; omega) _, by simp only [World.size_alloc]⟩

def TrueBelow (w : World) (e : Ending) (w' : World) : Prop := e = .returned (.bool true) ∧ Below w.heap.size w w'

set_option maxHeartbeats 1000000 in
theorem awake_any (w : World) : Calls Try.prog 8 #[] w (TrueBelow w) := by
  go_enter Try.func8, Try.ntmps8
  go_upto_region 3 with (first
    | (go_at_call 7
       (with_reducible refine (cut_is (r := ⟨1, 2, 7, 3⟩) aw1 _).mono ?_)
       rintro e w2 ⟨rfl, hb2⟩)
    | (go_at_call 7
       (with_reducible refine (cut_is (r := ⟨0, 0, 2, 9⟩) aw2 _).mono ?_)
       rintro e w3 ⟨rfl, hb3⟩))
  obtain ⟨x0, x1, x2, xb, xs⟩ := boxes w2 ⟨1, 2, 2, 3⟩ ⟨3, 2, 1, 3⟩ ⟨4, 2, 4, 3⟩
  obtain ⟨y0, y1, y2, yb, ys⟩ := boxes w3 ⟨0, 0, 0, 0⟩ ⟨0, 0, 0, 0⟩ ⟨0, 0, 0, 0⟩
  have hs3 := hb3.size
  refine wp_world (fun wq => ∃ A, RB wq A ⟨1, 2, 2, 3⟩ ∧ RB wq (A + 1) ⟨3, 2, 1, 3⟩ ∧ RB wq (A + 1 + 1) ⟨4, 2, 4, 3⟩ ∧ Below w.heap.size w wq ∧ A = w2.heap.size)
    ⟨_, (x0.below hb3 x0.lt).below yb (Nat.lt_of_lt_of_le x0.lt hs3), (x1.below hb3 x1.lt).below yb (Nat.lt_of_lt_of_le x1.lt hs3), (x2.below hb3 x2.lt).below yb (Nat.lt_of_lt_of_le x2.lt hs3), (hb2.trans (xb.mono hb2.size)).trans ((hb3.trans (yb.mono hs3)).mono (Nat.le_trans hb2.size xb.size)), rfl⟩ ?_
  clear y0 y1 y2 ys x0 x1 x2 xb xs yb hs3 hb3 hb2
  generalize w2.heap.size = g
  rintro wq ⟨_, p0, p1, p2, hw, rfl⟩
  obtain ⟨a0, a1, a2, a3, _⟩ := p0.cells
  obtain ⟨b0, b1, b2, b3, _⟩ := p1.cells
  obtain ⟨c0, c1, c2, c3, _⟩ := p2.cells
  dsimp only at a0 a1 a2 a3 b0 b1 b2 b3 c0 c1 c2 c3
  have HP := Lib.hid p0
  have HC := Lib.hid p2
  go_wp2_with fail
  refine (in_is (r := ⟨1, 2, 2, 3⟩) aw3 _).mono ?_
  rintro e w4 ⟨rfl, hb4⟩
  obtain ⟨d0, d1, d2, d3, _⟩ := (HP.out.below hb4 HP.out.lt).cells
  dsimp only at d0 d1 d2 d3
  have P4 := Lib.hid (HP.out.below hb4 HP.out.lt)
  have C4 := Lib.hid (HC.out.below hb4 HC.out.lt)
  go_wp2_with fail
  refine (in_is (r := ⟨1, 2, 2, 3⟩) aw4 _).mono ?_
  rintro e w5 ⟨rfl, hb5⟩
  obtain ⟨e0, e1, e2, e3, _⟩ := (C4.out.below hb5 C4.out.lt).cells
  dsimp only at e0 e1 e2 e3
  go_wp2_with fail
  refine (area_is (r := ⟨4, 2, 4, 3⟩) aw5 _).mono ?_
  rintro e w6 ⟨rfl, hb6⟩
  go_wp2_with fail
  refine (area_is (r := ⟨0, 0, -1, 0⟩) aw6 _).mono ?_
  rintro e w7 ⟨rfl, hb7⟩
  go_wp2_with fail
  go_ret
  exact ⟨rfl, hw.trans ((hb4.trans ((hb5.trans ((hb6.trans (hb7.mono hb6.size)).mono hb5.size)).mono hb4.size)).mono hw.size)⟩
end Go.Proofs.Ytigpfpnikggojaa
