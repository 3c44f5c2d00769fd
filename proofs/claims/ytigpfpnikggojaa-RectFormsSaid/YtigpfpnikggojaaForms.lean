/-
  The walk of RectForms: its table of 15 rectangles, and each of them. Conditions: none.
-/
import Derived.Test.YtigpfpnikggojaaLits
import Derived.Deep.DeepCutAuto
namespace Go.Proofs.Ytigpfpnikggojaa
open Go.RowKit
set_option maxRecDepth 100000

def Small (r : R) (f : Int) : Prop := 0 ≤ r.X ∧ r.X ≤ 1000 ∧ 0 ≤ r.Y ∧ r.Y ≤ 1000 ∧ 0 ≤ r.W ∧ r.W ≤ 1000 ∧ 0 ≤ r.H ∧ r.H ≤ 1000 ∧ 0 ≤ f ∧ f ≤ 1000
instance (r : R) (f : Int) : Decidable (Small r f) := by unfold Small; infer_instance
/-- The three ways of a row. -/
def Way (r : R) (d f : Int) (ok : Bool) : Prop :=
  (ok = false ∧ cutF r d f = (zR, zR, zR, false)) ∨
  (ok = true ∧ d = 1 ∧ Small r f ∧ cutF r d f = (⟨r.X, r.Y, f, r.H⟩, ⟨r.X + f, r.Y, 1, r.H⟩, ⟨r.X + f + 1, r.Y, r.W - 1 - f, r.H⟩, true)) ∨
  (ok = true ∧ d = 2 ∧ Small r f ∧ cutF r d f = (⟨r.X, r.Y, r.W, f⟩, ⟨r.X, r.Y + f, r.W, 1⟩, ⟨r.X, r.Y + f + 1, r.W, r.H - 1 - f⟩, true))
/-- Row j of a table at block g. -/
def RowAt (W : World) (g j : Nat) : Prop := ∃ (r : R) (d f : Int) (ok : Bool), W.cell? ⟨g, j * 7, none⟩ = some (.int .i64 r.X) ∧ W.cell? ⟨g, j * 7 + 1, none⟩ = some (.int .i64 r.Y) ∧ W.cell? ⟨g, j * 7 + 2, none⟩ = some (.int .i64 r.W) ∧ W.cell? ⟨g, j * 7 + 3, none⟩ = some (.int .i64 r.H) ∧
  W.cell? ⟨g, j * 7 + 4, none⟩ = some (.int .i64 d) ∧ W.cell? ⟨g, j * 7 + 5, none⟩ = some (.int .i64 f) ∧ W.cell? ⟨g, j * 7 + 6, none⟩ = some (.bool ok) ∧ Way r d f ok
def TabRel (w : World) (v : Value) (W : World) : Prop := ∃ g, v = .slice (some ⟨g, 0, none⟩) 15 15 ∧ Below w.heap.size w W ∧ (∀ j, j < 15 → RowAt W g j) ∧ g < W.heap.size

def tcells : Array Value := #[.int .i64 1, .int .i64 1, .int .i64 5, .int .i64 4, .int .i64 1, .int .i64 1, .bool true, .int .i64 1, .int .i64 1, .int .i64 5, .int .i64 4, .int .i64 1, .int .i64 3, .bool true, .int .i64 1, .int .i64 1, .int .i64 5, .int .i64 4, .int .i64 1, .int .i64 4, .bool false, .int .i64 1, .int .i64 1, .int .i64 5, .int .i64 4, .int .i64 1, .int .i64 0, .bool false, .int .i64 1, .int .i64 1, .int .i64 5, .int .i64 4, .int .i64 1, .int .i64 (-1), .bool false, .int .i64 1, .int .i64 1, .int .i64 5, .int .i64 4, .int .i64 2, .int .i64 2, .bool true, .int .i64 1, .int .i64 1, .int .i64 5, .int .i64 4, .int .i64 2, .int .i64 3, .bool false, .int .i64 1, .int .i64 1, .int .i64 5, .int .i64 4, .int .i64 0, .int .i64 1, .bool false, .int .i64 1, .int .i64 1, .int .i64 5, .int .i64 4, .int .i64 3, .int .i64 1, .bool false, .int .i64 0, .int .i64 0, .int .i64 3, .int .i64 0, .int .i64 1, .int .i64 1, .bool true, .int .i64 0, .int .i64 0, .int .i64 2, .int .i64 9, .int .i64 1, .int .i64 1, .bool false, .int .i64 (-1), .int .i64 0, .int .i64 9, .int .i64 9, .int .i64 1, .int .i64 1, .bool false, .int .i64 0, .int .i64 0, .int .i64 1001, .int .i64 9, .int .i64 1, .int .i64 1, .bool false, .int .i64 1000, .int .i64 1000, .int .i64 1000, .int .i64 1000, .int .i64 2, .int .i64 998, .bool true, .int .i64 1000, .int .i64 1000, .int .i64 1000, .int .i64 1000, .int .i64 2, .int .i64 999, .bool false]
theorem form_0 : Way (⟨1, 1, 5, 4⟩ : R) 1 1 true := .inr (.inl ⟨rfl, rfl, by decide +kernel, by decide +kernel⟩)
theorem form_1 : Way (⟨1, 1, 5, 4⟩ : R) 1 3 true := .inr (.inl ⟨rfl, rfl, by decide +kernel, by decide +kernel⟩)
theorem form_2 : Way (⟨1, 1, 5, 4⟩ : R) 1 4 false := .inl ⟨rfl, by decide +kernel⟩
theorem form_3 : Way (⟨1, 1, 5, 4⟩ : R) 1 0 false := .inl ⟨rfl, by decide +kernel⟩
theorem form_4 : Way (⟨1, 1, 5, 4⟩ : R) 1 (-1) false := .inl ⟨rfl, by decide +kernel⟩
theorem form_5 : Way (⟨1, 1, 5, 4⟩ : R) 2 2 true := .inr (.inr ⟨rfl, rfl, by decide +kernel, by decide +kernel⟩)
theorem form_6 : Way (⟨1, 1, 5, 4⟩ : R) 2 3 false := .inl ⟨rfl, by decide +kernel⟩
theorem form_7 : Way (⟨1, 1, 5, 4⟩ : R) 0 1 false := .inl ⟨rfl, by decide +kernel⟩
theorem form_8 : Way (⟨1, 1, 5, 4⟩ : R) 3 1 false := .inl ⟨rfl, by decide +kernel⟩
theorem form_9 : Way (⟨0, 0, 3, 0⟩ : R) 1 1 true := .inr (.inl ⟨rfl, rfl, by decide +kernel, by decide +kernel⟩)
theorem form_10 : Way (⟨0, 0, 2, 9⟩ : R) 1 1 false := .inl ⟨rfl, by decide +kernel⟩
theorem form_11 : Way (⟨(-1), 0, 9, 9⟩ : R) 1 1 false := .inl ⟨rfl, by decide +kernel⟩
theorem form_12 : Way (⟨0, 0, 1001, 9⟩ : R) 1 1 false := .inl ⟨rfl, by decide +kernel⟩
theorem form_13 : Way (⟨1000, 1000, 1000, 1000⟩ : R) 2 998 true := .inr (.inr ⟨rfl, rfl, by decide +kernel, by decide +kernel⟩)
theorem form_14 : Way (⟨1000, 1000, 1000, 1000⟩ : R) 2 999 false := .inl ⟨rfl, by decide +kernel⟩

theorem tab_mk (w0 w : World) (hb : Below w0.heap.size w0 w) : TabRel w0 (.slice (some ⟨w.heap.size, 0, none⟩) 15 15) (w.alloc (.cells tcells 24)) := by
  refine ⟨_, rfl, hb.alloc hb.size _, fun j hj => ?_, by simp⟩
  have h := Held.new w 24 tcells
  match j, hj with
  | 0, _ => exact ⟨⟨1, 1, 5, 4⟩, 1, 1, true, h.cell 0, h.cell 1, h.cell 2, h.cell 3, h.cell 4, h.cell 5, h.cell 6, form_0⟩
  | 1, _ => exact ⟨⟨1, 1, 5, 4⟩, 1, 3, true, h.cell 7, h.cell 8, h.cell 9, h.cell 10, h.cell 11, h.cell 12, h.cell 13, form_1⟩
  | 2, _ => exact ⟨⟨1, 1, 5, 4⟩, 1, 4, false, h.cell 14, h.cell 15, h.cell 16, h.cell 17, h.cell 18, h.cell 19, h.cell 20, form_2⟩
  | 3, _ => exact ⟨⟨1, 1, 5, 4⟩, 1, 0, false, h.cell 21, h.cell 22, h.cell 23, h.cell 24, h.cell 25, h.cell 26, h.cell 27, form_3⟩
  | 4, _ => exact ⟨⟨1, 1, 5, 4⟩, 1, (-1), false, h.cell 28, h.cell 29, h.cell 30, h.cell 31, h.cell 32, h.cell 33, h.cell 34, form_4⟩
  | 5, _ => exact ⟨⟨1, 1, 5, 4⟩, 2, 2, true, h.cell 35, h.cell 36, h.cell 37, h.cell 38, h.cell 39, h.cell 40, h.cell 41, form_5⟩
  | 6, _ => exact ⟨⟨1, 1, 5, 4⟩, 2, 3, false, h.cell 42, h.cell 43, h.cell 44, h.cell 45, h.cell 46, h.cell 47, h.cell 48, form_6⟩
  | 7, _ => exact ⟨⟨1, 1, 5, 4⟩, 0, 1, false, h.cell 49, h.cell 50, h.cell 51, h.cell 52, h.cell 53, h.cell 54, h.cell 55, form_7⟩
  | 8, _ => exact ⟨⟨1, 1, 5, 4⟩, 3, 1, false, h.cell 56, h.cell 57, h.cell 58, h.cell 59, h.cell 60, h.cell 61, h.cell 62, form_8⟩
  | 9, _ => exact ⟨⟨0, 0, 3, 0⟩, 1, 1, true, h.cell 63, h.cell 64, h.cell 65, h.cell 66, h.cell 67, h.cell 68, h.cell 69, form_9⟩
  | 10, _ => exact ⟨⟨0, 0, 2, 9⟩, 1, 1, false, h.cell 70, h.cell 71, h.cell 72, h.cell 73, h.cell 74, h.cell 75, h.cell 76, form_10⟩
  | 11, _ => exact ⟨⟨(-1), 0, 9, 9⟩, 1, 1, false, h.cell 77, h.cell 78, h.cell 79, h.cell 80, h.cell 81, h.cell 82, h.cell 83, form_11⟩
  | 12, _ => exact ⟨⟨0, 0, 1001, 9⟩, 1, 1, false, h.cell 84, h.cell 85, h.cell 86, h.cell 87, h.cell 88, h.cell 89, h.cell 90, form_12⟩
  | 13, _ => exact ⟨⟨1000, 1000, 1000, 1000⟩, 2, 998, true, h.cell 91, h.cell 92, h.cell 93, h.cell 94, h.cell 95, h.cell 96, h.cell 97, form_13⟩
  | 14, _ => exact ⟨⟨1000, 1000, 1000, 1000⟩, 2, 999, false, h.cell 98, h.cell 99, h.cell 100, h.cell 101, h.cell 102, h.cell 103, h.cell 104, form_14⟩
  | j + 15, hj => exact absurd hj (by omega)

set_option maxHeartbeats 4000000 in
theorem forms_walk (n : Int) (w : World) : Calls Try.prog 3 #[.int .i64 n] w (TrueBelow w) := by
  go_enter Try.func3, Try.ntmps3
  go_upto_region 2 with fail
  have hb0 := (Below.refl w.heap.size w).alloc (Nat.le_refl _) (.cells #[.int .i64 1, .int .i64 1, .int .i64 5, .int .i64 4] 23)
  go_cut [4] from 10 (TabRel w)
  case first =>
    have HB := Lib.hid hb0
    clear hb0
    go_wp2_with fail
    go_meet
    have t := tab_mk w _ HB.out
    rw [World.size_alloc] at t
    exact t
  case rest =>
    clear hb0
    obtain ⟨g, rfl, hb0, hall, hg⟩ := hcut
    obtain ⟨q, hq, q1⟩ := and255 n
    have hm1 : ((q : Int).tmod 15) < 15 := by rw [Int.tmod_eq_emod_of_nonneg (by omega)]; omega
    have hm0 : 0 ≤ ((q : Int).tmod 15) := by rw [Int.tmod_eq_emod_of_nonneg (by omega)]; omega
    obtain ⟨r, d, f, ok, c0, c1, c2, c3, c4, c5, c6, hp⟩ := hall (q % 15) (Nat.mod_lt _ (by decide))
    clear hall
    obtain ⟨X, Y, W, H⟩ := r
    dsimp only at c0 c1 c2 c3
    go_upto_region 4 with fail
    have hX := Held.new wc 24 #[.int .i64 X, .int .i64 Y, .int .i64 W, .int .i64 H, .int .i64 d, .int .i64 f, .bool ok]
    refine wp_world (fun wx => Held wx wc.heap.size 24 #[.int .i64 X, .int .i64 Y, .int .i64 W, .int .i64 H, .int .i64 d, .int .i64 f, .bool ok] ∧ Below w.heap.size w wx) ⟨hX, hb0.alloc hb0.size _⟩ ?_
    clear c0 c1 c2 c3 c4 c5 c6 hq q1 hm1 hm0 hb0 hg hX
    rintro wx ⟨hX, hb0⟩
    generalize wc.heap.size = E at *
    have x0 := (hX.cell 0).trans rfl
    have x1 := (hX.cell 1).trans rfl
    have x2 := (hX.cell 2).trans rfl
    have x3 := (hX.cell 3).trans rfl
    have x4 := (hX.cell 4).trans rfl
    have x5 := (hX.cell 5).trans rfl
    have x6 := (hX.cell 6).trans rfl
    have CUT := fun w => cut_any (⟨X, Y, W, H⟩ : R) d f w
    unfold Way Small at hp
    have hxl := hX.lt
    have HX := Lib.hid hX
    clear hX
    rcases hp with ⟨rfl, hc⟩ | ⟨rfl, rfl, hs, hc⟩ | ⟨rfl, rfl, hs, hc⟩
    all_goals
      rw [hc] at CUT
      clear hc
      unfold cutV rv at CUT
      dsimp only [zR] at CUT
      go_upto_region 5 with (first
        | (go_at_call 7
           (with_reducible refine (CUT _).mono ?_)
           rintro e w2 ⟨rfl, hb2⟩))
      clear x0 x1 x2 x3 x4 x5 x6
      have hX2 := HX.out.below hb2 hxl
    · obtain ⟨y0, y1, y2, xb, xs⟩ := boxes w2 ⟨0, 0, 0, 0⟩ ⟨0, 0, 0, 0⟩ ⟨0, 0, 0, 0⟩
      refine wp_world (fun wx => Held wx E 24 #[.int .i64 X, .int .i64 Y, .int .i64 W, .int .i64 H, .int .i64 d, .int .i64 f, .bool false] ∧ RB wx w2.heap.size ⟨0, 0, 0, 0⟩ ∧ RB wx (w2.heap.size + 1) ⟨0, 0, 0, 0⟩ ∧ RB wx (w2.heap.size + 1 + 1) ⟨0, 0, 0, 0⟩ ∧ Below w.heap.size w wx) ⟨((hX2.alloc _).alloc _).alloc _, y0, y1, y2, (hb0.trans (hb2.mono hb0.size)).trans (xb.mono (Nat.le_trans hb0.size hb2.size))⟩ ?_
      clear y0 y1 y2 xb xs hX2 hb2
      rintro wz ⟨hX, pa, pm, pb, hz⟩
      generalize w2.heap.size = A at *
      have x0 := (hX.cell 0).trans rfl
      have x1 := (hX.cell 1).trans rfl
      have x2 := (hX.cell 2).trans rfl
      have x3 := (hX.cell 3).trans rfl
      have x4 := (hX.cell 4).trans rfl
      have x5 := (hX.cell 5).trans rfl
      have x6 := (hX.cell 6).trans rfl
      obtain ⟨a0, a1, a2, a3, af⟩ := pa.cells
      obtain ⟨m0, m1, m2, m3, mf⟩ := pm.cells
      obtain ⟨b0, b1, b2, b3, bf⟩ := pb.cells
      dsimp only at a0 a1 a2 a3 m0 m1 m2 m3 b0 b1 b2 b3
      go_wp2_with (first
        | (go_at_call 8
           (with_reducible refine (awake_any _).mono ?_)
           rintro e v9 ⟨rfl, hv9⟩))
      go_ret
      exact ⟨rfl, hz.trans (hv9.mono hz.size)⟩
    · obtain ⟨y0, y1, y2, xb, xs⟩ := boxes w2 ⟨X, Y, f, H⟩ ⟨X + f, Y, 1, H⟩ ⟨X + f + 1, Y, W - 1 - f, H⟩
      refine wp_world (fun wx => Held wx E 24 #[.int .i64 X, .int .i64 Y, .int .i64 W, .int .i64 H, .int .i64 1, .int .i64 f, .bool true] ∧ RB wx w2.heap.size ⟨X, Y, f, H⟩ ∧ RB wx (w2.heap.size + 1) ⟨X + f, Y, 1, H⟩ ∧ RB wx (w2.heap.size + 1 + 1) ⟨X + f + 1, Y, W - 1 - f, H⟩ ∧ Below w.heap.size w wx) ⟨((hX2.alloc _).alloc _).alloc _, y0, y1, y2, (hb0.trans (hb2.mono hb0.size)).trans (xb.mono (Nat.le_trans hb0.size hb2.size))⟩ ?_
      clear y0 y1 y2 xb xs hX2 hb2
      rintro wz ⟨hX, pa, pm, pb, hz⟩
      generalize w2.heap.size = A at *
      have x0 := (hX.cell 0).trans rfl
      have x1 := (hX.cell 1).trans rfl
      have x2 := (hX.cell 2).trans rfl
      have x3 := (hX.cell 3).trans rfl
      have x4 := (hX.cell 4).trans rfl
      have x5 := (hX.cell 5).trans rfl
      have x6 := (hX.cell 6).trans rfl
      obtain ⟨a0, a1, a2, a3, af⟩ := pa.cells
      obtain ⟨m0, m1, m2, m3, mf⟩ := pm.cells
      obtain ⟨b0, b1, b2, b3, bf⟩ := pb.cells
      dsimp only at a0 a1 a2 a3 m0 m1 m2 m3 b0 b1 b2 b3
      go_wp2_with (first
        | (go_at_call 8
           (with_reducible refine (awake_any _).mono ?_)
           rintro e v9 ⟨rfl, hv9⟩))
      go_ret
      exact ⟨rfl, hz.trans (hv9.mono hz.size)⟩
    · obtain ⟨y0, y1, y2, xb, xs⟩ := boxes w2 ⟨X, Y, W, f⟩ ⟨X, Y + f, W, 1⟩ ⟨X, Y + f + 1, W, H - 1 - f⟩
      refine wp_world (fun wx => Held wx E 24 #[.int .i64 X, .int .i64 Y, .int .i64 W, .int .i64 H, .int .i64 2, .int .i64 f, .bool true] ∧ RB wx w2.heap.size ⟨X, Y, W, f⟩ ∧ RB wx (w2.heap.size + 1) ⟨X, Y + f, W, 1⟩ ∧ RB wx (w2.heap.size + 1 + 1) ⟨X, Y + f + 1, W, H - 1 - f⟩ ∧ Below w.heap.size w wx) ⟨((hX2.alloc _).alloc _).alloc _, y0, y1, y2, (hb0.trans (hb2.mono hb0.size)).trans (xb.mono (Nat.le_trans hb0.size hb2.size))⟩ ?_
      clear y0 y1 y2 xb xs hX2 hb2
      rintro wz ⟨hX, pa, pm, pb, hz⟩
      generalize w2.heap.size = A at *
      have x0 := (hX.cell 0).trans rfl
      have x1 := (hX.cell 1).trans rfl
      have x2 := (hX.cell 2).trans rfl
      have x3 := (hX.cell 3).trans rfl
      have x4 := (hX.cell 4).trans rfl
      have x5 := (hX.cell 5).trans rfl
      have x6 := (hX.cell 6).trans rfl
      obtain ⟨a0, a1, a2, a3, af⟩ := pa.cells
      obtain ⟨m0, m1, m2, m3, mf⟩ := pm.cells
      obtain ⟨b0, b1, b2, b3, bf⟩ := pb.cells
      dsimp only at a0 a1 a2 a3 m0 m1 m2 m3 b0 b1 b2 b3
      go_wp2_with (first
        | (go_at_call 8
           (with_reducible refine (awake_any _).mono ?_)
           rintro e v9 ⟨rfl, hv9⟩))
      go_ret
      exact ⟨rfl, hz.trans (hv9.mono hz.size)⟩
end Go.Proofs.Ytigpfpnikggojaa
