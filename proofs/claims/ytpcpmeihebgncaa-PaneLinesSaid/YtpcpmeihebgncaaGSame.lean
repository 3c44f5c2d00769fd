/-
  What Same of package grid answers of equal screens. Conditions: at most a thousand rows and lines of at most a thousand cells.
-/
import Derived.Test.YtpcpmeihebgncaaGEq
import Derived.Test.YtpcpmeihebgncaaBox
import Derived.Test.YtpcpmeihebgncaaMoved
import Derived.Deep.RegionHeld3
import Derived.ChangeKeysEq
namespace Go.Proofs.Ytpcpmeihebgncaa
open Go.RowKit
set_option maxRecDepth 100000


def numsV (p : Nm) : Value := .agg #[.int .i64 p.w, .int .i64 p.h, .int .i64 p.x, .int .i64 p.y, .int .i64 p.a, .int .i64 p.top, .int .i64 p.bottom, .int .i64 p.sx, .int .i64 p.sy, .int .i64 p.sa]
def flagsV (p : Nm) : Value := .agg #[.bool p.wrap, .bool p.noWrap, .bool p.hidden]
set_option maxRecDepth 100000 in
set_option maxHeartbeats 2000000 in
theorem numbers_any (p : Nm) (r b : Value) (w : World) : Calls Try.prog 130 #[gv p r b] w (ValPost (numsV p) w) := by
  unfold gv gcs
  obtain ⟨p0, p1, p2, p3, p4, p5, p6, p7, p8, p9, p10, p11, p12⟩ := p
  dsimp only
  go_enter Try.func130, Try.ntmps130
  go_wp2_with fail
  refine bodyPost_ret (v := numsV ⟨p0, p1, p2, p3, p4, p5, p6, p7, p8, p9, p10, p11, p12⟩) (by simp [results, Try.results130, go_sem, numsV]) rfl ⟨rfl, ?_⟩
  exact ((Below.refl _ _).alloc (Nat.le_refl _) _).alloc (by simp) _

set_option maxRecDepth 100000 in
set_option maxHeartbeats 2000000 in
theorem flags_any (p : Nm) (r b : Value) (w : World) : Calls Try.prog 131 #[gv p r b] w (ValPost (flagsV p) w) := by
  unfold gv gcs
  obtain ⟨p0, p1, p2, p3, p4, p5, p6, p7, p8, p9, p10, p11, p12⟩ := p
  dsimp only
  go_enter Try.func131, Try.ntmps131
  go_wp2_with fail
  refine bodyPost_ret (v := flagsV ⟨p0, p1, p2, p3, p4, p5, p6, p7, p8, p9, p10, p11, p12⟩) (by simp [results, Try.results131, go_sem, flagsV]) rfl ⟨rfl, ?_⟩
  exact ((Below.refl _ _).alloc (Nat.le_refl _) _).alloc (by simp) _

theorem cells3 : Try.prog.cellsOf 3 = 1 := by kernel_rfl
theorem cells4 : Try.prog.cellsOf 4 = 1 := by kernel_rfl
theorem info3 : ∃ i, Try.prog.info? 3 = some i ∧ i.size = 1 := ⟨_, by rfl, by rfl⟩
theorem info4 : ∃ i, Try.prog.info? 4 = some i ∧ i.size = 1 := ⟨_, by rfl, by rfl⟩
theorem eql_nums (p : Nm) (w : World) : (binOp .eql 115 (numsV p) (numsV p)).run Try.prog w = .ok (.bool true) w := by
  obtain ⟨i, hi, hs⟩ := info3
  unfold numsV
  rw [run_eql_struct, show (10000 : Nat) = 9999 + 1 from rfl, run_equalIn_array w 9999 _ _ Try.underlying115 hi, cells3]
  have hr : List.range 10 = [0, 1, 2, 3, 4, 5, 6, 7, 8, 9] := rfl
  rw [hr]
  have u3 := Try.underlying3
  simp [Op.eqItems, sizeOf, typeInfo, hi, hs, go_sem, u3]
theorem eql_flags (p : Nm) (w : World) : (binOp .eql 117 (flagsV p) (flagsV p)).run Try.prog w = .ok (.bool true) w := by
  obtain ⟨i, hi, hs⟩ := info4
  unfold flagsV
  rw [run_eql_struct, show (10000 : Nat) = 9999 + 1 from rfl, run_equalIn_array w 9999 _ _ Try.underlying117 hi, cells4]
  have hr : List.range 3 = [0, 1, 2] := rfl
  rw [hr]
  have u4 := Try.underlying4
  simp [Op.eqItems, sizeOf, typeInfo, hi, hs, go_sem, u4]
theorem guard_nums (p : Nm) (x y : Operand) (w : World) : (eqGuard .eql 115 x y (numsV p) (numsV p)).run Try.prog w = .ok () w := run_eqGuard_agg (P := Try.prog) w .eql 115 x y _ _ (by kernel_rfl)
theorem guard_flags (p : Nm) (x y : Operand) (w : World) : (eqGuard .eql 117 x y (flagsV p) (flagsV p)).run Try.prog w = .ok () w := run_eqGuard_agg (P := Try.prog) w .eql 117 x y _ _ (by kernel_rfl)
theorem two_S {w wx : World} {p : Nm} {D E D2 E2 : Option Addr} {n c m d c2 m2 d2 : Nat} (ha : BoxCells wx w.heap.size p (.slice D n c) (.slice E m d)) (hb : BoxCells wx (w.heap.size + 1) p (.slice D2 n c2) (.slice E2 m2 d2)) :
    wx.cell? ⟨w.heap.size, 0, none⟩ = some (.int .i64 p.w) ∧ wx.cell? ⟨w.heap.size, 1, none⟩ = some (.int .i64 p.h) ∧ wx.cell? ⟨w.heap.size, 2, none⟩ = some (.int .i64 p.x) ∧ wx.cell? ⟨w.heap.size, 3, none⟩ = some (.int .i64 p.y) ∧ wx.cell? ⟨w.heap.size, 4, none⟩ = some (.bool p.wrap) ∧ wx.cell? ⟨w.heap.size, 5, none⟩ = some (.int .i64 p.a) ∧ wx.cell? ⟨w.heap.size, 6, none⟩ = some (.int .i64 p.top) ∧ wx.cell? ⟨w.heap.size, 7, none⟩ = some (.int .i64 p.bottom) ∧ wx.cell? ⟨w.heap.size, 8, none⟩ = some (.int .i64 p.sx) ∧ wx.cell? ⟨w.heap.size, 9, none⟩ = some (.int .i64 p.sy) ∧ wx.cell? ⟨w.heap.size, 10, none⟩ = some (.int .i64 p.sa) ∧ wx.cell? ⟨w.heap.size, 11, none⟩ = some (.bool p.noWrap) ∧ wx.cell? ⟨w.heap.size, 12, none⟩ = some (.bool p.hidden) ∧ wx.cell? ⟨w.heap.size, 13, none⟩ = some (.slice D n c) ∧ wx.cell? ⟨w.heap.size, 14, none⟩ = some (.slice E m d) ∧ wx.cell? ⟨w.heap.size + 1, 0, none⟩ = some (.int .i64 p.w) ∧ wx.cell? ⟨w.heap.size + 1, 1, none⟩ = some (.int .i64 p.h) ∧ wx.cell? ⟨w.heap.size + 1, 2, none⟩ = some (.int .i64 p.x) ∧ wx.cell? ⟨w.heap.size + 1, 3, none⟩ = some (.int .i64 p.y) ∧ wx.cell? ⟨w.heap.size + 1, 4, none⟩ = some (.bool p.wrap) ∧ wx.cell? ⟨w.heap.size + 1, 5, none⟩ = some (.int .i64 p.a) ∧ wx.cell? ⟨w.heap.size + 1, 6, none⟩ = some (.int .i64 p.top) ∧ wx.cell? ⟨w.heap.size + 1, 7, none⟩ = some (.int .i64 p.bottom) ∧ wx.cell? ⟨w.heap.size + 1, 8, none⟩ = some (.int .i64 p.sx) ∧ wx.cell? ⟨w.heap.size + 1, 9, none⟩ = some (.int .i64 p.sy) ∧ wx.cell? ⟨w.heap.size + 1, 10, none⟩ = some (.int .i64 p.sa) ∧ wx.cell? ⟨w.heap.size + 1, 11, none⟩ = some (.bool p.noWrap) ∧ wx.cell? ⟨w.heap.size + 1, 12, none⟩ = some (.bool p.hidden) ∧ wx.cell? ⟨w.heap.size + 1, 13, none⟩ = some (.slice D2 n c2) ∧ wx.cell? ⟨w.heap.size + 1, 14, none⟩ = some (.slice E2 m2 d2) :=
  ⟨ha.c0, ha.c1, ha.c2, ha.c3, ha.c4, ha.c5, ha.c6, ha.c7, ha.c8, ha.c9, ha.c10, ha.c11, ha.c12, ha.c13, ha.c14, hb.c0, hb.c1, hb.c2, hb.c3, hb.c4, hb.c5, hb.c6, hb.c7, hb.c8, hb.c9, hb.c10, hb.c11, hb.c12, hb.c13, hb.c14⟩
def BoolPost (b : Bool) (w : World) (e : Ending) (w' : World) : Prop := e = .returned (.bool b) ∧ Below w.heap.size w w'

set_option maxRecDepth 100000 in
set_option maxHeartbeats 4000000 in
theorem same_true (p : Nm) (D E D2 E2 : Option Addr) (n c m d c2 d2 : Nat) (L Bk : List (List C)) (w : World) (h1 : Scr 0 w D E n c m d L Bk) (h2 : Scr 0 w D2 E2 n c2 m d2 L Bk) (hn : n ≤ 1000) (hm : m ≤ 1000) (hl : ∀ r ∈ L, r.length ≤ 1000) (hlb : ∀ r ∈ Bk, r.length ≤ 1000) :
    Calls Try.prog 94 #[gv p (.slice D n c) (.slice E m d), gv p (.slice D2 n c2) (.slice E2 m d2)] w (BoolPost true w) := by
  have HR : Hid (∀ w', Below w.heap.size w w' → Calls Try.prog 132 #[.slice D n c, .slice D2 n c2] w' (Quiet true w')) := fun w' hb => by
    rw [← h1.nr]
    exact sameLines_true D D2 c c2 L w' (h1.rows.below hb (Nat.le_refl _)) (h2.rows.below hb (Nat.le_refl _)) (by rw [h1.nr]; omega) hl
  have HB : Hid (∀ w', Below w.heap.size w w' → Calls Try.prog 132 #[.slice E m d, .slice E2 m d2] w' (Quiet true w')) := fun w' hb => by
    rw [← h1.nb]
    exact sameLines_true E E2 d d2 Bk w' (h1.back.below hb (Nat.le_refl _)) (h2.back.below hb (Nat.le_refl _)) (by rw [h1.nb]; omega) hlb
  clear h1 h2
  unfold gv gcs
  go_enter Try.func94, Try.ntmps94
  go_wp2_with fail
  refine wp_world (fun wq => Box wq w.heap.size p (.slice D n c) (.slice E m d) ∧ Box wq (w.heap.size + 1) p (.slice D2 n c2) (.slice E2 m d2) ∧ Below w.heap.size w wq) ⟨?_, ?_, ?_⟩ ?_
  · exact (Box.new w p _ _).alloc _
  · have := Box.new (w.alloc (.cells (gcs p (.slice D n c) (.slice E m d)) 35)) p (.slice D2 n c2) (.slice E2 m d2)
    rw [World.size_alloc] at this
    exact this
  · exact ((Below.refl _ _).alloc (Nat.le_refl _) _).alloc (by simp) _
  rintro wq ⟨q1, q2, bq⟩
  have q1d : Box wq.drew w.heap.size p (.slice D n c) (.slice E m d) := q1
  have q2d : Box wq.drew (w.heap.size + 1) p (.slice D2 n c2) (.slice E2 m d2) := q2
  have bqd : Below w.heap.size w wq.drew := below_drewN bq 1
  clear q1 q2 bq
  have S0 := two_S q1d.cells q2d.cells
  have qn := eql_nums p
  have qf := eql_flags p
  have gn := guard_nums p
  have gf := guard_flags p
  go_region_held3 (fun w' => w'.cell? ⟨w.heap.size, 0, none⟩ = some (.int .i64 p.w) ∧ w'.cell? ⟨w.heap.size, 1, none⟩ = some (.int .i64 p.h) ∧ w'.cell? ⟨w.heap.size, 2, none⟩ = some (.int .i64 p.x) ∧ w'.cell? ⟨w.heap.size, 3, none⟩ = some (.int .i64 p.y) ∧ w'.cell? ⟨w.heap.size, 4, none⟩ = some (.bool p.wrap) ∧ w'.cell? ⟨w.heap.size, 5, none⟩ = some (.int .i64 p.a) ∧ w'.cell? ⟨w.heap.size, 6, none⟩ = some (.int .i64 p.top) ∧ w'.cell? ⟨w.heap.size, 7, none⟩ = some (.int .i64 p.bottom) ∧ w'.cell? ⟨w.heap.size, 8, none⟩ = some (.int .i64 p.sx) ∧ w'.cell? ⟨w.heap.size, 9, none⟩ = some (.int .i64 p.sy) ∧ w'.cell? ⟨w.heap.size, 10, none⟩ = some (.int .i64 p.sa) ∧ w'.cell? ⟨w.heap.size, 11, none⟩ = some (.bool p.noWrap) ∧ w'.cell? ⟨w.heap.size, 12, none⟩ = some (.bool p.hidden) ∧ w'.cell? ⟨w.heap.size, 13, none⟩ = some (.slice D n c) ∧ w'.cell? ⟨w.heap.size, 14, none⟩ = some (.slice E m d) ∧ w'.cell? ⟨w.heap.size + 1, 0, none⟩ = some (.int .i64 p.w) ∧ w'.cell? ⟨w.heap.size + 1, 1, none⟩ = some (.int .i64 p.h) ∧ w'.cell? ⟨w.heap.size + 1, 2, none⟩ = some (.int .i64 p.x) ∧ w'.cell? ⟨w.heap.size + 1, 3, none⟩ = some (.int .i64 p.y) ∧ w'.cell? ⟨w.heap.size + 1, 4, none⟩ = some (.bool p.wrap) ∧ w'.cell? ⟨w.heap.size + 1, 5, none⟩ = some (.int .i64 p.a) ∧ w'.cell? ⟨w.heap.size + 1, 6, none⟩ = some (.int .i64 p.top) ∧ w'.cell? ⟨w.heap.size + 1, 7, none⟩ = some (.int .i64 p.bottom) ∧ w'.cell? ⟨w.heap.size + 1, 8, none⟩ = some (.int .i64 p.sx) ∧ w'.cell? ⟨w.heap.size + 1, 9, none⟩ = some (.int .i64 p.sy) ∧ w'.cell? ⟨w.heap.size + 1, 10, none⟩ = some (.int .i64 p.sa) ∧ w'.cell? ⟨w.heap.size + 1, 11, none⟩ = some (.bool p.noWrap) ∧ w'.cell? ⟨w.heap.size + 1, 12, none⟩ = some (.bool p.hidden) ∧ w'.cell? ⟨w.heap.size + 1, 13, none⟩ = some (.slice D2 n c2) ∧ w'.cell? ⟨w.heap.size + 1, 14, none⟩ = some (.slice E2 m d2))
    (first
      | with_reducible exact S0
      | with_reducible exact S1
      | with_reducible exact S2
      | with_reducible exact S3
      | with_reducible exact S4
      | with_reducible exact S5
      | with_reducible exact S6
      | fail)
    (first
      | (go_at_call 130
         refine (numbers_any p _ _ wq.drew).mono ?_
         rintro e w1 ⟨rfl, hb1⟩
         have q11 := q1d.below hb1 q1d.lt
         have q21 := q2d.below hb1 q2d.lt
         have b1 : Below w.heap.size w w1 := bqd.trans (hb1.mono bqd.size)
         have S1 := two_S q11.cells q21.cells)
      | (go_at_call 130
         refine (numbers_any p _ _ w1).mono ?_
         rintro e w2 ⟨rfl, hb2⟩
         have q12 := q11.below hb2 q11.lt
         have q22 := q21.below hb2 q21.lt
         have b2 : Below w.heap.size w w2 := b1.trans (hb2.mono b1.size)
         have S2 := two_S q12.cells q22.cells)
      | (go_at_call 131
         refine (flags_any p _ _ w2).mono ?_
         rintro e w3 ⟨rfl, hb3⟩
         have q13 := q12.below hb3 q12.lt
         have q23 := q22.below hb3 q22.lt
         have b3 : Below w.heap.size w w3 := b2.trans (hb3.mono b2.size)
         have S3 := two_S q13.cells q23.cells)
      | (go_at_call 131
         refine (flags_any p _ _ w3).mono ?_
         rintro e w4 ⟨rfl, hb4⟩
         have q14 := q13.below hb4 q13.lt
         have q24 := q23.below hb4 q23.lt
         have b4 : Below w.heap.size w w4 := b3.trans (hb4.mono b3.size)
         have S4 := two_S q14.cells q24.cells)
      | (go_at_call 132
         refine (HR.out w4 b4).mono ?_
         rintro e w5 ⟨rfl, m5, hm5⟩
         have hb5 : Below w4.heap.size w4 w5 := by rw [hm5]; exact below_drewN (Below.refl _ _) m5
         have q15 := q14.below hb5 q14.lt
         have q25 := q24.below hb5 q24.lt
         have b5 : Below w.heap.size w w5 := b4.trans (hb5.mono b4.size)
         have S5 := two_S q15.cells q25.cells
         clear hm5)
      | (go_at_call 132
         refine (HB.out w5 b5).mono ?_
         rintro e w6 ⟨rfl, m6, hm6⟩
         have hb6 : Below w5.heap.size w5 w6 := by rw [hm6]; exact below_drewN (Below.refl _ _) m6
         have b6 : Below w.heap.size w w6 := b5.trans (hb6.mono b5.size)
         have S6 := two_S (q15.below hb6 q15.lt).cells (q25.below hb6 q25.lt).cells
         clear hm6))
  go_wp2_with fail
  go_ret
  exact ⟨rfl, b6⟩
end Go.Proofs.Ytpcpmeihebgncaa
