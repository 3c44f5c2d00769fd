/-
  The walk of RatiForms: its table of twenty-three shares, and each of them. Conditions: none.
-/
import Derived.Test.YtmnpialffhglhaaNum
import Derived.BigQuiet
import Derived.Laws.Entries
import Derived.Deep.RegionHeld3
import Derived.Deep.DeepCutAuto
namespace Go.Proofs.Ytmnpialffhglhaa
open Go.RowKit Ieee

theorem i64_and255 (n : Int) : bits .and .i64 n 255 = n % 256 := by
  have h127 : (BitVec.ofInt 64 255).toNat = 2 ^ 8 - 1 := by decide
  have key : (BitVec.ofInt 64 n &&& BitVec.ofInt 64 255).toNat = (n % ((2 ^ 64 : Nat) : Int)).toNat % 2 ^ 8 := by
    rw [BitVec.toNat_and, BitVec.toNat_ofInt, h127, Nat.and_two_pow_sub_one_eq_mod]
  show IntKind.i64.wrap ((BitVec.ofInt 64 n &&& BitVec.ofInt 64 255).toNat : Nat) = n % 256
  rw [key, IntKind.wrap_i64]
  omega

def Held (w : World) (g : Nat) (t : TypeId) (cs : Array Value) : Prop := w.heap[g]? = some (.cells cs t (0, 0))
theorem Held.new (w : World) (t : TypeId) (cs : Array Value) : Held (w.alloc (.cells cs t)) w.heap.size t cs := heap_alloc_new w _
theorem Held.lt {w : World} {g : Nat} {t : TypeId} {cs : Array Value} (h : Held w g t cs) : g < w.heap.size := (Array.getElem?_eq_some_iff.1 h).1
theorem Held.cell {w : World} {g : Nat} {t : TypeId} {cs : Array Value} (h : Held w g t cs) (o : Nat) : w.cell? ⟨g, o, none⟩ = cs[o]? := cell_of_row w g o cs t (0, 0) h

theorem row_S {w : World} {g : Nat} {x y z : Value} (h : Held w g 24 #[x, y, z]) : w.cell? ⟨g, 0, none⟩ = some x ∧ w.cell? ⟨g, 1, none⟩ = some y ∧ w.cell? ⟨g, 2, none⟩ = some z := ⟨h.cell 0, h.cell 1, h.cell 2⟩
theorem run_store_float (P : Program) (w : World) (a : Addr) (m : Mode) (k : FloatKind) (b : Nat) : (store a (.float k b) m).run P w = stored P w a (.float k b) m := run_store P w a _ m rfl
attribute [local go_sem] run_store_float
/-- Row j of a table at block g. -/
def RowAt (W : World) (g j : Nat) : Prop := ∃ (n : Int) (r : Nat) (q : Int), W.cell? ⟨g, j * 3, none⟩ = some (.int .i64 n) ∧ W.cell? ⟨g, j * 3 + 1, none⟩ = some (.float .f64 r) ∧ W.cell? ⟨g, j * 3 + 2, none⟩ = some (.int .i64 q) ∧ partF n r = q
def TabRel (w : World) (v : Value) (W : World) : Prop := ∃ g, v = .slice (some ⟨g, 0, none⟩) 23 23 ∧ Below w.heap.size w W ∧ (∀ j, j < 23 → RowAt W g j) ∧ g < W.heap.size

def cells : Array Value := #[.int .i64 10, .float .f64 0, .int .i64 0, .int .i64 10, .float .f64 9223372036854775808, .int .i64 0, .int .i64 10, .float .f64 4607182418800017408, .int .i64 10, .int .i64 10, .float .f64 4602678819172646912, .int .i64 5, .int .i64 11, .float .f64 4602678819172646912, .int .i64 5, .int .i64 10, .float .f64 4607092346807469998, .int .i64 9, .int .i64 10, .float .f64 4607182418800008401, .int .i64 9, .int .i64 10, .float .f64 4607182418800467768, .int .i64 10, .int .i64 10, .float .f64 4619567317775286272, .int .i64 10, .int .i64 10, .float .f64 13770379158873719597, .int .i64 0, .int .i64 10, .float .f64 9218868437227405312, .int .i64 10, .int .i64 10, .float .f64 18442240474082181120, .int .i64 0, .int .i64 10, .float .f64 9221120237041090561, .int .i64 5, .int .i64 11, .float .f64 9221120237041090561, .int .i64 5, .int .i64 0, .float .f64 9221120237041090561, .int .i64 0, .int .i64 0, .float .f64 4607182418800017408, .int .i64 0, .int .i64 (-5), .float .f64 4607182418800017408, .int .i64 0, .int .i64 20000, .float .f64 4602678819172646912, .int .i64 5000, .int .i64 20000, .float .f64 9221120237041090561, .int .i64 5000, .int .i64 3, .float .f64 4599676419421066581, .int .i64 1, .int .i64 10, .float .f64 1, .int .i64 0, .int .i64 10, .float .f64 9218868437227405311, .int .i64 10, .int .i64 10000, .float .f64 4547007122018943789, .int .i64 1]
theorem form_0 : partF 10 0 = 0 := by decide +kernel
theorem form_1 : partF 10 9223372036854775808 = 0 := by decide +kernel
theorem form_2 : partF 10 4607182418800017408 = 10 := by decide +kernel
theorem form_3 : partF 10 4602678819172646912 = 5 := by decide +kernel
theorem form_4 : partF 11 4602678819172646912 = 5 := by decide +kernel
theorem form_5 : partF 10 4607092346807469998 = 9 := by decide +kernel
theorem form_6 : partF 10 4607182418800008401 = 9 := by decide +kernel
theorem form_7 : partF 10 4607182418800467768 = 10 := by decide +kernel
theorem form_8 : partF 10 4619567317775286272 = 10 := by decide +kernel
theorem form_9 : partF 10 13770379158873719597 = 0 := by decide +kernel
theorem form_10 : partF 10 9218868437227405312 = 10 := by decide +kernel
theorem form_11 : partF 10 18442240474082181120 = 0 := by decide +kernel
theorem form_12 : partF 10 9221120237041090561 = 5 := by decide +kernel
theorem form_13 : partF 11 9221120237041090561 = 5 := by decide +kernel
theorem form_14 : partF 0 9221120237041090561 = 0 := by decide +kernel
theorem form_15 : partF 0 4607182418800017408 = 0 := by decide +kernel
theorem form_16 : partF (-5) 4607182418800017408 = 0 := by decide +kernel
theorem form_17 : partF 20000 4602678819172646912 = 5000 := by decide +kernel
theorem form_18 : partF 20000 9221120237041090561 = 5000 := by decide +kernel
theorem form_19 : partF 3 4599676419421066581 = 1 := by decide +kernel
theorem form_20 : partF 10 1 = 0 := by decide +kernel
theorem form_21 : partF 10 9218868437227405311 = 10 := by decide +kernel
theorem form_22 : partF 10000 4547007122018943789 = 1 := by decide +kernel

theorem tab_mk (w : World) : TabRel w (.slice (some ⟨w.heap.size, 0, none⟩) 23 23) (w.alloc (.cells cells 24)) := by
  refine ⟨_, rfl, (Below.refl _ w).alloc (Nat.le_refl _) _, fun j hj => ?_, by simp⟩
  have h := Held.new w 24 cells
  match j, hj with
  | 0, _ => exact ⟨10, 0, 0, h.cell 0, h.cell 1, h.cell 2, form_0⟩
  | 1, _ => exact ⟨10, 9223372036854775808, 0, h.cell 3, h.cell 4, h.cell 5, form_1⟩
  | 2, _ => exact ⟨10, 4607182418800017408, 10, h.cell 6, h.cell 7, h.cell 8, form_2⟩
  | 3, _ => exact ⟨10, 4602678819172646912, 5, h.cell 9, h.cell 10, h.cell 11, form_3⟩
  | 4, _ => exact ⟨11, 4602678819172646912, 5, h.cell 12, h.cell 13, h.cell 14, form_4⟩
  | 5, _ => exact ⟨10, 4607092346807469998, 9, h.cell 15, h.cell 16, h.cell 17, form_5⟩
  | 6, _ => exact ⟨10, 4607182418800008401, 9, h.cell 18, h.cell 19, h.cell 20, form_6⟩
  | 7, _ => exact ⟨10, 4607182418800467768, 10, h.cell 21, h.cell 22, h.cell 23, form_7⟩
  | 8, _ => exact ⟨10, 4619567317775286272, 10, h.cell 24, h.cell 25, h.cell 26, form_8⟩
  | 9, _ => exact ⟨10, 13770379158873719597, 0, h.cell 27, h.cell 28, h.cell 29, form_9⟩
  | 10, _ => exact ⟨10, 9218868437227405312, 10, h.cell 30, h.cell 31, h.cell 32, form_10⟩
  | 11, _ => exact ⟨10, 18442240474082181120, 0, h.cell 33, h.cell 34, h.cell 35, form_11⟩
  | 12, _ => exact ⟨10, 9221120237041090561, 5, h.cell 36, h.cell 37, h.cell 38, form_12⟩
  | 13, _ => exact ⟨11, 9221120237041090561, 5, h.cell 39, h.cell 40, h.cell 41, form_13⟩
  | 14, _ => exact ⟨0, 9221120237041090561, 0, h.cell 42, h.cell 43, h.cell 44, form_14⟩
  | 15, _ => exact ⟨0, 4607182418800017408, 0, h.cell 45, h.cell 46, h.cell 47, form_15⟩
  | 16, _ => exact ⟨(-5), 4607182418800017408, 0, h.cell 48, h.cell 49, h.cell 50, form_16⟩
  | 17, _ => exact ⟨20000, 4602678819172646912, 5000, h.cell 51, h.cell 52, h.cell 53, form_17⟩
  | 18, _ => exact ⟨20000, 9221120237041090561, 5000, h.cell 54, h.cell 55, h.cell 56, form_18⟩
  | 19, _ => exact ⟨3, 4599676419421066581, 1, h.cell 57, h.cell 58, h.cell 59, form_19⟩
  | 20, _ => exact ⟨10, 1, 0, h.cell 60, h.cell 61, h.cell 62, form_20⟩
  | 21, _ => exact ⟨10, 9218868437227405311, 10, h.cell 63, h.cell 64, h.cell 65, form_21⟩
  | 22, _ => exact ⟨10000, 4547007122018943789, 1, h.cell 66, h.cell 67, h.cell 68, form_22⟩
  | j + 23, hj => exact absurd hj (by omega)

def FormsPost (w : World) (e : Ending) (w' : World) : Prop := e = .returned (.bool true) ∧ Below w.heap.size w w'

set_option maxRecDepth 100000 in
set_option maxHeartbeats 2000000 in
theorem forms_walk (n : Int) (w : World) : Calls Try.prog 3 #[.int .i64 n] w (FormsPost w) := by
  go_enter Try.func3, Try.ntmps3
  go_upto_region 2 with fail
  refine (minus_zero _).mono ?_
  rintro e w' ⟨rfl, rfl⟩
  go_upto_region 2 with fail
  go_cut [4] (TabRel w)
  case first =>
    go_wp2_with fail
    refine (inf_pos _).mono ?_
    rintro e w' ⟨rfl, rfl⟩
    go_wp2_with fail
    refine (inf_neg _).mono ?_
    rintro e w' ⟨rfl, rfl⟩
    go_wp2_with fail
    refine (nan_any _).mono ?_
    rintro e w' ⟨rfl, rfl⟩
    go_wp2_with fail
    refine (nan_any _).mono ?_
    rintro e w' ⟨rfl, rfl⟩
    go_wp2_with fail
    refine (nan_any _).mono ?_
    rintro e w' ⟨rfl, rfl⟩
    go_wp2_with fail
    refine (nan_any _).mono ?_
    rintro e w' ⟨rfl, rfl⟩
    go_wp2_with fail
    go_meet
    exact tab_mk w
  case rest =>
    obtain ⟨g, rfl, hb0, hall, hg⟩ := hcut
    obtain ⟨q, hq, q1⟩ : ∃ q : Nat, bits .and .i64 n 255 = (q : Int) ∧ q ≤ 255 := ⟨(n % 256).toNat, by rw [i64_and255]; omega, by omega⟩
    have hm1 : ((q : Int).tmod 23) < 23 := by rw [Int.tmod_eq_emod_of_nonneg (by omega)]; omega
    have hm0 : 0 ≤ ((q : Int).tmod 23) := by rw [Int.tmod_eq_emod_of_nonneg (by omega)]; omega
    obtain ⟨a, r, b, c0, c1, c2, hp⟩ := hall (q % 23) (Nat.mod_lt _ (by decide))
    clear hall
    have HP := part_is hp
    clear hp
    have hbb : (b == b) = true := beq_self_eq_true b
    go_upto_region 4 with fail
    have hX := Held.new wc 24 #[.int .i64 a, .float .f64 r, .int .i64 b]
    have hb1 : Below w.heap.size w (wc.alloc (.cells #[.int .i64 a, .float .f64 r, .int .i64 b] 24)) := hb0.alloc hb0.size _
    clear c0 c1 c2 hq q1 hm1 hm0 hb0 hg
    generalize wc.alloc (.cells #[.int .i64 a, .float .f64 r, .int .i64 b] 24) = wx at *
    have hXD : Held wx.drew wc.heap.size 24 #[.int .i64 a, .float .f64 r, .int .i64 b] := hX
    have hbD : Below w.heap.size w wx.drew := hb1.drew
    clear hX hb1
    generalize wc.heap.size = X at *
    go_region_held3 (fun w' => w'.cell? ⟨X, 0, none⟩ = some (.int .i64 a) ∧ w'.cell? ⟨X, 1, none⟩ = some (.float .f64 r) ∧ w'.cell? ⟨X, 2, none⟩ = some (.int .i64 b))
      (first
        | with_reducible exact row_S hXD
        | fail)
      (first
        | (go_at_call 10
           (with_reducible refine (HP _).mono ?_)
           rintro e w2 ⟨rfl, rfl⟩)
        | (go_at_call 11
           (with_reducible refine (awake_any _).mono ?_)
           rintro e w3 ⟨rfl, rfl⟩))
    go_wp2_with fail
    go_ret
    exact ⟨rfl, hbD⟩
end Go.Proofs.Ytmnpialffhglhaa
