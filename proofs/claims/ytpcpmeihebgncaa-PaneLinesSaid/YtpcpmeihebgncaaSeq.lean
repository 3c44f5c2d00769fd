/-
  What sequenced of package acts answers for the moves: the cursor goes as far as it is told. Conditions: the screen's sides lie between 1 and 1,000, the cursor is on it.
-/
import Derived.Test.YtpcpmeihebgncaaTold
import Derived.StillTailTactics
namespace Go.Proofs.Ytpcpmeihebgncaa
open Go.RowKit
set_option maxRecDepth 100000

/-- A screen's sides, and its cursor on it. -/
structure On (p : Nm) : Prop where
  w0 : 1 ≤ p.w
  w1 : p.w ≤ 1000
  h0 : 1 ≤ p.h
  h1 : p.h ≤ 1000
  x0 : 0 ≤ p.x
  x1 : p.x < p.w
  y0 : 0 ≤ p.y
  y1 : p.y < p.h
theorem told_le {xs : List Int} {i : Nat} {o : Int} (h0 : 1 ≤ o) (h1 : o ≤ 1048576) : 1 ≤ toldF xs i o ∧ toldF xs i o ≤ 1048576 := by
  unfold toldF
  split
  · split <;> omega
  · omega


set_option maxHeartbeats 4000000 in
theorem seq_A (p : Nm) (D E PD : Option Addr) (n c m d pc : Nat) (xs : List Int) (w : World) (hr : ReadI w (.slice PD xs.length pc) xs) (hp : On p) :
    Calls Try.prog 30 #[gv p (.slice D n c) (.slice E m d), .int .i32 65, .slice PD xs.length pc] w (ValPost (gv (movedNm p p.x (p.y - toldF xs 0 1)) (.slice D n c) (.slice E m d)) w) := by
  have HS := Lib.hid (MS.start w p (.slice D n c) (.slice E m d))
  have HT : Hid (∀ wx, Below w.heap.size w wx → Calls Try.prog 56 #[.slice PD xs.length pc, .int .i64 0, .int .i64 1] wx fun e w' => e = .returned (.int .i64 (toldF xs 0 1)) ∧ wx = w') := fun wx hb => told_any PD pc xs 0 1 wx (hr.below hb (Nat.le_refl _))
  obtain ⟨k0, k1⟩ := told_le (xs := xs) (i := 0) (o := 1) (by omega) (by omega)
  generalize toldF xs 0 1 = k at *
  obtain ⟨w0, w1, h0, h1, x0, x1, y0, y1⟩ := hp
  have s1 : IntKind.i64.wrap (p.y - k) = p.y - k := IntWalk.i64_in _ (by omega)
  clear hr
  unfold gv gcs
  go_enter Try.func30, Try.ntmps30
  go_upto_region 1 with fail
  refine wp_world (fun wq => MS w p (.slice D n c) (.slice E m d) wq) HS.out ?_
  clear HS
  intro w2 rs
  have xg := rs.box
  have u2 := xg.cells.c2
  have u3 := xg.cells.c3
  have HM := Lib.hid (fun X Y => moved_any p D E n c m d X Y w2 w0 w1 h0 h1)
  have HR := Lib.hid rs
  clear rs w0 w1 h0 h1
  go_wp2_with (first
    | (go_at_call 56
       refine (HT.out _ HR.out.below).mono ?_
       rintro e w' ⟨rfl, rfl⟩)
    | (with_reducible refine wpList_loadB xg (x := .tmp 3) ?_ ?_ ?_ ?_
       · with_reducible rfl
       · rfl
       · rfl)
    | (go_at_call 54
       refine (HM.out _ _).mono ?_
       clear HM
       rintro e w5 ⟨rfl, hb5⟩
       have xa := HR.out.ans.below hb5 HR.out.ans.lt
       generalize hq : movedNm p p.x (p.y - k) = q at *)
    | (with_reducible refine wpList_storeA xa (x := .tmp 6) (y := .tmp 20) (p := q) (D := D) (E := E) (n := n) (c := c) (m := m) (d := d) ?_ ?_ ?_ ?_ ?_
       · with_reducible rfl
       · rfl
       · rfl
       · rfl))
  refine bodyPost_ret (v := gv q (.slice D n c) (.slice E m d)) (results_cell_row (P := Try.prog) Try.results30 _ _ (w.heap.size + 1) 35 _ (0, 0) _ rfl (xa.setRow q _ _) Try.underlying35 rfl box_size) rfl ?_
  exact ⟨rfl, below_setRow (HR.out.below.trans (hb5.mono HR.out.below.size)) (Nat.le_succ _) _⟩

set_option maxHeartbeats 4000000 in
theorem seq_B (p : Nm) (D E PD : Option Addr) (n c m d pc : Nat) (xs : List Int) (w : World) (hr : ReadI w (.slice PD xs.length pc) xs) (hp : On p) :
    Calls Try.prog 30 #[gv p (.slice D n c) (.slice E m d), .int .i32 66, .slice PD xs.length pc] w (ValPost (gv (movedNm p p.x (p.y + toldF xs 0 1)) (.slice D n c) (.slice E m d)) w) := by
  have HS := Lib.hid (MS.start w p (.slice D n c) (.slice E m d))
  have HT : Hid (∀ wx, Below w.heap.size w wx → Calls Try.prog 56 #[.slice PD xs.length pc, .int .i64 0, .int .i64 1] wx fun e w' => e = .returned (.int .i64 (toldF xs 0 1)) ∧ wx = w') := fun wx hb => told_any PD pc xs 0 1 wx (hr.below hb (Nat.le_refl _))
  obtain ⟨k0, k1⟩ := told_le (xs := xs) (i := 0) (o := 1) (by omega) (by omega)
  generalize toldF xs 0 1 = k at *
  obtain ⟨w0, w1, h0, h1, x0, x1, y0, y1⟩ := hp
  have s1 : IntKind.i64.wrap (p.y + k) = p.y + k := IntWalk.i64_in _ (by omega)
  clear hr
  unfold gv gcs
  go_enter Try.func30, Try.ntmps30
  go_upto_region 1 with fail
  refine wp_world (fun wq => MS w p (.slice D n c) (.slice E m d) wq) HS.out ?_
  clear HS
  intro w2 rs
  have xg := rs.box
  have u2 := xg.cells.c2
  have u3 := xg.cells.c3
  have HM := Lib.hid (fun X Y => moved_any p D E n c m d X Y w2 w0 w1 h0 h1)
  have HR := Lib.hid rs
  clear rs w0 w1 h0 h1
  go_wp2_with (first
    | (go_at_call 56
       refine (HT.out _ HR.out.below).mono ?_
       rintro e w' ⟨rfl, rfl⟩)
    | (with_reducible refine wpList_loadB xg (x := .tmp 3) ?_ ?_ ?_ ?_
       · with_reducible rfl
       · rfl
       · rfl)
    | (go_at_call 54
       refine (HM.out _ _).mono ?_
       clear HM
       rintro e w5 ⟨rfl, hb5⟩
       have xa := HR.out.ans.below hb5 HR.out.ans.lt
       generalize hq : movedNm p p.x (p.y + k) = q at *)
    | (with_reducible refine wpList_storeA xa (x := .tmp 6) (y := .tmp 30) (p := q) (D := D) (E := E) (n := n) (c := c) (m := m) (d := d) ?_ ?_ ?_ ?_ ?_
       · with_reducible rfl
       · rfl
       · rfl
       · rfl))
  refine bodyPost_ret (v := gv q (.slice D n c) (.slice E m d)) (results_cell_row (P := Try.prog) Try.results30 _ _ (w.heap.size + 1) 35 _ (0, 0) _ rfl (xa.setRow q _ _) Try.underlying35 rfl box_size) rfl ?_
  exact ⟨rfl, below_setRow (HR.out.below.trans (hb5.mono HR.out.below.size)) (Nat.le_succ _) _⟩

set_option maxHeartbeats 4000000 in
theorem seq_C (p : Nm) (D E PD : Option Addr) (n c m d pc : Nat) (xs : List Int) (w : World) (hr : ReadI w (.slice PD xs.length pc) xs) (hp : On p) :
    Calls Try.prog 30 #[gv p (.slice D n c) (.slice E m d), .int .i32 67, .slice PD xs.length pc] w (ValPost (gv (movedNm p (p.x + toldF xs 0 1) p.y) (.slice D n c) (.slice E m d)) w) := by
  have HS := Lib.hid (MS.start w p (.slice D n c) (.slice E m d))
  have HT : Hid (∀ wx, Below w.heap.size w wx → Calls Try.prog 56 #[.slice PD xs.length pc, .int .i64 0, .int .i64 1] wx fun e w' => e = .returned (.int .i64 (toldF xs 0 1)) ∧ wx = w') := fun wx hb => told_any PD pc xs 0 1 wx (hr.below hb (Nat.le_refl _))
  obtain ⟨k0, k1⟩ := told_le (xs := xs) (i := 0) (o := 1) (by omega) (by omega)
  generalize toldF xs 0 1 = k at *
  obtain ⟨w0, w1, h0, h1, x0, x1, y0, y1⟩ := hp
  have s1 : IntKind.i64.wrap (p.x + k) = p.x + k := IntWalk.i64_in _ (by omega)
  clear hr
  unfold gv gcs
  go_enter Try.func30, Try.ntmps30
  go_upto_region 1 with fail
  refine wp_world (fun wq => MS w p (.slice D n c) (.slice E m d) wq) HS.out ?_
  clear HS
  intro w2 rs
  have xg := rs.box
  have u2 := xg.cells.c2
  have u3 := xg.cells.c3
  have HM := Lib.hid (fun X Y => moved_any p D E n c m d X Y w2 w0 w1 h0 h1)
  have HR := Lib.hid rs
  clear rs w0 w1 h0 h1
  go_wp2_with (first
    | (go_at_call 56
       refine (HT.out _ HR.out.below).mono ?_
       rintro e w' ⟨rfl, rfl⟩)
    | (with_reducible refine wpList_loadB xg (x := .tmp 3) ?_ ?_ ?_ ?_
       · with_reducible rfl
       · rfl
       · rfl)
    | (go_at_call 54
       refine (HM.out _ _).mono ?_
       clear HM
       rintro e w5 ⟨rfl, hb5⟩
       have xa := HR.out.ans.below hb5 HR.out.ans.lt
       generalize hq : movedNm p (p.x + k) p.y = q at *)
    | (with_reducible refine wpList_storeA xa (x := .tmp 6) (y := .tmp 40) (p := q) (D := D) (E := E) (n := n) (c := c) (m := m) (d := d) ?_ ?_ ?_ ?_ ?_
       · with_reducible rfl
       · rfl
       · rfl
       · rfl))
  refine bodyPost_ret (v := gv q (.slice D n c) (.slice E m d)) (results_cell_row (P := Try.prog) Try.results30 _ _ (w.heap.size + 1) 35 _ (0, 0) _ rfl (xa.setRow q _ _) Try.underlying35 rfl box_size) rfl ?_
  exact ⟨rfl, below_setRow (HR.out.below.trans (hb5.mono HR.out.below.size)) (Nat.le_succ _) _⟩

set_option maxHeartbeats 4000000 in
theorem seq_D (p : Nm) (D E PD : Option Addr) (n c m d pc : Nat) (xs : List Int) (w : World) (hr : ReadI w (.slice PD xs.length pc) xs) (hp : On p) :
    Calls Try.prog 30 #[gv p (.slice D n c) (.slice E m d), .int .i32 68, .slice PD xs.length pc] w (ValPost (gv (movedNm p (p.x - toldF xs 0 1) p.y) (.slice D n c) (.slice E m d)) w) := by
  have HS := Lib.hid (MS.start w p (.slice D n c) (.slice E m d))
  have HT : Hid (∀ wx, Below w.heap.size w wx → Calls Try.prog 56 #[.slice PD xs.length pc, .int .i64 0, .int .i64 1] wx fun e w' => e = .returned (.int .i64 (toldF xs 0 1)) ∧ wx = w') := fun wx hb => told_any PD pc xs 0 1 wx (hr.below hb (Nat.le_refl _))
  obtain ⟨k0, k1⟩ := told_le (xs := xs) (i := 0) (o := 1) (by omega) (by omega)
  generalize toldF xs 0 1 = k at *
  obtain ⟨w0, w1, h0, h1, x0, x1, y0, y1⟩ := hp
  have s1 : IntKind.i64.wrap (p.x - k) = p.x - k := IntWalk.i64_in _ (by omega)
  clear hr
  unfold gv gcs
  go_enter Try.func30, Try.ntmps30
  go_upto_region 1 with fail
  refine wp_world (fun wq => MS w p (.slice D n c) (.slice E m d) wq) HS.out ?_
  clear HS
  intro w2 rs
  have xg := rs.box
  have u2 := xg.cells.c2
  have u3 := xg.cells.c3
  have HM := Lib.hid (fun X Y => moved_any p D E n c m d X Y w2 w0 w1 h0 h1)
  have HR := Lib.hid rs
  clear rs w0 w1 h0 h1
  go_wp2_with (first
    | (go_at_call 56
       refine (HT.out _ HR.out.below).mono ?_
       rintro e w' ⟨rfl, rfl⟩)
    | (with_reducible refine wpList_loadB xg (x := .tmp 3) ?_ ?_ ?_ ?_
       · with_reducible rfl
       · rfl
       · rfl)
    | (go_at_call 54
       refine (HM.out _ _).mono ?_
       clear HM
       rintro e w5 ⟨rfl, hb5⟩
       have xa := HR.out.ans.below hb5 HR.out.ans.lt
       generalize hq : movedNm p (p.x - k) p.y = q at *)
    | (with_reducible refine wpList_storeA xa (x := .tmp 6) (y := .tmp 50) (p := q) (D := D) (E := E) (n := n) (c := c) (m := m) (d := d) ?_ ?_ ?_ ?_ ?_
       · with_reducible rfl
       · rfl
       · rfl
       · rfl))
  refine bodyPost_ret (v := gv q (.slice D n c) (.slice E m d)) (results_cell_row (P := Try.prog) Try.results30 _ _ (w.heap.size + 1) 35 _ (0, 0) _ rfl (xa.setRow q _ _) Try.underlying35 rfl box_size) rfl ?_
  exact ⟨rfl, below_setRow (HR.out.below.trans (hb5.mono HR.out.below.size)) (Nat.le_succ _) _⟩

set_option maxHeartbeats 4000000 in
theorem seq_G (p : Nm) (D E PD : Option Addr) (n c m d pc : Nat) (xs : List Int) (w : World) (hr : ReadI w (.slice PD xs.length pc) xs) (hp : On p) :
    Calls Try.prog 30 #[gv p (.slice D n c) (.slice E m d), .int .i32 71, .slice PD xs.length pc] w (ValPost (gv (movedNm p (toldF xs 0 1 - 1) p.y) (.slice D n c) (.slice E m d)) w) := by
  have HS := Lib.hid (MS.start w p (.slice D n c) (.slice E m d))
  have HT : Hid (∀ wx, Below w.heap.size w wx → Calls Try.prog 56 #[.slice PD xs.length pc, .int .i64 0, .int .i64 1] wx fun e w' => e = .returned (.int .i64 (toldF xs 0 1)) ∧ wx = w') := fun wx hb => told_any PD pc xs 0 1 wx (hr.below hb (Nat.le_refl _))
  obtain ⟨k0, k1⟩ := told_le (xs := xs) (i := 0) (o := 1) (by omega) (by omega)
  generalize toldF xs 0 1 = k at *
  obtain ⟨w0, w1, h0, h1, x0, x1, y0, y1⟩ := hp
  have s1 : IntKind.i64.wrap (k - 1) = k - 1 := IntWalk.i64_in _ (by omega)
  clear hr
  unfold gv gcs
  go_enter Try.func30, Try.ntmps30
  go_upto_region 1 with fail
  refine wp_world (fun wq => MS w p (.slice D n c) (.slice E m d) wq) HS.out ?_
  clear HS
  intro w2 rs
  have xg := rs.box
  have u2 := xg.cells.c2
  have u3 := xg.cells.c3
  have HM := Lib.hid (fun X Y => moved_any p D E n c m d X Y w2 w0 w1 h0 h1)
  have HR := Lib.hid rs
  clear rs w0 w1 h0 h1
  go_wp2_with (first
    | (go_at_call 56
       refine (HT.out _ HR.out.below).mono ?_
       rintro e w' ⟨rfl, rfl⟩)
    | (with_reducible refine wpList_loadB xg (x := .tmp 3) ?_ ?_ ?_ ?_
       · with_reducible rfl
       · rfl
       · rfl)
    | (go_at_call 54
       refine (HM.out _ _).mono ?_
       clear HM
       rintro e w5 ⟨rfl, hb5⟩
       have xa := HR.out.ans.below hb5 HR.out.ans.lt
       generalize hq : movedNm p (k - 1) p.y = q at *)
    | (with_reducible refine wpList_storeA xa (x := .tmp 6) (y := .tmp 58) (p := q) (D := D) (E := E) (n := n) (c := c) (m := m) (d := d) ?_ ?_ ?_ ?_ ?_
       · with_reducible rfl
       · rfl
       · rfl
       · rfl))
  refine bodyPost_ret (v := gv q (.slice D n c) (.slice E m d)) (results_cell_row (P := Try.prog) Try.results30 _ _ (w.heap.size + 1) 35 _ (0, 0) _ rfl (xa.setRow q _ _) Try.underlying35 rfl box_size) rfl ?_
  exact ⟨rfl, below_setRow (HR.out.below.trans (hb5.mono HR.out.below.size)) (Nat.le_succ _) _⟩

set_option maxHeartbeats 4000000 in
theorem seq_d (p : Nm) (D E PD : Option Addr) (n c m d pc : Nat) (xs : List Int) (w : World) (hr : ReadI w (.slice PD xs.length pc) xs) (hp : On p) :
    Calls Try.prog 30 #[gv p (.slice D n c) (.slice E m d), .int .i32 100, .slice PD xs.length pc] w (ValPost (gv (movedNm p p.x (toldF xs 0 1 - 1)) (.slice D n c) (.slice E m d)) w) := by
  have HS := Lib.hid (MS.start w p (.slice D n c) (.slice E m d))
  have HT : Hid (∀ wx, Below w.heap.size w wx → Calls Try.prog 56 #[.slice PD xs.length pc, .int .i64 0, .int .i64 1] wx fun e w' => e = .returned (.int .i64 (toldF xs 0 1)) ∧ wx = w') := fun wx hb => told_any PD pc xs 0 1 wx (hr.below hb (Nat.le_refl _))
  obtain ⟨k0, k1⟩ := told_le (xs := xs) (i := 0) (o := 1) (by omega) (by omega)
  generalize toldF xs 0 1 = k at *
  obtain ⟨w0, w1, h0, h1, x0, x1, y0, y1⟩ := hp
  have s1 : IntKind.i64.wrap (k - 1) = k - 1 := IntWalk.i64_in _ (by omega)
  clear hr
  unfold gv gcs
  go_enter Try.func30, Try.ntmps30
  go_upto_region 1 with fail
  refine wp_world (fun wq => MS w p (.slice D n c) (.slice E m d) wq) HS.out ?_
  clear HS
  intro w2 rs
  have xg := rs.box
  have u2 := xg.cells.c2
  have u3 := xg.cells.c3
  have HM := Lib.hid (fun X Y => moved_any p D E n c m d X Y w2 w0 w1 h0 h1)
  have HR := Lib.hid rs
  clear rs w0 w1 h0 h1
  go_wp2_with (first
    | (go_at_call 56
       refine (HT.out _ HR.out.below).mono ?_
       rintro e w' ⟨rfl, rfl⟩)
    | (with_reducible refine wpList_loadB xg (x := .tmp 3) ?_ ?_ ?_ ?_
       · with_reducible rfl
       · rfl
       · rfl)
    | (go_at_call 54
       refine (HM.out _ _).mono ?_
       clear HM
       rintro e w5 ⟨rfl, hb5⟩
       have xa := HR.out.ans.below hb5 HR.out.ans.lt
       generalize hq : movedNm p p.x (k - 1) = q at *)
    | (with_reducible refine wpList_storeA xa (x := .tmp 6) (y := .tmp 66) (p := q) (D := D) (E := E) (n := n) (c := c) (m := m) (d := d) ?_ ?_ ?_ ?_ ?_
       · with_reducible rfl
       · rfl
       · rfl
       · rfl))
  refine bodyPost_ret (v := gv q (.slice D n c) (.slice E m d)) (results_cell_row (P := Try.prog) Try.results30 _ _ (w.heap.size + 1) 35 _ (0, 0) _ rfl (xa.setRow q _ _) Try.underlying35 rfl box_size) rfl ?_
  exact ⟨rfl, below_setRow (HR.out.below.trans (hb5.mono HR.out.below.size)) (Nat.le_succ _) _⟩
end Go.Proofs.Ytpcpmeihebgncaa
