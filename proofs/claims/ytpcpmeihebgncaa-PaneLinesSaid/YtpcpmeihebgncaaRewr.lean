/-
  What rewritten of package acts answers for J, K and what is not known, and what sequenced answers where it hands on to it. Conditions: the screen's sides lie between 1 and 1,000, its rows are as wide as it, the cursor is on it.
-/
import Derived.Test.YtpcpmeihebgncaaScreen
namespace Go.Proofs.Ytpcpmeihebgncaa
open Go.RowKit
set_option maxRecDepth 100000

/-- A whole screen is read, in a region that draws its order. -/
theorem yields_loadB {ops : Array Oper} {S : World → Prop} {o : Oper} {a : Act} {x : Operand} {g : Nat} {p : Nm} {r b : Value} (hw : Region.wanted o (yielded ops a.tmps) = true) (ho : o.op = .load 35 x) (hx : a.eval x = .pointer (some ⟨g, 0, none⟩)) (hS : ∀ w, S w → Box w g p r b) : YieldsIf Try.prog ops S o (gv p r b) a :=
  yieldsIf_load_mid hw 35 x ho g 0 hx (gcs p r b).toList _ (fun w h j v hv => by
    rw [Nat.zero_add, Held.cell (hS w h) j]
    simpa using hv) Try.underlying35 rfl box_size
theorem wp_storeA {o : Oper} {a : Act} {w : World} {K : Act → World → Prop} {Q : Exit → Act → World → Prop} {x y : Operand} {g : Nat} {q : Nm} {r0 b0 : Value} (h : Box w g q r0 b0) {p : Nm} {D E : Option Addr} {n c m d : Nat}
    (ho : o.op = .store 35 x y) (hx : a.eval x = .pointer (some ⟨g, 0, none⟩)) (hy : a.eval y = gv p (.slice D n c) (.slice E m d))
    (k : K (a.put o.dst undef) (w.setRow g (gcs p (.slice D n c) (.slice E m d)))) : Oper.wp Try.prog o a w K Q :=
  wp_store_row 35 x y ho g _ hx hy 35 _ h box_size (gcs_size _ _ _) (gcs_one _ _ _ _ _ _ _) k

theorem TurnPost.into {B g h : Nat} {w : World} {p : Nm} {L Bk : List (List C)} {e : Ending} {w' : World} (t : TurnPost B g h w p L Bk e w') : InPost B g w p L Bk e w' := ⟨g, h, t.1, t.2.1, t.2.2⟩
theorem ValPost.into {B g h : Nat} {w : World} {p : Nm} {L Bk : List (List C)} {e : Ending} {w' : World} (hs : OScr B w g h L Bk) (t : ValPost (ov p g h L Bk) w e w') : InPost B g w p L Bk e w' := ⟨g, h, t.1, hs.below t.2 (Nat.le_refl _), Chg.of t.2 hs.rows.lt⟩

/-- None of the letters that sequenced knows itself. -/
def NotSeq (r : Int) : Prop := r ≠ 65 ∧ r ≠ 66 ∧ r ≠ 67 ∧ r ≠ 68 ∧ r ≠ 71 ∧ r ≠ 100 ∧ r ≠ 72 ∧ r ≠ 102 ∧ r ≠ 114 ∧ r ≠ 109

set_option maxHeartbeats 4000000 in
theorem seq_rw (B : Nat) (p p2 : Nm) (g h : Nat) (L Bk L2 Bk2 : List (List C)) (r : Int) (PD : Option Addr) (pc : Nat) (xs : List Int) (w : World) (hs : OScr B w g h L Bk) (hr : ReadI w (.slice PD xs.length pc) xs) (hne : NotSeq r)
    (hT : ∀ wx, OScr B wx g h L Bk → Calls Try.prog 59 #[ov p g h L Bk, .int .i32 r, .int .i64 (toldF xs 0 1), .int .i64 (toldF xs 0 0)] wx (InPost B g wx p2 L2 Bk2)) :
    Calls Try.prog 30 #[ov p g h L Bk, .int .i32 r, .slice PD xs.length pc] w (InPost B g w p2 L2 Bk2) := by
  have HS := Lib.hid (MS.start w p (.slice (some ⟨g, 0, none⟩) L.length L.length) (.slice (some ⟨h, 0, none⟩) Bk.length Bk.length))
  have HT : Hid (∀ wx, Below w.heap.size w wx → Calls Try.prog 56 #[.slice PD xs.length pc, .int .i64 0, .int .i64 1] wx fun e w' => e = .returned (.int .i64 (toldF xs 0 1)) ∧ wx = w') := fun wx hb => told_any PD pc xs 0 1 wx (hr.below hb (Nat.le_refl _))
  have HT0 : Hid (∀ wx, Below w.heap.size w wx → Calls Try.prog 56 #[.slice PD xs.length pc, .int .i64 0, .int .i64 0] wx fun e w' => e = .returned (.int .i64 (toldF xs 0 0)) ∧ wx = w') := fun wx hb => told_any PD pc xs 0 0 wx (hr.below hb (Nat.le_refl _))
  have T : Hid (∀ wx, OScr B wx g h L Bk → Calls Try.prog 59 #[gv p (.slice (some ⟨g, 0, none⟩) L.length L.length) (.slice (some ⟨h, 0, none⟩) Bk.length Bk.length), .int .i32 r, .int .i64 (toldF xs 0 1), .int .i64 (toldF xs 0 0)] wx (InPost B g wx p2 L2 Bk2)) := hT
  clear hT
  generalize toldF xs 0 1 = n at *
  generalize toldF xs 0 0 = part at *
  have HH := Lib.hid hs
  have hgl := hs.rows.lt
  obtain ⟨n65, n66, n67, n68, n71, n100, n72, n102, n114, n109⟩ := hne
  clear hr hs
  unfold ov gv gcs
  go_enter Try.func30, Try.ntmps30
  go_upto_region 1 with fail
  refine wp_world (fun wq => MS w p (.slice (some ⟨g, 0, none⟩) L.length L.length) (.slice (some ⟨h, 0, none⟩) Bk.length Bk.length) wq) HS.out ?_
  clear HS
  intro w2 rs
  have xg := rs.box
  have HR0 := Lib.hid rs
  clear rs
  go_upto_region 23 with (
    go_at_call 56
    refine (HT.out _ HR0.out.below).mono ?_
    rintro e w' ⟨rfl, rfl⟩)
  have HR := Lib.hid HR0.out.drew
  clear n65 n66 n67 n68 n71 n100 n72 n102 n114 n109 xg HR0 HT
  refine wp_region_held_drew (S := fun w' => Box w' w.heap.size p (.slice (some ⟨g, 0, none⟩) L.length L.length) (.slice (some ⟨h, 0, none⟩) Bk.length Bk.length)) (by kernel_rfl) (by exact HR.out.box) (fun hH0 => ?_)
  refine wpAnyH_take (i := 0) (oi := _) (v := gv p (.slice (some ⟨g, 0, none⟩) L.length L.length) (.slice (some ⟨h, 0, none⟩) Bk.length Bk.length)) rfl (by kernel_rfl) (by kernel_rfl) (by kernel_rfl) (fun _ _ _ h => h) (yields_loadB (by rfl) rfl (by rfl) (fun _ h => h)) hH0 ?_
  change wpAnyH _ _ _ _ _ _ _ (Act.put _ (some 96) (gv p (.slice (some ⟨g, 0, none⟩) L.length L.length) (.slice (some ⟨h, 0, none⟩) Bk.length Bk.length))) _
  simp only [Act.put, List.setIfInBounds_toArray, List.set_cons_zero, List.set_cons_succ]
  refine wpAnyH_take (i := 1) (oi := _) (v := .int .i32 r) rfl (by kernel_rfl) (by kernel_rfl) (by kernel_rfl) (fun _ _ _ h => h) (Or.inl ⟨by rfl, ?_⟩) hH0 ?_
  · intro wv hSw
    try dsimp only at hSw
    go_simp
  change wpAnyH _ _ _ _ _ _ _ (Act.put _ (some 97) (.int .i32 r)) _
  simp only [Act.put, List.setIfInBounds_toArray, List.set_cons_zero, List.set_cons_succ]
  refine wpAnyH_take (i := 2) (oi := _) (v := .int .i64 n) rfl (by kernel_rfl) (by kernel_rfl) (by kernel_rfl) (fun _ _ _ h => h) (Or.inl ⟨by rfl, ?_⟩) hH0 ?_
  · intro wv hSw
    try dsimp only at hSw
    go_simp
  change wpAnyH _ _ _ _ _ _ _ (Act.put _ (some 98) (.int .i64 n)) _
  simp only [Act.put, List.setIfInBounds_toArray, List.set_cons_zero, List.set_cons_succ]
  refine wpAnyH_take (i := 3) (oi := _) (v := .slice PD xs.length pc) rfl (by kernel_rfl) (by kernel_rfl) (by kernel_rfl) (fun _ _ _ h => h) (Or.inl ⟨by rfl, ?_⟩) hH0 ?_
  · intro wv hSw
    try dsimp only at hSw
    go_simp
  change wpAnyH _ _ _ _ _ _ _ (Act.put _ (some 99) (.slice PD xs.length pc)) _
  simp only [Act.put, List.setIfInBounds_toArray, List.set_cons_zero, List.set_cons_succ]
  refine wpAnyH_ready (rs := [4]) (by kernel_rfl) (by simp) ?_
  refine AllReadyH.cons (o := _) rfl (fun K hK => ?_) AllReadyH.nil
  go_simp
  refine (HT0.out _ HR.out.below).mono ?_
  rintro e w' ⟨rfl, rfl⟩
  go_wp2_with fail
  refine hK.out _ _ (by exact HR.out.box) (fun hH1 => ?_)
  clear hK K
  try simp only [Act.put, List.setIfInBounds_toArray, List.set_cons_zero, List.set_cons_succ]
  refine wpAnyH_ready (rs := [5]) (by kernel_rfl) (by simp) ?_
  refine AllReadyH.cons (o := _) rfl (fun K hK => ?_) AllReadyH.nil
  go_simp
  refine (T.out w2.drew (HH.out.below HR.out.below (Nat.le_refl _))).mono ?_
  rintro e w5 ⟨g5, h5, rfl, s5, c5⟩
  have x5 := c5.box HR.out.box (by omega)
  have a5 := c5.box HR.out.ans (by omega)
  go_wp2_with fail
  refine hK.out _ _ (by exact x5) (fun hH2 => ?_)
  clear hK K
  try simp only [Act.put, List.setIfInBounds_toArray, List.set_cons_zero, List.set_cons_succ]
  refine wpAnyH_ready (rs := [6]) (by kernel_rfl) (by simp) ?_
  refine AllReadyH.cons (o := _) rfl (fun K hK => ?_) AllReadyH.nil
  rw [if_pos (by rfl)]
  refine wp_storeA a5 (x := .tmp 6) (y := .tmp 101) (p := p2) (D := some ⟨g5, 0, none⟩) (E := some ⟨h5, 0, none⟩) (n := L2.length) (c := L2.length) (m := Bk2.length) (d := Bk2.length) rfl rfl rfl ?_
  refine hK.out _ _ (by exact (setRow_other _ _ _ _ (by omega)).trans x5) (fun hH3 => ?_)
  clear hK K
  dsimp only [Act.put]
  refine wpAnyH_done (by kernel_rfl) ?_ _
  clear hH0 hH1 hH2 hH3
  go_wp2_with fail
  refine bodyPost_ret (v := gv p2 (.slice (some ⟨g5, 0, none⟩) L2.length L2.length) (.slice (some ⟨h5, 0, none⟩) Bk2.length Bk2.length)) (results_cell_row (P := Try.prog) Try.results30 _ _ (w.heap.size + 1) 35 _ (0, 0) _ rfl (a5.setRow _ _ _) Try.underlying35 rfl box_size) rfl ?_
  exact ⟨g5, h5, rfl, s5.bput a5 _, (Chg.comp HR.out.below (.inl rfl) hgl c5).setRow hgl (Nat.le_succ _) _⟩

set_option maxHeartbeats 4000000 in
theorem rew_J (B : Nat) (p : Nm) (g h : Nat) (L Bk L2 : List (List C)) (n part : Int) (w : World) (hs : OScr B w g h L Bk)
    (hT : ∀ wx, OScr B wx g h L Bk → Calls Try.prog 104 #[ov p g h L Bk, .int .i64 part] wx (TurnPost B g h wx p L2 Bk)) :
    Calls Try.prog 59 #[ov p g h L Bk, .int .i32 74, .int .i64 n, .int .i64 part] w (InPost B g w p L2 Bk) := by
  have HS := Lib.hid (PS.start w 3 (.int .i64 n) p (.slice (some ⟨g, 0, none⟩) L.length L.length) (.slice (some ⟨h, 0, none⟩) Bk.length Bk.length))
  have HB := Lib.hid (start_below w (.cells (gcs p (.slice (some ⟨g, 0, none⟩) L.length L.length) (.slice (some ⟨h, 0, none⟩) Bk.length Bk.length)) 35) (.cells #[.int .i64 n] 3) (.cells (gcs zeroNm nilV nilV) 35))
  have T : Hid (∀ wx, OScr B wx g h L Bk → Calls Try.prog 104 #[gv p (.slice (some ⟨g, 0, none⟩) L.length L.length) (.slice (some ⟨h, 0, none⟩) Bk.length Bk.length), .int .i64 part] wx (TurnPost B g h wx p L2 Bk)) := hT
  have HH := Lib.hid hs
  have hgl := hs.rows.lt
  clear hT hs
  unfold ov gv gcs
  go_enter Try.func59, Try.ntmps59
  go_upto_region 1 with fail
  refine wp_world (fun wq => PS w 3 (.int .i64 n) p (.slice (some ⟨g, 0, none⟩) L.length L.length) (.slice (some ⟨h, 0, none⟩) Bk.length Bk.length) wq ∧ Below w.heap.size w wq) ⟨HS.out, HB.out⟩ ?_
  clear HS HB
  rintro w2 ⟨ps, b2⟩
  have xg := ps.box
  go_wp2_with (first
    | (with_reducible refine wpList_loadB xg (x := .tmp 4) ?_ ?_ ?_ ?_
       · with_reducible rfl
       · rfl
       · rfl)
    | (go_at_call 104
       refine (T.out w2 (HH.out.below b2 (Nat.le_refl _))).mono ?_
       rintro e w3 ⟨rfl, s3, c3⟩
       have a3 := (ps.chg c3 (.inl hgl)).ans)
    | (with_reducible refine wpList_storeA a3 (x := .tmp 8) (y := .tmp 14) (p := p) (D := some ⟨g, 0, none⟩) (E := some ⟨h, 0, none⟩) (n := L2.length) (c := L2.length) (m := Bk.length) (d := Bk.length) ?_ ?_ ?_ ?_ ?_
       · with_reducible rfl
       · rfl
       · rfl
       · rfl))
  refine bodyPost_ret (v := gv p (.slice (some ⟨g, 0, none⟩) L2.length L2.length) (.slice (some ⟨h, 0, none⟩) Bk.length Bk.length)) (results_cell_row (P := Try.prog) Try.results59 _ _ (w.heap.size + 2) 35 _ (0, 0) _ rfl (a3.setRow _ _ _) Try.underlying35 rfl box_size) rfl ?_
  exact ⟨g, h, rfl, s3.bput a3 _, (Chg.comp b2 (.inl rfl) hgl c3).setRow hgl (by omega) _⟩

set_option maxHeartbeats 4000000 in
theorem rew_K (B : Nat) (p : Nm) (g h : Nat) (L Bk L2 : List (List C)) (n part : Int) (w : World) (hs : OScr B w g h L Bk)
    (hT : ∀ wx, OScr B wx g h L Bk → Calls Try.prog 105 #[ov p g h L Bk, .int .i64 part] wx (TurnPost B g h wx p L2 Bk)) :
    Calls Try.prog 59 #[ov p g h L Bk, .int .i32 75, .int .i64 n, .int .i64 part] w (InPost B g w p L2 Bk) := by
  have HS := Lib.hid (PS.start w 3 (.int .i64 n) p (.slice (some ⟨g, 0, none⟩) L.length L.length) (.slice (some ⟨h, 0, none⟩) Bk.length Bk.length))
  have HB := Lib.hid (start_below w (.cells (gcs p (.slice (some ⟨g, 0, none⟩) L.length L.length) (.slice (some ⟨h, 0, none⟩) Bk.length Bk.length)) 35) (.cells #[.int .i64 n] 3) (.cells (gcs zeroNm nilV nilV) 35))
  have T : Hid (∀ wx, OScr B wx g h L Bk → Calls Try.prog 105 #[gv p (.slice (some ⟨g, 0, none⟩) L.length L.length) (.slice (some ⟨h, 0, none⟩) Bk.length Bk.length), .int .i64 part] wx (TurnPost B g h wx p L2 Bk)) := hT
  have HH := Lib.hid hs
  have hgl := hs.rows.lt
  clear hT hs
  unfold ov gv gcs
  go_enter Try.func59, Try.ntmps59
  go_upto_region 1 with fail
  refine wp_world (fun wq => PS w 3 (.int .i64 n) p (.slice (some ⟨g, 0, none⟩) L.length L.length) (.slice (some ⟨h, 0, none⟩) Bk.length Bk.length) wq ∧ Below w.heap.size w wq) ⟨HS.out, HB.out⟩ ?_
  clear HS HB
  rintro w2 ⟨ps, b2⟩
  have xg := ps.box
  go_wp2_with (first
    | (with_reducible refine wpList_loadB xg (x := .tmp 4) ?_ ?_ ?_ ?_
       · with_reducible rfl
       · rfl
       · rfl)
    | (go_at_call 105
       refine (T.out w2 (HH.out.below b2 (Nat.le_refl _))).mono ?_
       rintro e w3 ⟨rfl, s3, c3⟩
       have a3 := (ps.chg c3 (.inl hgl)).ans)
    | (with_reducible refine wpList_storeA a3 (x := .tmp 8) (y := .tmp 19) (p := p) (D := some ⟨g, 0, none⟩) (E := some ⟨h, 0, none⟩) (n := L2.length) (c := L2.length) (m := Bk.length) (d := Bk.length) ?_ ?_ ?_ ?_ ?_
       · with_reducible rfl
       · rfl
       · rfl
       · rfl))
  refine bodyPost_ret (v := gv p (.slice (some ⟨g, 0, none⟩) L2.length L2.length) (.slice (some ⟨h, 0, none⟩) Bk.length Bk.length)) (results_cell_row (P := Try.prog) Try.results59 _ _ (w.heap.size + 2) 35 _ (0, 0) _ rfl (a3.setRow _ _ _) Try.underlying35 rfl box_size) rfl ?_
  exact ⟨g, h, rfl, s3.bput a3 _, (Chg.comp b2 (.inl rfl) hgl c3).setRow hgl (by omega) _⟩

/-- None of the letters that rewritten knows. -/
def NotRew (r : Int) : Prop := r ≠ 74 ∧ r ≠ 75 ∧ r ≠ 76 ∧ r ≠ 77 ∧ r ≠ 64 ∧ r ≠ 80 ∧ r ≠ 88 ∧ r ≠ 83 ∧ r ≠ 84
set_option maxHeartbeats 4000000 in
theorem rew_no (p : Nm) (D E : Option Addr) (nn c m d : Nat) (r n part : Int) (w : World) (hne : NotRew r) :
    Calls Try.prog 59 #[gv p (.slice D nn c) (.slice E m d), .int .i32 r, .int .i64 n, .int .i64 part] w (ValPost (gv p (.slice D nn c) (.slice E m d)) w) := by
  have HS := Lib.hid (PS.start w 3 (.int .i64 n) p (.slice D nn c) (.slice E m d))
  have HB := Lib.hid (start_below w (.cells (gcs p (.slice D nn c) (.slice E m d)) 35) (.cells #[.int .i64 n] 3) (.cells (gcs zeroNm nilV nilV) 35))
  obtain ⟨n74, n75, n76, n77, n64, n80, n88, n83, n84⟩ := hne
  unfold gv gcs
  go_enter Try.func59, Try.ntmps59
  go_upto_region 1 with fail
  refine wp_world (fun wq => PS w 3 (.int .i64 n) p (.slice D nn c) (.slice E m d) wq ∧ Below w.heap.size w wq) ⟨HS.out, HB.out⟩ ?_
  clear HS HB
  rintro w2 ⟨ps, b2⟩
  have xg := ps.box
  have a3 := ps.ans
  go_wp2_with (first
    | (with_reducible refine wpList_loadB xg (x := .tmp 4) ?_ ?_ ?_ ?_
       · with_reducible rfl
       · rfl
       · rfl)
    | (with_reducible refine wpList_storeA a3 (x := .tmp 8) (y := .tmp 63) (p := p) (D := D) (E := E) (n := nn) (c := c) (m := m) (d := d) ?_ ?_ ?_ ?_ ?_
       · with_reducible rfl
       · rfl
       · rfl
       · rfl))
  refine bodyPost_ret (v := gv p (.slice D nn c) (.slice E m d)) (results_cell_row (P := Try.prog) Try.results59 _ _ (w.heap.size + 2) 35 _ (0, 0) _ rfl (a3.setRow _ _ _) Try.underlying35 rfl box_size) rfl ?_
  exact ⟨rfl, below_setRow b2 (by omega) _⟩
end Go.Proofs.Ytpcpmeihebgncaa
