/-
  What rowCleared and screenCleared of package acts answer where nothing is asked to be cleared: the screen as it was. Conditions: the cursor's row is there, the table of rows is one block.
-/
import Derived.Test.YtpcpmeihebgncaaScrl
namespace Go.Proofs.Ytpcpmeihebgncaa
open Go.RowKit
set_option maxRecDepth 100000

theorem set_self {vs : List Value} {y : Nat} {v : Value} (h : vs[y]? = some v) : vs.set y v = vs := by
  apply List.ext_getElem?
  intro i
  rw [List.getElem?_set]
  split
  · rename_i e
    subst e
    split
    · exact h.symm
    · rename_i hn
      rw [List.getElem?_eq_none (by omega)] at h
      cases h
  · rfl
def SelfPost (v : Value) (w : World) (e : Ending) (w' : World) : Prop := e = .returned v ∧ w = w'
def ChgSPost (w : World) (v : Value) (g : Nat) (vs : List Value) (e : Ending) (w' : World) : Prop := e = .returned v ∧ Held w' g 46 vs.toArray ∧ Chg g w w'

set_option maxHeartbeats 4000000 in
theorem changedS_any (F : Nat) (c1 c2 : Value) (p : Nm) (g : Nat) (E : Option Addr) (m d : Nat) (vs : List Value) (y : Nat) (D0 : Option Addr) (n0 k0 : Nat) (w : World)
    (ht : Held w g 46 vs.toArray) (hp : p.y = y) (hy : y < vs.length) (hv : vs[y]? = some (.slice D0 n0 k0))
    (hE : ∀ args w, (callFunc F args).run Try.prog w = .ok (.enter F args) w)
    (hF : ∀ wx, Below w.heap.size w wx → Calls Try.prog F #[.slice D0 n0 k0, c1, c2] wx (SelfPost (.slice D0 n0 k0) wx)) :
    Calls Try.prog 51 #[gv p (.slice (some ⟨g, 0, none⟩) vs.length vs.length) (.slice E m d), .func (.func F) #[] #[c1, c2]] w (ChgSPost w (gv p (.slice (some ⟨g, 0, none⟩) vs.length vs.length) (.slice E m d)) g vs) := by
  have rs := MS.start w p (.slice (some ⟨g, 0, none⟩) vs.length vs.length) (.slice E m d)
  have HS := Lib.hid rs
  have HF := Lib.hid hF
  have HT := Lib.hid ht
  have HP := Lib.hid hp
  have hgl := ht.lt
  clear rs hF ht hp
  unfold gv gcs
  go_enter Try.func51, Try.ntmps51
  go_upto_region 1 with fail
  refine wp_world (fun wq => MS w p (.slice (some ⟨g, 0, none⟩) vs.length vs.length) (.slice E m d) wq) HS.out ?_
  clear HS
  intro w2 rs
  have hT2 := HT.out.below rs.below hgl
  have t0 := hT2.cell y
  rw [List.getElem?_toArray, hv] at t0
  have u3 := rs.box.cells.c3
  have u13 := rs.box.cells.c13
  rw [HP.out] at u3
  have hyi : (y : Int) < (vs.length : Int) := by omega
  have hz0 : w.heap.size < w2.heap.size := rs.box.lt
  have hgz : g < w2.heap.size := by omega
  go_upto_region 2 with fail
  have rsd := rs.drew
  have v3 := rsd.box.cells.c3
  have v13 := rsd.box.cells.c13
  rw [HP.out] at v3
  have hTd : Held w2.drew g 46 vs.toArray := hT2
  have t1 := hTd.cell y
  rw [List.getElem?_toArray, hv] at t1
  have HV := Lib.hid hv
  clear hv u3 u13 t0
  have HR := Lib.hid rsd
  have HTd := Lib.hid hTd
  clear rs rsd hT2 hTd
  go_cut [] (fun wx => Box wx w.heap.size p (.slice (some ⟨g, 0, none⟩) vs.length vs.length) (.slice E m d) ∧ Box wx (w.heap.size + 1) zeroNm nilV nilV ∧ Held wx g 46 vs.toArray ∧ Chg g w wx)
  case first =>
    refine wp_region_held_drew (S := fun w' => w'.cell? ⟨w.heap.size, 3, none⟩ = some (.int .i64 y) ∧ w'.cell? ⟨w.heap.size, 13, none⟩ = some (.slice (some ⟨g, 0, none⟩) vs.length vs.length)) (by kernel_rfl) (by exact ⟨v3, v13⟩) (fun hH0 => ?_)
    refine wpAnyH_take (i := 0) (oi := _) (v := .pointer (some ⟨w.heap.size, 13, none⟩)) rfl (by kernel_rfl) (by kernel_rfl) (by kernel_rfl) (fun _ _ _ h => h) (Or.inl ⟨by rfl, ?_⟩) hH0 ?_
    · intro wv hSw
      try dsimp only at hSw
      go_simp
    change wpAnyH _ _ _ _ _ _ _ (Act.put _ (some 16) (.pointer (some ⟨w.heap.size, 13, none⟩))) _
    simp only [Act.put, List.setIfInBounds_toArray, List.set_cons_zero, List.set_cons_succ]
    refine wpAnyH_take (i := 1) (oi := _) (v := .slice (some ⟨g, 0, none⟩) vs.length vs.length) rfl (by kernel_rfl) (by kernel_rfl) (by kernel_rfl) (fun _ _ _ h => h) (Or.inl ⟨by rfl, ?_⟩) hH0 ?_
    · intro wv hSw
      try dsimp only at hSw
      go_simp
    change wpAnyH _ _ _ _ _ _ _ (Act.put _ (some 17) (.slice (some ⟨g, 0, none⟩) vs.length vs.length)) _
    simp only [Act.put, List.setIfInBounds_toArray, List.set_cons_zero, List.set_cons_succ]
    refine wpAnyH_take (i := 2) (oi := _) (v := .pointer (some ⟨w.heap.size, 3, none⟩)) rfl (by kernel_rfl) (by kernel_rfl) (by kernel_rfl) (fun _ _ _ h => h) (Or.inl ⟨by rfl, ?_⟩) hH0 ?_
    · intro wv hSw
      try dsimp only at hSw
      go_simp
    change wpAnyH _ _ _ _ _ _ _ (Act.put _ (some 18) (.pointer (some ⟨w.heap.size, 3, none⟩))) _
    simp only [Act.put, List.setIfInBounds_toArray, List.set_cons_zero, List.set_cons_succ]
    refine wpAnyH_take (i := 3) (oi := _) (v := .int .i64 y) rfl (by kernel_rfl) (by kernel_rfl) (by kernel_rfl) (fun _ _ _ h => h) (Or.inl ⟨by rfl, ?_⟩) hH0 ?_
    · intro wv hSw
      try dsimp only at hSw
      go_simp
    change wpAnyH _ _ _ _ _ _ _ (Act.put _ (some 19) (.int .i64 y)) _
    simp only [Act.put, List.setIfInBounds_toArray, List.set_cons_zero, List.set_cons_succ]
    refine wpAnyH_take (i := 4) (oi := _) (v := .func (.func F) #[] #[c1, c2]) rfl (by kernel_rfl) (by kernel_rfl) (by kernel_rfl) (fun _ _ _ h => h) (Or.inl ⟨by rfl, ?_⟩) hH0 ?_
    · intro wv hSw
      try dsimp only at hSw
      go_simp
    change wpAnyH _ _ _ _ _ _ _ (Act.put _ (some 20) (.func (.func F) #[] #[c1, c2])) _
    simp only [Act.put, List.setIfInBounds_toArray, List.set_cons_zero, List.set_cons_succ]
    refine wpAnyH_take (i := 5) (oi := _) (v := .pointer (some ⟨w.heap.size, 13, none⟩)) rfl (by kernel_rfl) (by kernel_rfl) (by kernel_rfl) (fun _ _ _ h => h) (Or.inl ⟨by rfl, ?_⟩) hH0 ?_
    · intro wv hSw
      try dsimp only at hSw
      go_simp
    change wpAnyH _ _ _ _ _ _ _ (Act.put _ (some 21) (.pointer (some ⟨w.heap.size, 13, none⟩))) _
    simp only [Act.put, List.setIfInBounds_toArray, List.set_cons_zero, List.set_cons_succ]
    refine wpAnyH_take (i := 6) (oi := _) (v := .slice (some ⟨g, 0, none⟩) vs.length vs.length) rfl (by kernel_rfl) (by kernel_rfl) (by kernel_rfl) (fun _ _ _ h => h) (Or.inl ⟨by rfl, ?_⟩) hH0 ?_
    · intro wv hSw
      try dsimp only at hSw
      go_simp
    change wpAnyH _ _ _ _ _ _ _ (Act.put _ (some 22) (.slice (some ⟨g, 0, none⟩) vs.length vs.length)) _
    simp only [Act.put, List.setIfInBounds_toArray, List.set_cons_zero, List.set_cons_succ]
    refine wpAnyH_take (i := 7) (oi := _) (v := .pointer (some ⟨w.heap.size, 3, none⟩)) rfl (by kernel_rfl) (by kernel_rfl) (by kernel_rfl) (fun _ _ _ h => h) (Or.inl ⟨by rfl, ?_⟩) hH0 ?_
    · intro wv hSw
      try dsimp only at hSw
      go_simp
    change wpAnyH _ _ _ _ _ _ _ (Act.put _ (some 23) (.pointer (some ⟨w.heap.size, 3, none⟩))) _
    simp only [Act.put, List.setIfInBounds_toArray, List.set_cons_zero, List.set_cons_succ]
    refine wpAnyH_take (i := 8) (oi := _) (v := .int .i64 y) rfl (by kernel_rfl) (by kernel_rfl) (by kernel_rfl) (fun _ _ _ h => h) (Or.inl ⟨by rfl, ?_⟩) hH0 ?_
    · intro wv hSw
      try dsimp only at hSw
      go_simp
    change wpAnyH _ _ _ _ _ _ _ (Act.put _ (some 24) (.int .i64 y)) _
    simp only [Act.put, List.setIfInBounds_toArray, List.set_cons_zero, List.set_cons_succ]
    refine wpAnyH_take (i := 9) (oi := _) (v := .pointer (some ⟨g, y, none⟩)) rfl (by kernel_rfl) (by kernel_rfl) (by kernel_rfl) (fun _ _ _ h => h) (Or.inl ⟨by rfl, ?_⟩) hH0 ?_
    · intro wv hSw
      try dsimp only at hSw
      go_simp
    change wpAnyH _ _ _ _ _ _ _ (Act.put _ (some 25) (.pointer (some ⟨g, y, none⟩))) _
    simp only [Act.put, List.setIfInBounds_toArray, List.set_cons_zero, List.set_cons_succ]
    refine wpAnyH_ready (rs := [10]) (by kernel_rfl) (by simp) ?_
    refine AllReadyH.cons (o := _) rfl (fun K hK => ?_) AllReadyH.nil
    go_simp
    refine hK.out _ _ (by exact ⟨v3, v13⟩) (fun hH1 => ?_)
    clear hK K
    try simp only [Act.put, List.setIfInBounds_toArray, List.set_cons_zero, List.set_cons_succ]
    refine wpAnyH_ready (rs := [11]) (by kernel_rfl) (by simp) ?_
    refine AllReadyH.cons (o := _) rfl (fun K hK => ?_) AllReadyH.nil
    go_simp
    refine (HF.out _ HR.out.below).mono ?_
    rintro e w3 ⟨rfl, hw3⟩
    have b3 : Below w2.drew.heap.size w2.drew w3 := by rw [← hw3]; exact Below.refl _ _
    clear hw3
    have x3 := (HR.out.box.below b3 HR.out.box.lt)
    have z3 := x3.cells.c3
    have z13 := x3.cells.c13
    rw [HP.out] at z3
    have t3 := HTd.out.below b3 hgz
    have q3 := t3.cell y
    rw [List.getElem?_toArray, HV.out] at q3
    have f3 := t3.frozen
    go_wp2_with fail
    refine hK.out _ _ (by exact ⟨z3, z13⟩) (fun hH2 => ?_)
    clear hK K
    try simp only [Act.put, List.setIfInBounds_toArray, List.set_cons_zero, List.set_cons_succ]
    refine wpAnyH_take (i := 12) (oi := _) (v := .pointer (some ⟨g, y, none⟩)) rfl (by kernel_rfl) (by kernel_rfl) (by kernel_rfl) (fun _ _ _ h => h) (Or.inl ⟨by rfl, ?_⟩) hH2 ?_
    · intro wv hSw
      try dsimp only at hSw
      go_simp
    change wpAnyH _ _ _ _ _ _ _ (Act.put _ (some 28) (.pointer (some ⟨g, y, none⟩))) _
    simp only [Act.put, List.setIfInBounds_toArray, List.set_cons_zero, List.set_cons_succ]
    refine wpAnyH_ready (rs := [13]) (by kernel_rfl) (by simp) ?_
    refine AllReadyH.cons (o := _) rfl (fun K hK => ?_) AllReadyH.nil
    go_simp
    refine hK.out _ _ (by exact ⟨(cell_far (by exact (by omega : w.heap.size ≠ g)) _).trans z3, (cell_far (by exact (by omega : w.heap.size ≠ g)) _).trans z13⟩) (fun hH3 => ?_)
    clear hK K
    try simp only [Act.put, List.setIfInBounds_toArray, List.set_cons_zero, List.set_cons_succ]
    refine wpAnyH_done (by kernel_rfl) ?_ _
    clear hH0 hH1 hH2 hH3
    clear v3 v13 t1 z3 z13 q3 f3
    all_goals go_wp2_with fail
    all_goals go_meet
    all_goals
      have hset := t3.set1 y (.slice D0 n0 k0)
      rw [List.setIfInBounds_toArray, set_self HV.out] at hset
      exact ⟨x3.far (q := ⟨g, y, none⟩) (by exact (by omega : w.heap.size ≠ g)) _, (HR.out.ans.below b3 HR.out.ans.lt).far (q := ⟨g, y, none⟩) (by exact (by omega : w.heap.size + 1 ≠ g)) _, hset, (Chg.of (HR.out.below.trans (b3.mono HR.out.below.size)) hgl).set y _⟩
  case rest =>
    clear v3 v13 t1 HV HP HR HTd HF HT hE
    obtain ⟨xg, xa, t3, ch⟩ := hcut
    go_wp2_with (first
      | (with_reducible refine wpList_loadB xg (x := .tmp 2) ?_ ?_ ?_ ?_
         · with_reducible rfl
         · rfl
         · rfl)
      | (with_reducible refine wpList_storeA xa (x := .tmp 4) (y := .tmp 29) (p := p) (D := some ⟨g, 0, none⟩) (E := E) (n := vs.length) (c := vs.length) (m := m) (d := d) ?_ ?_ ?_ ?_ ?_
         · with_reducible rfl
         · rfl
         · rfl
         · rfl))
    refine bodyPost_ret (v := gv p (.slice (some ⟨g, 0, none⟩) vs.length vs.length) (.slice E m d)) (results_cell_row (P := Try.prog) Try.results51 _ _ (w.heap.size + 1) 35 _ (0, 0) _ rfl (xa.setRow p _ _) Try.underlying35 rfl box_size) rfl ?_
    exact ⟨rfl, (setRow_other _ _ _ _ (by omega)).trans t3, ch.setRow hgl (Nat.le_succ _) _⟩

theorem changedQ_any (F : Nat) (c1 c2 : Value) (p : Nm) (g h : Nat) (L Bk : List (List C)) (y : Nat) (B : Nat) (w : World) (hs : OScr B w g h L Bk) (hp : p.y = y) (hy : y < L.length)
    (hE : ∀ args w, (callFunc F args).run Try.prog w = .ok (.enter F args) w)
    (hF : ∀ wx D n c, Below w.heap.size w wx → Calls Try.prog F #[.slice D n c, c1, c2] wx (SelfPost (.slice D n c) wx)) :
    Calls Try.prog 51 #[ov p g h L Bk, .func (.func F) #[] #[c1, c2]] w (TurnPost B g h w p L Bk) := by
  obtain ⟨vs, hv, hg, hr⟩ := hs.rows
  have hvy : y < vs.length := by rw [hr.1]; exact hy
  obtain ⟨D, c, e, hc, hrow⟩ := hr.2 y hvy hy
  have := changedS_any F c1 c2 p g (some ⟨h, 0, none⟩) Bk.length Bk.length vs y D L[y].length c w hv hp hvy (by rw [List.getElem?_eq_getElem hvy, e]) hE (fun wx hb => hF wx D _ c hb)
  rw [hr.1] at this
  refine this.mono ?_
  rintro e w' ⟨rfl, h1, h4⟩
  refine ⟨rfl, ⟨⟨vs, h1, hg, RowsV.chg hv hr h4 hr⟩, ?_, hs.ne⟩, h4⟩
  obtain ⟨us, k1, k2, k3⟩ := hs.back
  exact ⟨us, h4.held k1 (Ne.symm hs.ne), k2, RowsV.chg hv hr h4 k3⟩

set_option maxHeartbeats 1000000 in
theorem clearFn_no (D : Option Addr) (n c : Nat) (k kp : Nat) (part : Int) (w : World) (hr : w.cell? ⟨kp, 0, none⟩ = some (.int .i64 part)) (h0 : part ≠ 0) (h1 : part ≠ 1) (h2 : part ≠ 2) :
    Calls Try.prog 138 #[.slice D n c, .pointer (some ⟨kp, 0, none⟩), .pointer (some ⟨k, 0, none⟩)] w (SelfPost (.slice D n c) w) := by
  go_enter Try.func138, Try.ntmps138
  go_wp2_with fail
  go_ret
  exact ⟨rfl, rfl⟩

set_option maxHeartbeats 4000000 in
theorem rowCleared_no (B : Nat) (p : Nm) (g h : Nat) (L Bk : List (List C)) (part : Int) (y : Nat) (w : World) (hs : OScr B w g h L Bk) (hy : p.y = y) (hyl : y < L.length) (h0 : part ≠ 0) (h1 : part ≠ 1) (h2 : part ≠ 2) :
    Calls Try.prog 105 #[ov p g h L Bk, .int .i64 part] w (TurnPost B g h w p L Bk) := by
  have HS := Lib.hid (PS.start w 3 (.int .i64 part) p (.slice (some ⟨g, 0, none⟩) L.length L.length) (.slice (some ⟨h, 0, none⟩) Bk.length Bk.length))
  have HB := Lib.hid (start_below w (.cells (gcs p (.slice (some ⟨g, 0, none⟩) L.length L.length) (.slice (some ⟨h, 0, none⟩) Bk.length Bk.length)) 35) (.cells #[.int .i64 part] 3) (.cells (gcs zeroNm nilV nilV) 35))
  have hgl := hs.rows.lt
  have T : Hid (∀ (wx : World), PS w 3 (.int .i64 part) p (.slice (some ⟨g, 0, none⟩) L.length L.length) (.slice (some ⟨h, 0, none⟩) Bk.length Bk.length) wx → OScr B wx g h L Bk → Calls Try.prog 51 #[gv p (.slice (some ⟨g, 0, none⟩) L.length L.length) (.slice (some ⟨h, 0, none⟩) Bk.length Bk.length), .func (.func 138) #[] #[.pointer (some ⟨w.heap.size + 1, 0, none⟩), .pointer (some ⟨w.heap.size, 0, none⟩)]] wx (TurnPost B g h wx p L Bk)) := fun wx ps hs =>
    changedQ_any 138 _ _ p g h L Bk y B wx hs hy hyl enter104 fun wy D n c hb => clearFn_no D n c _ _ part wy ((ps.cell.below hb ps.cell.lt).cell 0) h0 h1 h2
  have HH := Lib.hid hs
  clear hs hy hyl h0 h1 h2
  unfold ov gv gcs
  go_enter Try.func105, Try.ntmps105
  go_upto_region 1 with fail
  refine wp_world (fun wq => PS w 3 (.int .i64 part) p (.slice (some ⟨g, 0, none⟩) L.length L.length) (.slice (some ⟨h, 0, none⟩) Bk.length Bk.length) wq ∧ Below w.heap.size w wq) ⟨HS.out, HB.out⟩ ?_
  clear HS HB
  rintro w2 ⟨ps, b2⟩
  have xg := ps.box
  go_wp2_with (first
    | (with_reducible refine wpList_loadB xg (x := .tmp 2) ?_ ?_ ?_ ?_
       · with_reducible rfl
       · rfl
       · rfl)
    | (go_at_call 51
       refine (T.out w2 ps (HH.out.below b2 (Nat.le_refl _))).mono ?_
       rintro e w3 ⟨rfl, s3, c3⟩
       have a3 := (ps.chg c3 (.inl hgl)).ans)
    | (with_reducible refine wpList_storeA a3 (x := .tmp 4) (y := .tmp 7) (p := p) (D := some ⟨g, 0, none⟩) (E := some ⟨h, 0, none⟩) (n := L.length) (c := L.length) (m := Bk.length) (d := Bk.length) ?_ ?_ ?_ ?_ ?_
       · with_reducible rfl
       · rfl
       · rfl
       · rfl))
  refine bodyPost_ret (v := gv p (.slice (some ⟨g, 0, none⟩) L.length L.length) (.slice (some ⟨h, 0, none⟩) Bk.length Bk.length)) (results_cell_row (P := Try.prog) Try.results105 _ _ (w.heap.size + 2) 35 _ (0, 0) _ rfl (a3.setRow _ _ _) Try.underlying35 rfl box_size) rfl ?_
  exact ⟨rfl, s3.bput a3 _, (Chg.comp b2 (.inl rfl) hgl c3).setRow hgl (by omega) _⟩

/-- No row has been turned. -/
structure NoSt (B : Nat) (w : World) (p : Nm) (g h : Nat) (L Bk : List (List C)) (wr : World) : Prop where
  box : Box wr w.heap.size p (.slice (some ⟨g, 0, none⟩) L.length L.length) (.slice (some ⟨h, 0, none⟩) Bk.length Bk.length)
  ans : Box wr (w.heap.size + 1) zeroNm nilV nilV
  scr : OScr B wr g h L Bk
  chg : Chg g w wr
def NoRel (B : Nat) (w : World) (p : Nm) (g h : Nat) (L Bk : List (List C)) (i : Value) (wr : World) : Prop := ∃ k : Nat, i = .int .i64 (k : Int) ∧ k ≤ L.length ∧ NoSt B w p g h L Bk wr

set_option maxHeartbeats 8000000 in
theorem screenCleared_no (B : Nat) (p : Nm) (g h : Nat) (L Bk : List (List C)) (part : Int) (y : Nat) (w : World) (hs : OScr B w g h L Bk) (hy : p.y = y) (hyl : y < L.length) (hlen : L.length ≤ 1000) (h0 : part ≠ 0) (h1 : part ≠ 1) (h2 : part ≠ 2) :
    Calls Try.prog 104 #[ov p g h L Bk, .int .i64 part] w (TurnPost B g h w p L Bk) := by
  have HS := Lib.hid (MS.start w p (.slice (some ⟨g, 0, none⟩) L.length L.length) (.slice (some ⟨h, 0, none⟩) Bk.length Bk.length))
  have hgl := hs.rows.lt
  have T : Hid (∀ (wx : World), OScr B wx g h L Bk → Calls Try.prog 105 #[gv p (.slice (some ⟨g, 0, none⟩) L.length L.length) (.slice (some ⟨h, 0, none⟩) Bk.length Bk.length), .int .i64 part] wx (TurnPost B g h wx p L Bk)) := fun wx hs => rowCleared_no B p g h L Bk part y wx hs hy hyl h0 h1 h2
  have HH := Lib.hid hs
  clear hs hy hyl
  unfold ov gv gcs
  go_enter Try.func104, Try.ntmps104
  go_upto_region 1 with fail
  refine wp_world (fun wq => MS w p (.slice (some ⟨g, 0, none⟩) L.length L.length) (.slice (some ⟨h, 0, none⟩) Bk.length Bk.length) wq) HS.out ?_
  clear HS
  intro w2 ms
  have xg := ms.box
  go_upto_region 2 with (first
    | (with_reducible refine wpList_loadB xg (x := .tmp 2) ?_ ?_ ?_ ?_
       · with_reducible rfl
       · rfl
       · rfl)
    | (go_at_call 105
       refine (T.out w2 (HH.out.below ms.below (Nat.le_refl _))).mono ?_
       rintro e w3 ⟨rfl, s3, c3⟩
       have x3 := c3.box ms.box (by omega)
       have a3 := c3.box ms.ans (by omega))
    | (with_reducible refine wpList_storeA x3 (x := .tmp 2) (y := .tmp 9) (p := p) (D := some ⟨g, 0, none⟩) (E := some ⟨h, 0, none⟩) (n := L.length) (c := L.length) (m := Bk.length) (d := Bk.length) ?_ ?_ ?_ ?_ ?_
       · with_reducible rfl
       · rfl
       · rfl
       · rfl))
  refine wp_world (fun wq => NoSt B w p g h L Bk wq) ⟨x3.setRow _ _ _, (setRow_other _ _ _ _ (by omega)).trans a3, s3.bput x3 _, (Chg.comp ms.below (.inl rfl) hgl c3).setRow hgl (Nat.le_refl _) _⟩ ?_
  clear ms xg x3 a3 s3 c3 T HH
  intro w4 st4
  have cc13 := st4.box.cells.c13
  go_wp2_with fail
  go_loopw [13] (NoRel B w p g h L Bk) (fun i _ => L.length - (intOf i).toNat)
  case atStart => exact ⟨0, rfl, Nat.zero_le _, st4⟩
  case round =>
    clear st4 cc13
    obtain ⟨k, rfl, hk, st⟩ := hrel
    by_cases hlt : k < L.length
    · have hki : (k : Int) < (L.length : Int) := by omega
      obtain ⟨b, off, E, ce, e0, _, hbl, _, hcell, hce, hrow⟩ := st.scr.rows.lines.at k hlt
      cases e0
      rw [Nat.zero_add] at hcell
      have HST := Lib.hid st
      clear hrow st
      go_wp2_with fail
      go_roundw
      case rel => exact ⟨k + 1, by go_num, by omega, HST.out⟩
      case measure => simp [intOf]; omega
    · have hki : ¬ (k : Int) < (L.length : Int) := by omega
      have x5 := st.box
      have a5 := st.ans
      go_wp2_with (first
        | (with_reducible refine wpList_loadB x5 (x := .tmp 2) ?_ ?_ ?_ ?_
           · with_reducible rfl
           · rfl
           · rfl)
        | (with_reducible refine wpList_storeA a5 (x := .tmp 4) (y := .tmp 49) (p := p) (D := some ⟨g, 0, none⟩) (E := some ⟨h, 0, none⟩) (n := L.length) (c := L.length) (m := Bk.length) (d := Bk.length) ?_ ?_ ?_ ?_ ?_
           · with_reducible rfl
           · rfl
           · rfl
           · rfl))
      refine bodyPost_ret (v := gv p (.slice (some ⟨g, 0, none⟩) L.length L.length) (.slice (some ⟨h, 0, none⟩) Bk.length Bk.length)) (results_cell_row (P := Try.prog) Try.results104 _ _ (w.heap.size + 1) 35 _ (0, 0) _ rfl (a5.setRow _ _ _) Try.underlying35 rfl box_size) rfl ?_
      exact ⟨rfl, st.scr.bput a5 _, st.chg.setRow hgl (Nat.le_succ _) _⟩
end Go.Proofs.Ytpcpmeihebgncaa
