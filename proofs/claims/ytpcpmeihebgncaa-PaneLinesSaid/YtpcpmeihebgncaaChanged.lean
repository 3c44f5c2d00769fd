/-
  What changed of package acts answers: the cursor's row is what the function that is handed in makes of it, in its place. Conditions: the cursor's row is there, the table of rows is one block.
-/
import Derived.Test.YtpcpmeihebgncaaChg
import Derived.Deep.RegionHeldLaw
namespace Go.Proofs.Ytpcpmeihebgncaa
open Go.RowKit
set_option maxRecDepth 100000

/-- Row y of table g is another one. -/
def ChgPost (w : World) (v : Value) (g y : Nat) (vs : List Value) (l : List C) (e : Ending) (w' : World) : Prop :=
  e = .returned v ∧ ∃ D c, l.length ≤ c ∧ Held w' g 46 (vs.set y (.slice D l.length c)).toArray ∧ RowAt w.heap.size w' D l ∧ Chg g w w'

set_option maxHeartbeats 4000000 in
theorem changed_any (F : Nat) (c1 c2 : Value) (p : Nm) (g : Nat) (E : Option Addr) (m d : Nat) (vs : List Value) (y : Nat) (D0 : Option Addr) (n0 k0 : Nat) (l : List C) (w : World)
    (ht : Held w g 46 vs.toArray) (hp : p.y = y) (hy : y < vs.length) (hv : vs[y]? = some (.slice D0 n0 k0))
    (hE : ∀ args w, (callFunc F args).run Try.prog w = .ok (.enter F args) w)
    (hF : ∀ wx, Below w.heap.size w wx → Calls Try.prog F #[.slice D0 n0 k0, c1, c2] wx (VPost wx l)) :
    Calls Try.prog 51 #[gv p (.slice (some ⟨g, 0, none⟩) vs.length vs.length) (.slice E m d), .func (.func F) #[] #[c1, c2]] w (ChgPost w (gv p (.slice (some ⟨g, 0, none⟩) vs.length vs.length) (.slice E m d)) g y vs l) := by
  have rs := MS.start w p (.slice (some ⟨g, 0, none⟩) vs.length vs.length) (.slice E m d)
  have HS := Lib.hid rs
  have HF := Lib.hid hF
  have HT := Lib.hid ht
  have HP := Lib.hid hp
  have hgl := ht.lt
  clear rs hF ht hp
  unfold gv gcs
  go_enter Try.func51, Try.ntmps51
  go_upto_region 1 with fail
  refine wp_world (fun wq => MS w p (.slice (some ⟨g, 0, none⟩) vs.length vs.length) (.slice E m d) wq) HS.out ?_
  clear HS
  intro w2 rs
  have hT2 := HT.out.below rs.below hgl
  have t0 := hT2.cell y
  rw [List.getElem?_toArray, hv] at t0
  have u3 := rs.box.cells.c3
  have u13 := rs.box.cells.c13
  rw [HP.out] at u3
  have hyi : (y : Int) < (vs.length : Int) := by omega
  have hz0 : w.heap.size < w2.heap.size := rs.box.lt
  have hgz : g < w2.heap.size := by omega
  go_upto_region 2 with fail
  have rsd := rs.drew
  have v3 := rsd.box.cells.c3
  have v13 := rsd.box.cells.c13
  rw [HP.out] at v3
  have hTd : Held w2.drew g 46 vs.toArray := hT2
  have t1 := hTd.cell y
  rw [List.getElem?_toArray, hv] at t1
  have HV := Lib.hid hv
  clear hv u3 u13 t0
  have HR := Lib.hid rsd
  have HTd := Lib.hid hTd
  clear rs rsd hT2 hTd
  go_cut [] (fun wx => ∃ D c, Box wx w.heap.size p (.slice (some ⟨g, 0, none⟩) vs.length vs.length) (.slice E m d) ∧ Box wx (w.heap.size + 1) zeroNm nilV nilV ∧ l.length ≤ c ∧ Held wx g 46 (vs.set y (.slice D l.length c)).toArray ∧ RowAt (w.heap.size + 2) wx D l ∧ Chg g w wx)
  case first =>
    refine wp_region_held_drew (S := fun w' => w'.cell? ⟨w.heap.size, 3, none⟩ = some (.int .i64 y) ∧ w'.cell? ⟨w.heap.size, 13, none⟩ = some (.slice (some ⟨g, 0, none⟩) vs.length vs.length)) (by kernel_rfl) (by exact ⟨v3, v13⟩) (fun hH0 => ?_)
    refine wpAnyH_take (i := 0) (oi := _) (v := .pointer (some ⟨w.heap.size, 13, none⟩)) rfl (by kernel_rfl) (by kernel_rfl) (by kernel_rfl) (fun _ _ _ h => h) (Or.inl ⟨by rfl, ?_⟩) hH0 ?_
    · intro wv hSw
      try dsimp only at hSw
      go_simp
    change wpAnyH _ _ _ _ _ _ _ (Act.put _ (some 16) (.pointer (some ⟨w.heap.size, 13, none⟩))) _
    simp only [Act.put, List.setIfInBounds_toArray, List.set_cons_zero, List.set_cons_succ]
    refine wpAnyH_take (i := 1) (oi := _) (v := .slice (some ⟨g, 0, none⟩) vs.length vs.length) rfl (by kernel_rfl) (by kernel_rfl) (by kernel_rfl) (fun _ _ _ h => h) (Or.inl ⟨by rfl, ?_⟩) hH0 ?_
    · intro wv hSw
      try dsimp only at hSw
      go_simp
    change wpAnyH _ _ _ _ _ _ _ (Act.put _ (some 17) (.slice (some ⟨g, 0, none⟩) vs.length vs.length)) _
    simp only [Act.put, List.setIfInBounds_toArray, List.set_cons_zero, List.set_cons_succ]
    refine wpAnyH_take (i := 2) (oi := _) (v := .pointer (some ⟨w.heap.size, 3, none⟩)) rfl (by kernel_rfl) (by kernel_rfl) (by kernel_rfl) (fun _ _ _ h => h) (Or.inl ⟨by rfl, ?_⟩) hH0 ?_
    · intro wv hSw
      try dsimp only at hSw
      go_simp
    change wpAnyH _ _ _ _ _ _ _ (Act.put _ (some 18) (.pointer (some ⟨w.heap.size, 3, none⟩))) _
    simp only [Act.put, List.setIfInBounds_toArray, List.set_cons_zero, List.set_cons_succ]
    refine wpAnyH_take (i := 3) (oi := _) (v := .int .i64 y) rfl (by kernel_rfl) (by kernel_rfl) (by kernel_rfl) (fun _ _ _ h => h) (Or.inl ⟨by rfl, ?_⟩) hH0 ?_
    · intro wv hSw
      try dsimp only at hSw
      go_simp
    change wpAnyH _ _ _ _ _ _ _ (Act.put _ (some 19) (.int .i64 y)) _
    simp only [Act.put, List.setIfInBounds_toArray, List.set_cons_zero, List.set_cons_succ]
    refine wpAnyH_take (i := 4) (oi := _) (v := .func (.func F) #[] #[c1, c2]) rfl (by kernel_rfl) (by kernel_rfl) (by kernel_rfl) (fun _ _ _ h => h) (Or.inl ⟨by rfl, ?_⟩) hH0 ?_
    · intro wv hSw
      try dsimp only at hSw
      go_simp
    change wpAnyH _ _ _ _ _ _ _ (Act.put _ (some 20) (.func (.func F) #[] #[c1, c2])) _
    simp only [Act.put, List.setIfInBounds_toArray, List.set_cons_zero, List.set_cons_succ]
    refine wpAnyH_take (i := 5) (oi := _) (v := .pointer (some ⟨w.heap.size, 13, none⟩)) rfl (by kernel_rfl) (by kernel_rfl) (by kernel_rfl) (fun _ _ _ h => h) (Or.inl ⟨by rfl, ?_⟩) hH0 ?_
    · intro wv hSw
      try dsimp only at hSw
      go_simp
    change wpAnyH _ _ _ _ _ _ _ (Act.put _ (some 21) (.pointer (some ⟨w.heap.size, 13, none⟩))) _
    simp only [Act.put, List.setIfInBounds_toArray, List.set_cons_zero, List.set_cons_succ]
    refine wpAnyH_take (i := 6) (oi := _) (v := .slice (some ⟨g, 0, none⟩) vs.length vs.length) rfl (by kernel_rfl) (by kernel_rfl) (by kernel_rfl) (fun _ _ _ h => h) (Or.inl ⟨by rfl, ?_⟩) hH0 ?_
    · intro wv hSw
      try dsimp only at hSw
      go_simp
    change wpAnyH _ _ _ _ _ _ _ (Act.put _ (some 22) (.slice (some ⟨g, 0, none⟩) vs.length vs.length)) _
    simp only [Act.put, List.setIfInBounds_toArray, List.set_cons_zero, List.set_cons_succ]
    refine wpAnyH_take (i := 7) (oi := _) (v := .pointer (some ⟨w.heap.size, 3, none⟩)) rfl (by kernel_rfl) (by kernel_rfl) (by kernel_rfl) (fun _ _ _ h => h) (Or.inl ⟨by rfl, ?_⟩) hH0 ?_
    · intro wv hSw
      try dsimp only at hSw
      go_simp
    change wpAnyH _ _ _ _ _ _ _ (Act.put _ (some 23) (.pointer (some ⟨w.heap.size, 3, none⟩))) _
    simp only [Act.put, List.setIfInBounds_toArray, List.set_cons_zero, List.set_cons_succ]
    refine wpAnyH_take (i := 8) (oi := _) (v := .int .i64 y) rfl (by kernel_rfl) (by kernel_rfl) (by kernel_rfl) (fun _ _ _ h => h) (Or.inl ⟨by rfl, ?_⟩) hH0 ?_
    · intro wv hSw
      try dsimp only at hSw
      go_simp
    change wpAnyH _ _ _ _ _ _ _ (Act.put _ (some 24) (.int .i64 y)) _
    simp only [Act.put, List.setIfInBounds_toArray, List.set_cons_zero, List.set_cons_succ]
    refine wpAnyH_take (i := 9) (oi := _) (v := .pointer (some ⟨g, y, none⟩)) rfl (by kernel_rfl) (by kernel_rfl) (by kernel_rfl) (fun _ _ _ h => h) (Or.inl ⟨by rfl, ?_⟩) hH0 ?_
    · intro wv hSw
      try dsimp only at hSw
      go_simp
    change wpAnyH _ _ _ _ _ _ _ (Act.put _ (some 25) (.pointer (some ⟨g, y, none⟩))) _
    simp only [Act.put, List.setIfInBounds_toArray, List.set_cons_zero, List.set_cons_succ]
    refine wpAnyH_ready (rs := [10]) (by kernel_rfl) (by simp) ?_
    refine AllReadyH.cons (o := _) rfl (fun K hK => ?_) AllReadyH.nil
    go_simp
    refine hK.out _ _ (by exact ⟨v3, v13⟩) (fun hH1 => ?_)
    clear hK K
    try simp only [Act.put, List.setIfInBounds_toArray, List.set_cons_zero, List.set_cons_succ]
    refine wpAnyH_ready (rs := [11]) (by kernel_rfl) (by simp) ?_
    refine AllReadyH.cons (o := _) rfl (fun K hK => ?_) AllReadyH.nil
    go_simp
    refine (HF.out _ HR.out.below).mono ?_
    rintro e w3 ⟨D3, c3, rfl, hc3, r3, b3⟩
    have x3 := (HR.out.box.below b3 HR.out.box.lt)
    have z3 := x3.cells.c3
    have z13 := x3.cells.c13
    rw [HP.out] at z3
    have t3 := HTd.out.below b3 hgz
    have q3 := t3.cell y
    rw [List.getElem?_toArray, HV.out] at q3
    have f3 := t3.frozen
    go_wp2_with fail
    refine hK.out _ _ (by exact ⟨z3, z13⟩) (fun hH2 => ?_)
    clear hK K
    try simp only [Act.put, List.setIfInBounds_toArray, List.set_cons_zero, List.set_cons_succ]
    refine wpAnyH_take (i := 12) (oi := _) (v := .pointer (some ⟨g, y, none⟩)) rfl (by kernel_rfl) (by kernel_rfl) (by kernel_rfl) (fun _ _ _ h => h) (Or.inl ⟨by rfl, ?_⟩) hH2 ?_
    · intro wv hSw
      try dsimp only at hSw
      go_simp
    change wpAnyH _ _ _ _ _ _ _ (Act.put _ (some 28) (.pointer (some ⟨g, y, none⟩))) _
    simp only [Act.put, List.setIfInBounds_toArray, List.set_cons_zero, List.set_cons_succ]
    refine wpAnyH_ready (rs := [13]) (by kernel_rfl) (by simp) ?_
    refine AllReadyH.cons (o := _) rfl (fun K hK => ?_) AllReadyH.nil
    go_simp
    refine hK.out _ _ (by exact ⟨(cell_far (by exact (by omega : w.heap.size ≠ g)) _).trans z3, (cell_far (by exact (by omega : w.heap.size ≠ g)) _).trans z13⟩) (fun hH3 => ?_)
    clear hK K
    try simp only [Act.put, List.setIfInBounds_toArray, List.set_cons_zero, List.set_cons_succ]
    refine wpAnyH_done (by kernel_rfl) ?_ _
    clear hH0 hH1 hH2 hH3
    clear v3 v13 t1 z3 z13 q3 f3
    all_goals go_wp2_with fail
    all_goals go_meet
    all_goals
      have hset := t3.set1 y (.slice D3 l.length c3)
      rw [List.setIfInBounds_toArray] at hset
      refine ⟨D3, c3, x3.far (q := ⟨g, y, none⟩) (by exact (by omega : w.heap.size ≠ g)) _, (HR.out.ans.below b3 HR.out.ans.lt).far (q := ⟨g, y, none⟩) (by exact (by omega : w.heap.size + 1 ≠ g)) _, hc3, hset, ?_, ?_⟩
      · refine RowAt.far (r3.weak HR.out.ans.lt) (p := ⟨g, y, none⟩) (by exact (by omega : g < w.heap.size + 2)) _
      · exact (Chg.of (HR.out.below.trans (b3.mono HR.out.below.size)) hgl).set y _
  case rest =>
    clear v3 v13 t1 HV HP HR HTd HF HT hE
    obtain ⟨D3, c3, xg, xa, hc3, t3, r3, ch⟩ := hcut
    go_wp2_with (first
      | (with_reducible refine wpList_loadB xg (x := .tmp 2) ?_ ?_ ?_ ?_
         · with_reducible rfl
         · rfl
         · rfl)
      | (with_reducible refine wpList_storeA xa (x := .tmp 4) (y := .tmp 29) (p := p) (D := some ⟨g, 0, none⟩) (E := E) (n := vs.length) (c := vs.length) (m := m) (d := d) ?_ ?_ ?_ ?_ ?_
         · with_reducible rfl
         · rfl
         · rfl
         · rfl))
    refine bodyPost_ret (v := gv p (.slice (some ⟨g, 0, none⟩) vs.length vs.length) (.slice E m d)) (results_cell_row (P := Try.prog) Try.results51 _ _ (w.heap.size + 1) 35 _ (0, 0) _ rfl (xa.setRow p _ _) Try.underlying35 rfl box_size) rfl ?_
    refine ⟨rfl, D3, c3, hc3, ?_, ?_, ch.setRow hgl (Nat.le_succ _) _⟩
    · exact (setRow_other _ _ _ _ (by omega)).trans t3
    · exact (r3.eq (by simp) fun b _ _ hb _ _ => setRow_other _ _ _ _ (by omega)).weak (by omega)
end Go.Proofs.Ytpcpmeihebgncaa
