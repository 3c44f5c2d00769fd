/-
  What Swap of tree answers, of a tree. Conditions: trees of at most 63 nodes.
-/
import Derived.Test.YtojgmofpgefonaaC9
import Derived.Test.YtojgmofpgefonaaPlain5
namespace Go.Proofs.Ytojgmofpgefonaa
open Go.RowKit
set_option linter.unusedSimpArgs false
set_option linter.unusedVariables false
set_option maxRecDepth 100000

set_option maxHeartbeats 8000000 in
theorem swap_any (l : List N) (t : T) (D : Option Addr) (c B : Nat) (p1 p2 : Int) (w : World) (h : TabAt B w D (EN.flat l)) (ht : Is l t) (ha : p1 ∈ t.panes) (hb' : p2 ∈ t.panes) :
    Calls Try.prog 22 #[.agg #[.slice D l.length c], .int .i64 p1, .int .i64 p2] w (TrP w ((t.swap p1 p2).flat 0)) := by
  have hl : l.length ≤ 63 := by rw [ht.len]; exact ht.size
  have hl0 : 0 < l.length := by rw [ht.len]; exact t.size_pos
  have hap := T.panes_pos ht.ok p1 ha
  have hbp := T.panes_pos ht.ok p2 hb'
  obtain ⟨b, off, rfl, _, hbw, _⟩ := node_at h 0 _ (List.getElem?_eq_getElem hl0)
  have M0 := Lib.hid (TB.alloc (TB.new w (.slice (some ⟨b, off, none⟩) l.length c)) (.cells #[.slice none 0 0] 30))
  have C0 := Lib.hid (TB.new (w.alloc (.cells #[.slice (some ⟨b, off, none⟩) l.length c] 30)) (.slice none 0 0))
  have B0 := Lib.hid ((below_new w (.cells #[.slice (some ⟨b, off, none⟩) l.length c] 30)).alloc (by simp) (.cells #[.slice none 0 0] 30))
  have HA := Lib.hid (fun w' hb => find_any l (some ⟨b, off, none⟩) c B p1 w' (h.below (C := w.heap.size) hb (Nat.le_refl _)) (by omega) hap)
  have HB := Lib.hid (fun w' hb => find_any l (some ⟨b, off, none⟩) c B p2 w' (h.below (C := w.heap.size) hb (Nat.le_refl _)) (by omega) hbp)
  have HO := Lib.hid (fun w' hb => ok_any l (some ⟨b, off, none⟩) c B w' (h.below (C := w.heap.size) hb (Nat.le_refl _)) (by omega))
  rw [ht.treeF] at HO
  have HC := Lib.hid (fun w' hb => clone_any l b off c B w' (h.below (C := w.heap.size) hb (Nat.le_refl _)) (by omega))
  have HMa := Lib.hid (ht.mem ha)
  have HMb := Lib.hid (ht.mem hb')
  have HSw := Lib.hid (fun i k x y (hi : l[i]? = some x) (hx : x.p = p1) (hk : l[k]? = some y) (hy : y.p = p2) => (show (l.set i { x with p := p2 }).set k { (if i = k then { x with p := p2 } else y) with p := p1 } = (t.swap p1 p2).flat 0 from by
    rw [T.swap_set (by rw [ht.panes]; exact ht.un) hap hbp hi hx hk hy, T.flat_swap hap hbp, ← ht.eq]))
  clear h ht ha hb'
  generalize (t.swap p1 p2).flat 0 = lf at *
  have m0 := TB.cell M0.out
  have KW := Lib.hid B0.out.drew
  go_enter Try.func22, Try.ntmps22
  go_upto_region 1 with fail
  have m0l := TB.lt M0.out
  have c0l := TB.lt C0.out
  simp only [World.size_alloc] at m0l c0l
  have CZ := C0.out
  simp only [World.size_alloc] at CZ
  refine wp_world (fun wq => TB wq w.heap.size (.slice (some ⟨b, off, none⟩) l.length c) ∧ TB wq (w.heap.size + 1) (.slice none 0 0) ∧ Below w.heap.size w wq) ⟨M0.out, CZ, B0.out⟩ ?_
  clear m0 KW m0l c0l CZ M0 C0 B0
  rintro wq ⟨m7, z7, hb11⟩
  have kk0 := m7.cell
  have z7l := z7.lt
  have KW := Lib.hid hb11.drew
  have KZ := Lib.hid (show TB wq.drew w.heap.size (.slice (some ⟨b, off, none⟩) l.length c) ∧ TB wq.drew (w.heap.size + 1) (.slice none 0 0) from ⟨m7, z7⟩)
  have sq := hb11.size
  clear m7 z7 hb11
  refine wp_region_held_drew (S := fun wv => Below wq.heap.size wq.drew wv) (by kernel_rfl) (by exact Below.refl _ _) (fun hH0 => ?_)
  have kz : wq.heap.size ≤ wq.drew.heap.size ∧ wq.drew.heap.size ≤ wq.heap.size := ⟨Nat.le_refl _, Nat.le_refl _⟩
  have kk0 : wq.drew.cell? ⟨w.heap.size, 0, none⟩ = some (.slice (some ⟨b, off, none⟩) l.length c) := kk0
  generalize wq.drew = wy at *
  refine wpAnyH_take (i := 0) (oi := _) (v := .pointer (some ⟨w.heap.size, 0, none⟩)) rfl (by kernel_rfl) (by kernel_rfl) (by kernel_rfl) (fun _ _ _ h => h) (Or.inl ⟨by rfl, ?_⟩) hH0 ?_
  · intro wv hSw
    go_simp
  change wpAnyH _ _ _ _ _ _ _ (Act.put _ (some 11) (.pointer (some ⟨w.heap.size, 0, none⟩))) _
  simp only [Act.put, List.setIfInBounds_toArray, List.set_cons_zero, List.set_cons_succ]
  refine wpAnyH_take (i := 1) (oi := _) (v := .slice (some ⟨b, off, none⟩) l.length c) rfl (by kernel_rfl) (by kernel_rfl) (by kernel_rfl) (fun _ _ _ h => h) (Or.inl ⟨by rfl, ?_⟩) hH0 ?_
  · intro wv hSw
    replace hSw : Below wq.heap.size wy wv := hSw
    have z := (hSw.cell (p := ⟨w.heap.size, 0, none⟩) (by simp; omega)).trans kk0
    go_simp
  change wpAnyH _ _ _ _ _ _ _ (Act.put _ (some 12) (.slice (some ⟨b, off, none⟩) l.length c)) _
  simp only [Act.put, List.setIfInBounds_toArray, List.set_cons_zero, List.set_cons_succ]
  refine wpAnyH_take (i := 2) (oi := _) (v := .int .i64 p1) rfl (by kernel_rfl) (by kernel_rfl) (by kernel_rfl) (fun _ _ _ h => h) (Or.inl ⟨by rfl, ?_⟩) hH0 ?_
  · intro wv hSw
    go_simp
  change wpAnyH _ _ _ _ _ _ _ (Act.put _ (some 13) (.int .i64 p1)) _
  simp only [Act.put, List.setIfInBounds_toArray, List.set_cons_zero, List.set_cons_succ]
  refine wpAnyH_take (i := 4) (oi := _) (v := .pointer (some ⟨w.heap.size, 0, none⟩)) rfl (by kernel_rfl) (by kernel_rfl) (by kernel_rfl) (fun _ _ _ h => h) (Or.inl ⟨by rfl, ?_⟩) hH0 ?_
  · intro wv hSw
    go_simp
  change wpAnyH _ _ _ _ _ _ _ (Act.put _ (some 15) (.pointer (some ⟨w.heap.size, 0, none⟩))) _
  simp only [Act.put, List.setIfInBounds_toArray, List.set_cons_zero, List.set_cons_succ]
  refine wpAnyH_take (i := 5) (oi := _) (v := .slice (some ⟨b, off, none⟩) l.length c) rfl (by kernel_rfl) (by kernel_rfl) (by kernel_rfl) (fun _ _ _ h => h) (Or.inl ⟨by rfl, ?_⟩) hH0 ?_
  · intro wv hSw
    replace hSw : Below wq.heap.size wy wv := hSw
    have z := (hSw.cell (p := ⟨w.heap.size, 0, none⟩) (by simp; omega)).trans kk0
    go_simp
  change wpAnyH _ _ _ _ _ _ _ (Act.put _ (some 16) (.slice (some ⟨b, off, none⟩) l.length c)) _
  simp only [Act.put, List.setIfInBounds_toArray, List.set_cons_zero, List.set_cons_succ]
  refine wpAnyH_take (i := 6) (oi := _) (v := .int .i64 p2) rfl (by kernel_rfl) (by kernel_rfl) (by kernel_rfl) (fun _ _ _ h => h) (Or.inl ⟨by rfl, ?_⟩) hH0 ?_
  · intro wv hSw
    go_simp
  change wpAnyH _ _ _ _ _ _ _ (Act.put _ (some 17) (.int .i64 p2)) _
  simp only [Act.put, List.setIfInBounds_toArray, List.set_cons_zero, List.set_cons_succ]
  clear kk0
  refine wpAnyH_ready (rs := [3]) (by kernel_rfl) (by simp) ?_
  refine AllReadyH.cons (o := _) rfl (fun K hK => ?_) AllReadyH.nil
  go_simp
  refine (HA.out _ KW.out).mono ?_
  rintro e wa ⟨j, rfl, hj, hb⟩
  obtain ⟨i, rfl, hil, ⟨nx, hnx, hpx0⟩, _⟩ := IxP.some (w := w) hj HMa.out
  have hpx : nx.p = p1 := by simpa using hpx0
  have b3 : Below wq.heap.size wy wa := hb.mono kz.1
  have bw3 := KW.out.trans (hb.mono KW.out.size)
  clear hj hb hpx0
  refine hK.out _ _ (by exact b3) (fun hT3 => ?_)
  clear hK K
  try simp only [Act.put, List.setIfInBounds_toArray, List.set_cons_zero, List.set_cons_succ]
  refine wpAnyH_ready (rs := [7]) (by kernel_rfl) (by simp) ?_
  refine AllReadyH.cons (o := _) rfl (fun K hK => ?_) AllReadyH.nil
  go_simp
  refine (HB.out _ bw3).mono ?_
  rintro e wb ⟨j, rfl, hj, hb⟩
  obtain ⟨k, rfl, hkl, ⟨ny, hny, hpy0⟩, _⟩ := IxP.some (w := w) hj HMb.out
  have hpy : ny.p = p2 := by simpa using hpy0
  have b7 : Below wq.heap.size wy wb := b3.trans (hb.mono (Nat.le_trans kz.1 b3.size))
  have bw7 := bw3.trans (hb.mono bw3.size)
  clear hj hb
  refine hK.out _ _ (by exact b7) (fun hT7 => ?_)
  clear hK K
  try simp only [Act.put, List.setIfInBounds_toArray, List.set_cons_zero, List.set_cons_succ]
  refine wpAnyH_take (i := 8) (oi := _) (v := .int .i64 (i : Int)) rfl (by kernel_rfl) (by kernel_rfl) (by kernel_rfl) (fun _ _ _ h => h) (Or.inl ⟨by rfl, ?_⟩) hT7 ?_
  · intro wv hSw
    go_simp
  change wpAnyH _ _ _ _ _ _ _ (Act.put _ (some 8) (.int .i64 (i : Int))) _
  simp only [Act.put, List.setIfInBounds_toArray, List.set_cons_zero, List.set_cons_succ]
  refine wpAnyH_take (i := 9) (oi := _) (v := .int .i64 (k : Int)) rfl (by kernel_rfl) (by kernel_rfl) (by kernel_rfl) (fun _ _ _ h => h) (Or.inl ⟨by rfl, ?_⟩) hT7 ?_
  · intro wv hSw
    go_simp
  change wpAnyH _ _ _ _ _ _ _ (Act.put _ (some 9) (.int .i64 (k : Int))) _
  simp only [Act.put, List.setIfInBounds_toArray, List.set_cons_zero, List.set_cons_succ]
  refine wpAnyH_done (by kernel_rfl) ?_ _
  have mF := TB.below KZ.out.1 b7 (by omega)
  have zF := TB.below KZ.out.2 b7 (by omega)
  have BF := Lib.hid bw7
  clear hH0 hT3 hT7 b3 b7 bw3 bw7
  have mm := mF
  have zz := zF
  have m0 := TB.cell mm
  have hbk := BF.out
  have zl := TB.lt zz
  clear mF zF
  go_wp2_with fail
  refine (HO.out _ hbk).mono ?_
  rintro x w3 ⟨rfl, hb3⟩
  have m3 := TB.below mm hb3 (by omega)
  have z3 := TB.below zz hb3 zl
  have hb4 := hbk.trans (hb3.mono hbk.size)
  have hs3 := z3.lt
  clear m0
  have m0 := m3.cell
  have hi0 : ¬ (i : Int) < 0 := by omega
  have hk0 : ¬ (k : Int) < 0 := by omega
  go_wp2_with fail
  refine (HC.out _ hb4).mono ?_
  rintro x w4 ⟨v, rfl, ho, hb5⟩
  have z4 := z3.below hb5 hs3
  have hb6 := hb4.trans (hb5.mono hb4.size)
  obtain ⟨V, vc, rfl, hvc, _⟩ := SV.of_own (E := EN) ho (by decide)
  obtain ⟨g, rfl⟩ : ∃ g, V = some ⟨g, 0, none⟩ := by
    rcases ho.2 with ⟨e1, e2⟩ | ⟨g, cap, cur, e1, _⟩
    · omega
    · simp only [Value.slice.injEq] at e1
      exact ⟨g, e1.1⟩
  obtain ⟨hrow, hg⟩ := Row.own ho
  have hs4 := hb4.size
  have c1 := hrow.cell i nx hnx
  have r1 := hrow.set i 0 nx { nx with p := p2 } (.int .i64 p2) hnx (by omega) rfl
  have hkl1 : (l.set i { nx with p := p2 })[k]? = some (if i = k then { nx with p := p2 } else ny) := by
    by_cases e : i = k
    · subst e; rw [if_pos rfl, List.getElem?_set_self hil]
    · rw [if_neg e, List.getElem?_set_ne e]; exact hny
  have c2 := r1.cell k _ hkl1
  have r2 := r1.set k 0 _ { (if i = k then { nx with p := p2 } else ny) with p := p1 } (.int .i64 p1) hkl1 (by omega) rfl
  rw [HSw.out i k nx ny hnx hpx hny hpy] at r2
  have z5 : TB ((w4.setCell ⟨g, i * 5 + 0, none⟩ (.int .i64 p2)).setCell ⟨g, k * 5 + 0, none⟩ (.int .i64 p1)) (w.heap.size + 1) (.slice none 0 0) := Held.far (Held.far z4 (by omega) _) (by omega) _
  have b5 : Below w.heap.size w ((w4.setCell ⟨g, i * 5 + 0, none⟩ (.int .i64 p2)).setCell ⟨g, k * 5 + 0, none⟩ (.int .i64 p1)) := (hb6.setCell (p := ⟨g, i * 5 + 0, none⟩) (by show w.heap.size ≤ g; omega) _).setCell (p := ⟨g, k * 5 + 0, none⟩) (by show w.heap.size ≤ g; omega) _
  obtain ⟨q0, _, _, _, _, qf⟩ := c1
  obtain ⟨s0, _, _, _, _, sf⟩ := c2
  simp only [Nat.add_zero] at r2 z5 b5 s0 sf
  have R2 := Lib.hid (And.intro r2 (And.intro z5 b5))
  have kz := TB.cell z5
  have kf := TB.frozen z5
  have hil' : (i : Int) < (l.length : Int) := by omega
  have hkl' : (k : Int) < (l.length : Int) := by omega
  have q0' := qf (i * 5)
  have s0' := sf (k * 5)
  clear r1 r2 z5 b5 hrow ho hkl1 m0 m3 z3 hb3 hb4 hb5 hbk mm zz qf sf
  go_wp2_with fail
  have kc := (TB.set R2.out.2.1 (.slice (some ⟨g, 0, none⟩) l.length vc)).cell
  have hll : lf.length = l.length := by rw [← HSw.out i k nx ny hnx hpx hny hpy]; simp
  refine bodyPost_ret (v := .tuple #[.agg #[.slice (some ⟨g, 0, none⟩) l.length vc], .bool true]) (by simp [results, Try.results22, go_sem, kc]) rfl ⟨some ⟨g, 0, none⟩, vc, by rw [hll], by rw [hll]; exact hvc, ?_, ?_⟩
  · have ht5 : TabAt (w.heap.size + 2) _ (some ⟨g, 0, none⟩) (EN.flat lf) := R2.out.1.tab (by omega)
    exact (ht5.far (p := ⟨w.heap.size + 1, 0, none⟩) (by show w.heap.size + 1 < w.heap.size + 2; omega) _).weak (by omega)
  · exact R2.out.2.2.setCell (p := ⟨w.heap.size + 1, 0, none⟩) (by simp) _

set_option maxHeartbeats 4000000 in
theorem swap_no (l : List N) (t : T) (D : Option Addr) (c B : Nat) (p1 p2 : Int) (w : World) (h : TabAt B w D (EN.flat l)) (ht : Is l t) (ha : p1 ∈ t.panes) (hb' : p2 ∉ t.panes) (hp2 : 0 < p2) :
    Calls Try.prog 22 #[.agg #[.slice D l.length c], .int .i64 p1, .int .i64 p2] w (TrN w) := by
  have hl : l.length ≤ 63 := by rw [ht.len]; exact ht.size
  have hap := T.panes_pos ht.ok p1 ha
  have M0 := Lib.hid (TB.alloc (TB.new w (.slice D l.length c)) (.cells #[.slice none 0 0] 30))
  have C0 := Lib.hid (TB.new (w.alloc (.cells #[.slice D l.length c] 30)) (.slice none 0 0))
  have B0 := Lib.hid ((below_new w (.cells #[.slice D l.length c] 30)).alloc (by simp) (.cells #[.slice none 0 0] 30))
  have HA := Lib.hid (fun w' hb => find_any l D c B p1 w' (h.below (C := w.heap.size) hb (Nat.le_refl _)) (by omega) hap)
  have HB := Lib.hid (fun w' hb => find_any l D c B p2 w' (h.below (C := w.heap.size) hb (Nat.le_refl _)) (by omega) hp2)
  have HO := Lib.hid (fun w' hb => ok_any l D c B w' (h.below (C := w.heap.size) hb (Nat.le_refl _)) (by omega))
  rw [ht.treeF] at HO
  have HMa := Lib.hid (ht.mem ha)
  have HMb := Lib.hid (ht.not_mem hb' hp2)
  clear h ht ha hb'
  have m0 := TB.cell M0.out
  go_enter Try.func22, Try.ntmps22
  go_upto_region 1 with fail
  have CZ := C0.out
  simp only [World.size_alloc] at CZ
  refine wp_world (fun wq => TB wq w.heap.size (.slice D l.length c) ∧ TB wq (w.heap.size + 1) (.slice none 0 0) ∧ Below w.heap.size w wq) ⟨M0.out, CZ, B0.out⟩ ?_
  clear m0 CZ M0 C0 B0
  rintro wq ⟨m7, z7, hb11⟩
  have kk0 := m7.cell
  have z7l := z7.lt
  have KW := Lib.hid hb11.drew
  have KZ := Lib.hid (show TB wq.drew w.heap.size (.slice D l.length c) ∧ TB wq.drew (w.heap.size + 1) (.slice none 0 0) from ⟨m7, z7⟩)
  have sq := hb11.size
  clear m7 z7 hb11
  refine wp_region_held_drew (S := fun wv => Below wq.heap.size wq.drew wv) (by kernel_rfl) (by exact Below.refl _ _) (fun hH0 => ?_)
  have kz : wq.heap.size ≤ wq.drew.heap.size ∧ wq.drew.heap.size ≤ wq.heap.size := ⟨Nat.le_refl _, Nat.le_refl _⟩
  have kk0 : wq.drew.cell? ⟨w.heap.size, 0, none⟩ = some (.slice D l.length c) := kk0
  generalize wq.drew = wy at *
  refine wpAnyH_take (i := 0) (oi := _) (v := .pointer (some ⟨w.heap.size, 0, none⟩)) rfl (by kernel_rfl) (by kernel_rfl) (by kernel_rfl) (fun _ _ _ h => h) (Or.inl ⟨by rfl, ?_⟩) hH0 ?_
  · intro wv hSw
    go_simp
  change wpAnyH _ _ _ _ _ _ _ (Act.put _ (some 11) (.pointer (some ⟨w.heap.size, 0, none⟩))) _
  simp only [Act.put, List.setIfInBounds_toArray, List.set_cons_zero, List.set_cons_succ]
  refine wpAnyH_take (i := 1) (oi := _) (v := .slice D l.length c) rfl (by kernel_rfl) (by kernel_rfl) (by kernel_rfl) (fun _ _ _ h => h) (Or.inl ⟨by rfl, ?_⟩) hH0 ?_
  · intro wv hSw
    replace hSw : Below wq.heap.size wy wv := hSw
    have z := (hSw.cell (p := ⟨w.heap.size, 0, none⟩) (by simp; omega)).trans kk0
    go_simp
  change wpAnyH _ _ _ _ _ _ _ (Act.put _ (some 12) (.slice D l.length c)) _
  simp only [Act.put, List.setIfInBounds_toArray, List.set_cons_zero, List.set_cons_succ]
  refine wpAnyH_take (i := 2) (oi := _) (v := .int .i64 p1) rfl (by kernel_rfl) (by kernel_rfl) (by kernel_rfl) (fun _ _ _ h => h) (Or.inl ⟨by rfl, ?_⟩) hH0 ?_
  · intro wv hSw
    go_simp
  change wpAnyH _ _ _ _ _ _ _ (Act.put _ (some 13) (.int .i64 p1)) _
  simp only [Act.put, List.setIfInBounds_toArray, List.set_cons_zero, List.set_cons_succ]
  refine wpAnyH_take (i := 4) (oi := _) (v := .pointer (some ⟨w.heap.size, 0, none⟩)) rfl (by kernel_rfl) (by kernel_rfl) (by kernel_rfl) (fun _ _ _ h => h) (Or.inl ⟨by rfl, ?_⟩) hH0 ?_
  · intro wv hSw
    go_simp
  change wpAnyH _ _ _ _ _ _ _ (Act.put _ (some 15) (.pointer (some ⟨w.heap.size, 0, none⟩))) _
  simp only [Act.put, List.setIfInBounds_toArray, List.set_cons_zero, List.set_cons_succ]
  refine wpAnyH_take (i := 5) (oi := _) (v := .slice D l.length c) rfl (by kernel_rfl) (by kernel_rfl) (by kernel_rfl) (fun _ _ _ h => h) (Or.inl ⟨by rfl, ?_⟩) hH0 ?_
  · intro wv hSw
    replace hSw : Below wq.heap.size wy wv := hSw
    have z := (hSw.cell (p := ⟨w.heap.size, 0, none⟩) (by simp; omega)).trans kk0
    go_simp
  change wpAnyH _ _ _ _ _ _ _ (Act.put _ (some 16) (.slice D l.length c)) _
  simp only [Act.put, List.setIfInBounds_toArray, List.set_cons_zero, List.set_cons_succ]
  refine wpAnyH_take (i := 6) (oi := _) (v := .int .i64 p2) rfl (by kernel_rfl) (by kernel_rfl) (by kernel_rfl) (fun _ _ _ h => h) (Or.inl ⟨by rfl, ?_⟩) hH0 ?_
  · intro wv hSw
    go_simp
  change wpAnyH _ _ _ _ _ _ _ (Act.put _ (some 17) (.int .i64 p2)) _
  simp only [Act.put, List.setIfInBounds_toArray, List.set_cons_zero, List.set_cons_succ]
  clear kk0
  refine wpAnyH_ready (rs := [3]) (by kernel_rfl) (by simp) ?_
  refine AllReadyH.cons (o := _) rfl (fun K hK => ?_) AllReadyH.nil
  go_simp
  refine (HA.out _ KW.out).mono ?_
  rintro e wa ⟨j, rfl, hj, hb⟩
  obtain ⟨i, rfl, hil, ⟨nx, hnx, hpx0⟩, _⟩ := IxP.some (w := w) hj HMa.out
  have hpx : nx.p = p1 := by simpa using hpx0
  have b3 : Below wq.heap.size wy wa := hb.mono kz.1
  have bw3 := KW.out.trans (hb.mono KW.out.size)
  clear hj hb hpx0
  refine hK.out _ _ (by exact b3) (fun hT3 => ?_)
  clear hK K
  try simp only [Act.put, List.setIfInBounds_toArray, List.set_cons_zero, List.set_cons_succ]
  refine wpAnyH_ready (rs := [7]) (by kernel_rfl) (by simp) ?_
  refine AllReadyH.cons (o := _) rfl (fun K hK => ?_) AllReadyH.nil
  go_simp
  refine (HB.out _ bw3).mono ?_
  rintro e wb ⟨j, rfl, hj, hb⟩
  obtain rfl := IxP.none (w := w) hj HMb.out
  have b7 : Below wq.heap.size wy wb := b3.trans (hb.mono (Nat.le_trans kz.1 b3.size))
  have bw7 := bw3.trans (hb.mono bw3.size)
  clear hj hb
  refine hK.out _ _ (by exact b7) (fun hT7 => ?_)
  clear hK K
  try simp only [Act.put, List.setIfInBounds_toArray, List.set_cons_zero, List.set_cons_succ]
  refine wpAnyH_take (i := 8) (oi := _) (v := .int .i64 (i : Int)) rfl (by kernel_rfl) (by kernel_rfl) (by kernel_rfl) (fun _ _ _ h => h) (Or.inl ⟨by rfl, ?_⟩) hT7 ?_
  · intro wv hSw
    go_simp
  change wpAnyH _ _ _ _ _ _ _ (Act.put _ (some 8) (.int .i64 (i : Int))) _
  simp only [Act.put, List.setIfInBounds_toArray, List.set_cons_zero, List.set_cons_succ]
  refine wpAnyH_take (i := 9) (oi := _) (v := .int .i64 (-1)) rfl (by kernel_rfl) (by kernel_rfl) (by kernel_rfl) (fun _ _ _ h => h) (Or.inl ⟨by rfl, ?_⟩) hT7 ?_
  · intro wv hSw
    go_simp
  change wpAnyH _ _ _ _ _ _ _ (Act.put _ (some 9) (.int .i64 (-1))) _
  simp only [Act.put, List.setIfInBounds_toArray, List.set_cons_zero, List.set_cons_succ]
  refine wpAnyH_done (by kernel_rfl) ?_ _
  have mF := TB.below KZ.out.1 b7 (by omega)
  have zF := TB.below KZ.out.2 b7 (by omega)
  have BF := Lib.hid bw7
  clear hH0 hT3 hT7 b3 b7 bw3 bw7
  have m0 := TB.cell mF
  have hbk := BF.out
  have zl := TB.lt zF
  go_wp2_with fail
  refine (HO.out _ hbk).mono ?_
  rintro x w3 ⟨rfl, hb3⟩
  have z3 := TB.below zF hb3 zl
  have hb4 := hbk.trans (hb3.mono hbk.size)
  have kz := z3.cell
  have kf := z3.frozen
  have hi0 : ¬ (i : Int) < 0 := by omega
  go_wp2_with fail
  have kc := (TB.set z3 (.slice none 0 0)).cell
  exact bodyPost_ret (v := .tuple #[.agg #[.slice none 0 0], .bool false]) (by simp [results, Try.results22, go_sem, kc, kz]) rfl ⟨rfl, hb4.setCell (p := ⟨w.heap.size + 1, 0, none⟩) (by simp) _⟩
end Go.Proofs.Ytojgmofpgefonaa
