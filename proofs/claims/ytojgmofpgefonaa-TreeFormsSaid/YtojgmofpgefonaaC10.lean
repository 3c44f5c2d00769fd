/-
  What Remove of tree answers, of a tree. Conditions: trees of at most 63 nodes, windows of at most a thousand, none less than the least of what is left.
-/
import Derived.Test.YtojgmofpgefonaaC8
import Derived.Test.YtojgmofpgefonaaPlain5
namespace Go.Proofs.Ytojgmofpgefonaa
open Go.RowKit
set_option linter.unusedSimpArgs false
set_option linter.unusedVariables false
set_option maxRecDepth 100000

theorem keys_map_rem (l : List N) (q k : Nat) : (T.rem l q k).map key = T.rem (l.map key) q k := by
  unfold T.rem
  simp only [List.map_append, List.map_take, List.map_drop]
theorem tab_mid {B : Nat} {w : World} {D : Option Addr} {b off q k c : Nat} {l : List N} (h : TabAt B w (some ⟨b, off, none⟩) (EN.flat l)) (hD : D = (if c = q then some ⟨b, off, none⟩ else some ⟨b, off + q * 5, none⟩)) (hc : k ≤ c) (hk : k ≤ l.length) : TabAt B w D (EN.flat ((l.drop q).take (k - q))) := by
  rw [hD]
  by_cases hq : c = q
  · have e : (l.drop q).take (k - q) = [] := by rw [show k - q = 0 by omega, List.take_zero]
    rw [e]
    exact TabAt.nil _ _ _
  · rw [if_neg hq]
    exact tab_take (tab_drop h) _

set_option maxHeartbeats 8000000 in
theorem remove_any (l : List N) (t t' : T) (D : Option Addr) (c B : Nat) (W H pane : Int) (w : World) (h : TabAt B w D (EN.flat l)) (ht : Is l t) (hc : l.length ≤ c) (hr : (win W H).in)
    (ha : pane ∈ t.panes) (hd : t.drop pane = some t') (h1 : t'.lw ≤ W) (h2 : t'.lh ≤ H) :
    Calls Try.prog 18 #[.agg #[.slice D l.length c], .int .i64 W, .int .i64 H, .int .i64 pane] w (TrP w ((t'.fit (win W H)).flat 0)) := by
  have hl : l.length ≤ 63 := by rw [ht.len]; exact ht.size
  have hl0 : 0 < l.length := by rw [ht.len]; exact t.size_pos
  have hap := T.panes_pos ht.ok pane ha
  obtain ⟨b, off, rfl, _, hbw, _⟩ := node_at h 0 _ (List.getElem?_eq_getElem hl0)
  have M0 := Lib.hid (TB.alloc (TB.new w (.slice (some ⟨b, off, none⟩) l.length c)) (.cells #[.slice none 0 0] 30))
  have C0 := Lib.hid (TB.new (w.alloc (.cells #[.slice (some ⟨b, off, none⟩) l.length c] 30)) (.slice none 0 0))
  have B0 := Lib.hid ((below_new w (.cells #[.slice (some ⟨b, off, none⟩) l.length c] 30)).alloc (by simp) (.cells #[.slice none 0 0] 30))
  have HA := Lib.hid (fun w' hb => find_any l (some ⟨b, off, none⟩) c B pane w' (h.below (C := w.heap.size) hb (Nat.le_refl _)) (by omega) hap)
  have HO := Lib.hid (fun w' hb => ok_any l (some ⟨b, off, none⟩) c B w' (h.below (C := w.heap.size) hb (Nat.le_refl _)) (by omega))
  rw [ht.treeF] at HO
  have HK := Lib.hid (fun p w' hb => forkOf_any l (some ⟨b, off, none⟩) c B p w' (h.below (C := w.heap.size) hb (Nat.le_refl _)) (by omega))
  have HT := Lib.hid (fun wr hb => h.below (w' := wr) (C := w.heap.size) hb (Nat.le_refl _))
  obtain ⟨s1, s2, s3⟩ := T.drop_sub hd
  have is' : Is (t'.flat 0) t' := ⟨rfl, s3 ht.ok, by have := ht.size; omega, List.Sublist.nodup s1 ht.un⟩
  have HMem := Lib.hid (ht.mem ha)
  have HLeaf := Lib.hid (fun k n (hk : l[k]? = some n) hp => ht.leaf hap hk hp)
  have hk0 : ∀ k : Nat, l[k]? = some (leafN pane) → 0 < k := by
    intro k hk
    rcases Nat.eq_zero_or_pos k with e | e
    · subst e
      exfalso
      rw [ht.eq] at hk
      cases t with
      | leaf p => simp [T.flat, leafN] at hk; subst hk; simp [T.drop] at hd
      | fork d f x y =>
        simp [T.flat, T.forkN, leafN] at hk
        try omega
    · exact e
  have HK0 := Lib.hid hk0
  have HPar := Lib.hid (fun k (hk : 0 < k) (hk2 : k < l.length) => (show ∃ n ∈ l, (n.a == (k : Int) || n.b == (k : Int)) = true from by
    have := T.par_ex t 0 k hk (by rw [Nat.zero_add, ← ht.len]; exact hk2)
    rwa [← ht.eq] at this))
  have HRow := Lib.hid (fun (k q : Nat) (hk : l[k]? = some (leafN pane)) (hq1 : ∃ n, l[q]? = some n ∧ (n.a == (k : Int) || n.b == (k : Int)) = true) (hq2 : ∀ n ∈ l.take q, (n.a == (k : Int) || n.b == (k : Int)) = false) =>
    (show q < k ∧ T.Sh (T.rem l q k) 0 t' ∧ (T.rem l q k).length = t'.size ∧ t'.lay (T.rem l q k) 0 = t'.flat 0 from by
      have e := ht.eq
      obtain ⟨a1, t2, a2, a3⟩ := T.rem_row (t := t) (pane := pane) (i := 0) (k := k) (q := q) ht.un hap (hk0 k hk) (by rw [Nat.sub_zero, ← e]; exact hk) (Nat.zero_le _) (by rw [Nat.sub_zero, ← e]; exact hq1) (by rw [Nat.sub_zero, ← e]; exact hq2)
      rw [hd] at a2
      injection a2 with a2
      subst a2
      rw [Nat.sub_zero, Nat.sub_zero] at a3
      have lk : (T.rem l q k).map key = t'.keys := by rw [keys_map_rem, e, T.keys_flat, a3]
      have lf : ∀ n ∈ T.rem l q k, 0 < n.p → n = leafN n.p := by
        intro n hn hp
        have hnl : n ∈ l := by
          unfold T.rem at hn
          simp only [List.mem_append] at hn
          rcases hn with (hn | hn) | hn
          · exact List.mem_of_mem_take hn
          · exact List.mem_of_mem_drop (List.mem_of_mem_take hn)
          · exact List.mem_of_mem_drop hn
        rw [e] at hnl
        exact T.leaf_all ht.ok 0 n hnl hp
      obtain ⟨z1, z2, z3⟩ := T.sh_all lf t' (s3 ht.ok) lk
      exact ⟨a1, z1, z2, z3⟩))
  have HIs := Lib.hid is'
  have hts : 0 < t'.size ∧ t'.size ≤ 63 := ⟨t'.size_pos, is'.size⟩
  have HFit := Lib.hid (fun D c w' B' (hh : TabAt B' w' D (EN.flat (t'.flat 0))) => fitT_any (t'.flat 0) t' D c B' W H w' hh is' hr h1 h2)
  rw [T.flat_len] at HFit
  clear h ht hd hr hk0 is' s1 s2 s3 h1 h2
  generalize (t'.fit (win W H)).flat 0 = lf at *
  go_enter Try.func18, Try.ntmps18
  have m0 := M0.out.cell
  go_wp2_with fail
  refine (HA.out _ B0.out).mono ?_
  rintro x w2 ⟨j, rfl, hj, hb⟩
  obtain ⟨k, rfl, hkl, ⟨nn, hnn, hnp⟩, _⟩ := IxP.some (w := w) hj HMem.out
  have hkn := HLeaf.out k nn hnn hnp
  have hk0 := HK0.out k hkn
  have hkn1 : ¬ (k : Int) < 1 := by omega
  have m2 := TB.below M0.out hb (by simp; omega)
  have z2 : TB w2 (w.heap.size + 1) (.slice none 0 0) := by
    have := TB.below C0.out hb (by simp)
    rw [World.size_alloc] at this
    exact this
  have hb2 := B0.out.trans (hb.mono (by simp; omega))
  have hs2 := z2.lt
  have HKN := Lib.hid hkn
  clear hb hj hnn hnp hkn m0
  have m0 := m2.cell
  go_wp2_with fail
  refine (HO.out _ hb2).mono ?_
  rintro x w3 ⟨rfl, hb3⟩
  have m3 := m2.below hb3 (by omega)
  have z3 := z2.below hb3 hs2
  have hb4 := hb2.trans (hb3.mono hb2.size)
  have hs3 := z3.lt
  clear m0
  have m0 := m3.cell
  go_wp2_with fail
  refine (HK.out _ _ hb4).mono ?_
  rintro x w7 ⟨j, rfl, hj, hb5⟩
  obtain ⟨q, rfl, hql, hq1, hq2⟩ := IxP.some (w := w) hj (HPar.out k hk0 hkl)
  obtain ⟨hqk, r1, r2, r3⟩ := HRow.out k q HKN.out hq1 hq2
  have m7 := m3.below hb5 (by omega)
  have z7 := z3.below hb5 hs3
  have hb11 := hb4.trans (hb5.mono hb4.size)
  have tt := HT.out _ hb11
  have HSh := Lib.hid r1
  have HLy := Lib.hid r3
  have HLn := Lib.hid r2
  clear m0 hj hq1 hq2 r1 r2 r3 m2 z2 m3 z3 hb2 hb3 hb4 hb5 hs2 hs3
  go_upto_region 5 with fail
  refine wp_world (fun wq => TB wq w.heap.size (.slice (some ⟨b, off, none⟩) l.length c) ∧ TB wq (w.heap.size + 1) (.slice none 0 0) ∧ Below w.heap.size w wq ∧ TabAt B wq (some ⟨b, off, none⟩) (EN.flat l)) ⟨m7, z7, hb11, tt⟩ ?_
  clear m7 z7 hb11 tt
  rintro wq ⟨m7, z7, hb11, tt⟩
  have kk0 := m7.cell
  have z7l := z7.lt
  have KQ := Lib.hid ((Below.refl wq.heap.size wq).drew)
  have KW := Lib.hid hb11
  have KZ := Lib.hid (And.intro m7 (And.intro z7 tt))
  have sq := hb11.size
  have hq1 : (q : Int) ≤ (c : Int) := by omega
  have hq2 : ((q : Int)).toNat = q := by omega
  have hq3 : ((q : Int) + 1).toNat = q + 1 := by omega
  have hk2 : ((k : Int)).toNat = k := by omega
  have hk3 : ((k : Int) + 1).toNat = k + 1 := by omega
  have hkc : (k : Int) ≤ (c : Int) := by omega
  clear m7 z7 hb11 tt
  obtain ⟨D2, hD2, hD2t⟩ : ∃ D2 : Option Addr, D2 = (if c = q + 1 then some ⟨b, off, none⟩ else some ⟨b, off + (q + 1) * 5, none⟩) ∧ ∀ w', Below wq.heap.size wq w' → TabAt 0 w' D2 (EN.flat ((l.drop (q + 1)).take (k - (q + 1)))) :=
    ⟨_, rfl, fun w' hb => tab_mid ((KZ.out.2.2.below hb (Nat.le_refl _)).weak (Nat.zero_le _)) rfl (by omega) (by omega)⟩
  obtain ⟨D3, hD3, hD3t⟩ : ∃ D3 : Option Addr, D3 = (if c = k + 1 then some ⟨b, off, none⟩ else some ⟨b, off + (k + 1) * 5, none⟩) ∧ ∀ w', Below wq.heap.size wq w' → TabAt 0 w' D3 (EN.flat (l.drop (k + 1))) := by
    refine ⟨_, rfl, fun w' hb => ?_⟩
    have tb := (KZ.out.2.2.below hb (Nat.le_refl _)).weak (Nat.zero_le _)
    by_cases hck : c = k + 1
    · have e : l.drop (k + 1) = [] := List.drop_of_length_le (by omega)
      rw [e]
      exact TabAt.nil _ _ _
    · rw [if_neg hck]
      exact tab_drop tb
  have HD2 := Lib.hid hD2
  have HD2t := Lib.hid hD2t
  have HD3 := Lib.hid hD3
  have HD3t := Lib.hid hD3t
  clear hD3 hD3t hD2 hD2t
  refine wp_region_held_drew (S := fun wv => Below wq.heap.size wq.drew wv) (by kernel_rfl) (by exact Below.refl _ _) (fun hH0 => ?_)
  have kz : wq.heap.size ≤ wq.drew.heap.size ∧ wq.drew.heap.size ≤ wq.heap.size := ⟨Nat.le_refl _, Nat.le_refl _⟩
  have kk0 : wq.drew.cell? ⟨w.heap.size, 0, none⟩ = some (.slice (some ⟨b, off, none⟩) l.length c) := kk0
  generalize wq.drew = wy at *
  refine wpAnyH_take (i := 0) (oi := _) (v := .pointer (some ⟨w.heap.size, 0, none⟩)) rfl (by kernel_rfl) (by kernel_rfl) (by kernel_rfl) (fun _ _ _ h => h) (Or.inl ⟨by rfl, ?_⟩) hH0 ?_
  · intro wv hSw
    go_simp
  change wpAnyH _ _ _ _ _ _ _ (Act.put _ (some 29) (.pointer (some ⟨w.heap.size, 0, none⟩))) _
  simp only [Act.put, List.setIfInBounds_toArray, List.set_cons_zero, List.set_cons_succ]
  refine wpAnyH_take (i := 1) (oi := _) (v := .slice (some ⟨b, off, none⟩) l.length c) rfl (by kernel_rfl) (by kernel_rfl) (by kernel_rfl) (fun _ _ _ h => h) (Or.inl ⟨by rfl, ?_⟩) hH0 ?_
  · intro wv hSw
    replace hSw : Below wq.heap.size wy wv := hSw
    have z := (hSw.cell (p := ⟨w.heap.size, 0, none⟩) (by simp; omega)).trans kk0
    go_simp
  change wpAnyH _ _ _ _ _ _ _ (Act.put _ (some 30) (.slice (some ⟨b, off, none⟩) l.length c)) _
  simp only [Act.put, List.setIfInBounds_toArray, List.set_cons_zero, List.set_cons_succ]
  refine wpAnyH_take (i := 2) (oi := _) (v := .int .i64 (q : Int)) rfl (by kernel_rfl) (by kernel_rfl) (by kernel_rfl) (fun _ _ _ h => h) (Or.inl ⟨by rfl, ?_⟩) hH0 ?_
  · intro wv hSw
    go_simp
  change wpAnyH _ _ _ _ _ _ _ (Act.put _ (some 31) (.int .i64 (q : Int))) _
  simp only [Act.put, List.setIfInBounds_toArray, List.set_cons_zero, List.set_cons_succ]
  refine wpAnyH_take (i := 3) (oi := _) (v := .slice (some ⟨b, off, none⟩) q c) rfl (by kernel_rfl) (by kernel_rfl) (by kernel_rfl) (fun _ _ _ h => h) (Or.inl ⟨by rfl, ?_⟩) hH0 ?_
  · intro wv hSw
    go_simp
  change wpAnyH _ _ _ _ _ _ _ (Act.put _ (some 32) (.slice (some ⟨b, off, none⟩) q c)) _
  simp only [Act.put, List.setIfInBounds_toArray, List.set_cons_zero, List.set_cons_succ]
  refine wpAnyH_take (i := 4) (oi := _) (v := .pointer (some ⟨w.heap.size, 0, none⟩)) rfl (by kernel_rfl) (by kernel_rfl) (by kernel_rfl) (fun _ _ _ h => h) (Or.inl ⟨by rfl, ?_⟩) hH0 ?_
  · intro wv hSw
    go_simp
  change wpAnyH _ _ _ _ _ _ _ (Act.put _ (some 33) (.pointer (some ⟨w.heap.size, 0, none⟩))) _
  simp only [Act.put, List.setIfInBounds_toArray, List.set_cons_zero, List.set_cons_succ]
  refine wpAnyH_take (i := 5) (oi := _) (v := .slice (some ⟨b, off, none⟩) l.length c) rfl (by kernel_rfl) (by kernel_rfl) (by kernel_rfl) (fun _ _ _ h => h) (Or.inl ⟨by rfl, ?_⟩) hH0 ?_
  · intro wv hSw
    replace hSw : Below wq.heap.size wy wv := hSw
    have z := (hSw.cell (p := ⟨w.heap.size, 0, none⟩) (by simp; omega)).trans kk0
    go_simp
  change wpAnyH _ _ _ _ _ _ _ (Act.put _ (some 34) (.slice (some ⟨b, off, none⟩) l.length c)) _
  simp only [Act.put, List.setIfInBounds_toArray, List.set_cons_zero, List.set_cons_succ]
  refine wpAnyH_take (i := 6) (oi := _) (v := .int .i64 (q : Int)) rfl (by kernel_rfl) (by kernel_rfl) (by kernel_rfl) (fun _ _ _ h => h) (Or.inl ⟨by rfl, ?_⟩) hH0 ?_
  · intro wv hSw
    go_simp
  change wpAnyH _ _ _ _ _ _ _ (Act.put _ (some 35) (.int .i64 (q : Int))) _
  simp only [Act.put, List.setIfInBounds_toArray, List.set_cons_zero, List.set_cons_succ]
  refine wpAnyH_take (i := 7) (oi := _) (v := .int .i64 ((q : Int) + 1)) rfl (by kernel_rfl) (by kernel_rfl) (by kernel_rfl) (fun _ _ _ h => h) (Or.inl ⟨by rfl, ?_⟩) hH0 ?_
  · intro wv hSw
    go_simp
    all_goals exact wrap_i64_t ((q : Int) + 1) (by omega) (by omega)
  change wpAnyH _ _ _ _ _ _ _ (Act.put _ (some 36) (.int .i64 ((q : Int) + 1))) _
  simp only [Act.put, List.setIfInBounds_toArray, List.set_cons_zero, List.set_cons_succ]
  refine wpAnyH_take (i := 8) (oi := _) (v := .int .i64 (k : Int)) rfl (by kernel_rfl) (by kernel_rfl) (by kernel_rfl) (fun _ _ _ h => h) (Or.inl ⟨by rfl, ?_⟩) hH0 ?_
  · intro wv hSw
    go_simp
  change wpAnyH _ _ _ _ _ _ _ (Act.put _ (some 37) (.int .i64 (k : Int))) _
  simp only [Act.put, List.setIfInBounds_toArray, List.set_cons_zero, List.set_cons_succ]
  refine wpAnyH_take (i := 9) (oi := _) (v := .slice D2 (k - (q + 1)) (c - (q + 1))) rfl (by kernel_rfl) (by kernel_rfl) (by kernel_rfl) (fun _ _ _ h => h) (Or.inl ⟨by rfl, ?_⟩) hH0 ?_
  · intro wv hSw
    go_simp
    all_goals (rw [HD2.out, if_pos (by omega)])
  change wpAnyH _ _ _ _ _ _ _ (Act.put _ (some 38) (.slice D2 (k - (q + 1)) (c - (q + 1)))) _
  simp only [Act.put, List.setIfInBounds_toArray, List.set_cons_zero, List.set_cons_succ]
  refine wpAnyH_take (i := 10) (oi := _) (v := .pointer (some ⟨w.heap.size, 0, none⟩)) rfl (by kernel_rfl) (by kernel_rfl) (by kernel_rfl) (fun _ _ _ h => h) (Or.inl ⟨by rfl, ?_⟩) hH0 ?_
  · intro wv hSw
    go_simp
  change wpAnyH _ _ _ _ _ _ _ (Act.put _ (some 39) (.pointer (some ⟨w.heap.size, 0, none⟩))) _
  simp only [Act.put, List.setIfInBounds_toArray, List.set_cons_zero, List.set_cons_succ]
  refine wpAnyH_take (i := 11) (oi := _) (v := .slice (some ⟨b, off, none⟩) l.length c) rfl (by kernel_rfl) (by kernel_rfl) (by kernel_rfl) (fun _ _ _ h => h) (Or.inl ⟨by rfl, ?_⟩) hH0 ?_
  · intro wv hSw
    replace hSw : Below wq.heap.size wy wv := hSw
    have z := (hSw.cell (p := ⟨w.heap.size, 0, none⟩) (by simp; omega)).trans kk0
    go_simp
  change wpAnyH _ _ _ _ _ _ _ (Act.put _ (some 40) (.slice (some ⟨b, off, none⟩) l.length c)) _
  simp only [Act.put, List.setIfInBounds_toArray, List.set_cons_zero, List.set_cons_succ]
  refine wpAnyH_take (i := 12) (oi := _) (v := .int .i64 (k : Int)) rfl (by kernel_rfl) (by kernel_rfl) (by kernel_rfl) (fun _ _ _ h => h) (Or.inl ⟨by rfl, ?_⟩) hH0 ?_
  · intro wv hSw
    go_simp
  change wpAnyH _ _ _ _ _ _ _ (Act.put _ (some 41) (.int .i64 (k : Int))) _
  simp only [Act.put, List.setIfInBounds_toArray, List.set_cons_zero, List.set_cons_succ]
  refine wpAnyH_take (i := 13) (oi := _) (v := .int .i64 ((k : Int) + 1)) rfl (by kernel_rfl) (by kernel_rfl) (by kernel_rfl) (fun _ _ _ h => h) (Or.inl ⟨by rfl, ?_⟩) hH0 ?_
  · intro wv hSw
    go_simp
    all_goals exact wrap_i64_t ((k : Int) + 1) (by omega) (by omega)
  change wpAnyH _ _ _ _ _ _ _ (Act.put _ (some 42) (.int .i64 ((k : Int) + 1))) _
  simp only [Act.put, List.setIfInBounds_toArray, List.set_cons_zero, List.set_cons_succ]
  refine wpAnyH_take (i := 14) (oi := _) (v := .slice D3 (l.length - (k + 1)) (c - (k + 1))) rfl (by kernel_rfl) (by kernel_rfl) (by kernel_rfl) (fun _ _ _ h => h) (Or.inl ⟨by rfl, ?_⟩) hH0 ?_
  · intro wv hSw
    go_simp
    all_goals (rw [HD3.out, if_pos ⟨by omega, by omega⟩])
  change wpAnyH _ _ _ _ _ _ _ (Act.put _ (some 43) (.slice D3 (l.length - (k + 1)) (c - (k + 1)))) _
  simp only [Act.put, List.setIfInBounds_toArray, List.set_cons_zero, List.set_cons_succ]
  clear kk0
  refine wpAnyH_ready (rs := [15]) (by kernel_rfl) (by simp) ?_
  refine AllReadyH.cons (o := _) rfl (fun K hK => ?_) AllReadyH.nil
  go_simp
  have gz2 := below_new wy (.cells #[.slice (some ⟨b, off, none⟩) q c, .slice D2 (k - (q + 1)) (c - (q + 1)), .slice D3 (l.length - (k + 1)) (c - (k + 1))] 26)
  have hT3 := Held.new wy 26 #[.slice (some ⟨b, off, none⟩) q c, .slice D2 (k - (q + 1)) (c - (q + 1)), .slice D3 (l.length - (k + 1)) (c - (k + 1))]
  have b15 : Below wq.heap.size wy (wy.alloc (.cells #[.slice (some ⟨b, off, none⟩) q c, .slice D2 (k - (q + 1)) (c - (q + 1)), .slice D3 (l.length - (k + 1)) (c - (k + 1))] 26)) := gz2.mono kz.1
  refine hK.out _ _ (by exact b15) (fun hT15 => ?_)
  clear hK K
  try simp only [Act.put, List.setIfInBounds_toArray, List.set_cons_zero, List.set_cons_succ]
  generalize hgt : wy.heap.size = gT at *
  generalize (wy.alloc (.cells #[.slice (some ⟨b, off, none⟩) q c, .slice D2 (k - (q + 1)) (c - (q + 1)), .slice D3 (l.length - (k + 1)) (c - (k + 1))] 26)) = wd at *
  have bd := KQ.out.trans b15
  have hTN : TabsN wd [.slice (some ⟨b, off, none⟩) q c, .slice D2 (k - (q + 1)) (c - (q + 1)), .slice D3 (l.length - (k + 1)) (c - (k + 1))] [l.take q, (l.drop (q + 1)).take (k - (q + 1)), l.drop (k + 1)] := by
    refine ⟨rfl, fun j h1 h2 => ?_⟩
    have hj : j = 0 ∨ j = 1 ∨ j = 2 := by simp at h1; omega
    rcases hj with rfl | rfl | rfl
    · exact ⟨some ⟨b, off, none⟩, c, by simp [List.length_take]; omega, (tab_take (KZ.out.2.2.below bd (Nat.le_refl _)) q).weak (Nat.zero_le _)⟩
    · exact ⟨D2, c - (q + 1), by simp [List.length_take, List.length_drop]; omega, HD2t.out _ bd⟩
    · exact ⟨D3, c - (k + 1), by simp [List.length_drop], HD3t.out _ bd⟩
  have hCat := concat_any gT [.slice (some ⟨b, off, none⟩) q c, .slice D2 (k - (q + 1)) (c - (q + 1)), .slice D3 (l.length - (k + 1)) (c - (k + 1))] [l.take q, (l.drop (q + 1)).take (k - (q + 1)), l.drop (k + 1)] wd hT3 hTN (by simp; omega) (by simp)
  have hfl : [l.take q, (l.drop (q + 1)).take (k - (q + 1)), l.drop (k + 1)].flatten = T.rem l q k := by simp [T.rem]
  rw [hfl] at hCat
  generalize T.rem l q k = LL at *
  clear hfl
  refine wpAnyH_ready (rs := [16]) (by kernel_rfl) (by simp) ?_
  refine AllReadyH.cons (o := _) rfl (fun K hK => ?_) AllReadyH.nil
  go_simp
  refine hCat.mono ?_
  rintro e we ⟨v, rfl, ho, hb⟩
  have b16 := b15.trans (hb.mono (by have := bd.size; omega))
  obtain ⟨Vv, vc, rfl, _, _⟩ := SV.of_own (E := EN) ho (by decide)
  obtain ⟨gV, rfl⟩ : ∃ g, Vv = some ⟨g, 0, none⟩ := by
    rcases ho.2 with ⟨e1, e2⟩ | ⟨g, cap, cur, e1, _⟩
    · have := HLn.out; omega
    · simp only [Value.slice.injEq] at e1; exact ⟨g, e1.1⟩
  obtain ⟨hrow, hgV⟩ := Row.own ho
  refine hK.out _ _ (by exact b16) (fun hT16 => ?_)
  clear hK K
  try simp only [Act.put, List.setIfInBounds_toArray, List.set_cons_zero, List.set_cons_succ]
  refine wpAnyH_take (i := 17) (oi := _) (v := .slice (some ⟨gV, 0, none⟩) LL.length vc) rfl (by kernel_rfl) (by kernel_rfl) (by kernel_rfl) (fun _ _ _ h => h) (Or.inl ⟨by rfl, ?_⟩) hT16 ?_
  · intro wv hSw
    go_simp
  change wpAnyH _ _ _ _ _ _ _ (Act.put _ (some 12) (.slice (some ⟨gV, 0, none⟩) LL.length vc)) _
  simp only [Act.put, List.setIfInBounds_toArray, List.set_cons_zero, List.set_cons_succ]
  refine wpAnyH_done (by kernel_rfl) ?_ _
  have bw := KQ.out.trans b16
  have KWX := Lib.hid (KW.out.trans (bw.mono (by omega)))
  have FZ := Lib.hid (TB.below KZ.out.2.1 bw (by omega))
  have hgV2 : w.heap.size + 2 ≤ gV := by have := bd.size; omega
  have HNum := Lib.hid (number_any t' LL vc 0 gV we hrow HSh.out HIs.out.ok (by have := HLn.out; omega))
  clear hrow ho hb b16 b15 bw bd hH0 hT15 hT16 hCat hTN hT3 gz2 hgt
  go_wp2_with fail
  refine HNum.out.mono ?_
  rintro x w8 ⟨rfl, rr, gg⟩
  have z8 := gg.held FZ.out (by omega)
  have t8 : TabAt (w.heap.size + 2) w8 (some ⟨gV, 0, none⟩) (EN.flat (t'.flat 0)) := by
    have := rr
    rw [HLy.out] at this
    exact this.tab (by omega)
  have b8 : Below w.heap.size w w8 := gg.below (by omega) KWX.out
  have HF1 := Lib.hid (HFit.out _ vc w8 _ t8)
  have s8 := b8.size
  have B8 := Lib.hid b8
  have z8l := Held.lt z8
  clear rr gg t8 b8
  rw [← HLn.out] at HF1
  go_wp2_with fail
  refine HF1.out.mono ?_
  rintro x w9 ⟨DF, cF, rfl, hcF, tf, bf⟩
  have z9 := Held.below z8 bf z8l
  have kz := TB.cell z9
  have kf := TB.frozen z9
  have TF := Lib.hid (And.intro tf bf)
  clear tf bf z8
  go_wp2_with fail
  have kc := (TB.set z9 (.slice DF lf.length cF)).cell
  refine bodyPost_ret (v := .tuple #[.agg #[.slice DF lf.length cF], .bool true]) (by simp [results, Try.results18, go_sem, kc]) rfl ⟨DF, cF, rfl, hcF, ?_, ?_⟩
  · exact (TF.out.1.far (p := ⟨w.heap.size + 1, 0, none⟩) (by show w.heap.size + 1 < w8.heap.size; omega) _).weak (by omega)
  · exact (B8.out.trans (TF.out.2.mono s8)).setCell (p := ⟨w.heap.size + 1, 0, none⟩) (by simp) _
end Go.Proofs.Ytojgmofpgefonaa
