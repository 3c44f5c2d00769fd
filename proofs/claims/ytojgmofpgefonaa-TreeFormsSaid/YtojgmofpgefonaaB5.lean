/-
  What Split of the document's own answer gives, of a tree that fits. Conditions: trees of at most 61 nodes, windows of at most a thousand.
-/
import Derived.Test.YtojgmofpgefonaaB4
import Derived.Test.YtojgmofpgefonaaPlain3
import Derived.Test.YtojgmofpgefonaaNum
namespace Go.Proofs.Ytojgmofpgefonaa
open Go.RowKit
set_option linter.unusedSimpArgs false
set_option linter.unusedVariables false
set_option maxRecDepth 100000

theorem wrap_i64_small (n : Int) (h0 : -1000000 ≤ n) (h1 : n ≤ 1000000) : IntKind.i64.wrap n = n := by
  simp [IntKind.wrap, IntKind.bits, IntKind.signed]
  omega
/-- What a split gives: where the room is, the tree with the leaf split. -/
def SplP (w : World) (t : T) (at_ fresh d n : Int) (e : Ending) (w' : World) : Prop :=
  (3 ≤ n ∧ ∃ (f : Int) (v : Value), 1 ≤ f ∧ f ≤ n - 2 ∧ e = .returned (.tuple #[.agg #[v], .bool true]) ∧ w'.ownsRow w.heap.size 23 5 v ((t.split at_ fresh d f).flat 0).length (EN.flat ((t.split at_ fresh d f).flat 0)) ∧ Below w.heap.size w w') ∨
  (n < 3 ∧ e = .returned (.tuple #[.agg #[.slice none 0 0], .bool false]) ∧ Below w.heap.size w w')
def RoomRel (w : World) (q : Nat) (s : Nat) (n0 : Int) (n i : Value) (wr : World) : Prop := ∃ k : Nat, i = .int .i64 k ∧ k ≤ s ∧ n = .int .i64 (if q < k then n0 else 0) ∧ w = wr
def OutRel (w : World) (fresh d f : Int) (kk : Nat) (l : List N) (v i : Value) (wr : World) : Prop := ∃ k : Nat, i = .int .i64 k ∧ k ≤ l.length ∧ wr.ownsRow w.heap.size 23 5 v (T.partL fresh d f kk l k).length (EN.flat (T.partL fresh d f kk l k)) ∧ Below w.heap.size w wr

set_option maxHeartbeats 4000000 in
theorem rsplit_any (l : List N) (t : T) (D : Option Addr) (c B : Nat) (W H at_ fresh d : Int) (r : Nat) (w : World) (h : TabAt B w D (EN.flat l)) (ht : Is l t) (hr : (win W H).in) (hf : t.fits (win W H))
    (ha : at_ ∈ t.panes) (hfr : 0 < fresh) (hfn : fresh ∉ t.panes) (hs : t.size ≤ 61) (hd : d = 1 ∨ d = 2) :
    Calls Try.prog 33 #[.agg #[.slice D l.length c], .int .i64 W, .int .i64 H, .int .i64 at_, .int .i64 fresh, .int .i64 d, .float .f64 r] w (SplP w t at_ fresh d (t.room at_ d (win W H))) := by
  have hl : l.length ≤ 61 := by rw [ht.len]; exact hs
  have hap := T.panes_pos ht.ok at_ ha
  have M0 := Lib.hid (TB.alloc (TB.new w (.slice D l.length c)) (.cells #[.slice none 0 0] 30))
  have C0 := Lib.hid (TB.new (w.alloc (.cells #[.slice D l.length c] 30)) (.slice none 0 0))
  have B0 := Lib.hid ((below_new w (.cells #[.slice D l.length c] 30)).alloc (by simp) (.cells #[.slice none 0 0] 30))
  have HP := Lib.hid (fun w' hb => rPlaces_any l t D c B W H w' (h.below (C := w.heap.size) hb (Nat.le_refl _)) ht hr hf)
  have HA := Lib.hid (fun w' hb => rat_any l at_ D c B w' (h.below (C := w.heap.size) hb (Nat.le_refl _)) (by omega) hap)
  have HF := Lib.hid (fun w' hb => rat_any l fresh D c B w' (h.below (C := w.heap.size) hb (Nat.le_refl _)) (by omega) hfr)
  have HH := Lib.hid (fun wr hb => h.below (w' := wr) (C := w.heap.size) hb (Nat.le_refl _))
  obtain ⟨q, s, hq, hsp, hun⟩ := T.spot_one (r := win W H) ht.un ha
  have hroom := T.room_of (d := d) ht.un (List.mem_of_getElem? hq) hsp
  have hin := T.fits_in ht.ok hr hf s (List.mem_of_getElem? hq)
  obtain ⟨sp, sR⟩ := s
  dsimp only at hsp hroom hin
  rw [← hroom]
  have hn0 : 0 ≤ side d sR ∧ side d sR ≤ 1000 := by
    obtain ⟨_, _, _, _, _, _⟩ := hin
    unfold side
    rcases hd with rfl | rfl
    · simp; omega
    · simp; omega
  have hnode : ∀ (k : Nat) (n : N), l[k]? = some n → n.p = at_ → n = leafN at_ := by
    intro k n hk hp
    have hm : n ∈ l := List.mem_of_getElem? hk
    rw [ht.eq] at hm
    exact T.leaf_of t 0 hm hp hap
  have hmem : ∃ n ∈ l, n.p = at_ := by
    have : at_ ∈ panesL l := by rw [ht.panes]; exact ha
    unfold panesL at this
    rw [List.mem_filter, List.mem_map] at this
    obtain ⟨⟨n, hn, hp⟩, _⟩ := this
    exact ⟨n, hn, hp⟩
  have hfl : ∀ n ∈ l, n.p ≠ fresh := by
    intro n hn hp
    refine hfn ?_
    rw [← ht.panes]
    unfold panesL
    rw [List.mem_filter, List.mem_map]
    exact ⟨⟨n, hn, hp⟩, by simpa using hfr⟩
  have HSL := Lib.hid (fun f kk (hk : l[kk]? = some (leafN at_)) => (show (t.split at_ fresh d f).flat 0 = T.splitL fresh d f kk l 0 by
    have := T.flat_split (fresh := fresh) (d := d) (f := f) (t := t) (at_ := at_) kk 0 ht.un (Nat.zero_le _) (by rw [Nat.sub_zero, ← ht.eq]; exact hk) hap
    rw [this, ← ht.eq]))
  have HAB := Lib.hid (fun k (hk : k < l.length) => (show (0 ≤ l[k].a ∧ l[k].a ≤ 1000) ∧ (0 ≤ l[k].b ∧ l[k].b ≤ 1000) from by
    have := T.ab_small t 0 (n := l[k]) (by rw [← ht.eq]; exact List.getElem_mem hk)
    have := ht.len
    omega))
  have HN := Lib.hid hnode
  have HM := Lib.hid hmem
  have HFl := Lib.hid hfl
  have HU := Lib.hid hun
  have HQ := Lib.hid hq
  have hspl := (spots_small t (win W H) (by omega)).1
  clear h ht hf hr hfn hs hnode hmem hfl hun hq hroom hin
  generalize t.spots (win W H) = sps at *
  generalize t.bords (win W H) = bs at *
  generalize hn0d : side d sR = n0 at *
  have HSd := Lib.hid hn0d
  clear hn0d
  go_enter Try.func33, Try.ntmps33
  go_wp2_with fail
  refine (HP.out _ B0.out).mono ?_
  rintro x w2 ⟨v, u, rfl, o1, _, hb⟩
  have m2 := TB.below M0.out hb (by simp; omega)
  have z2 : TB w2 (w.heap.size + 1) (.slice none 0 0) := by
    have := TB.below C0.out hb (by simp)
    rw [World.size_alloc] at this
    exact this
  have hb2 := B0.out.trans (hb.mono (by simp; omega))
  have hs2 := z2.lt
  obtain ⟨E, ce, rfl, hce, hte⟩ := SV.of_own (E := ES) o1 (by decide)
  clear hb o1
  have k0 := m2.cell
  have HTE := Lib.hid hte
  clear hte
  go_wp2_with fail
  refine (HA.out _ hb2).mono ?_
  rintro x w3 ⟨j, rfl, hj, hb3⟩
  obtain ⟨kk, rfl, hkl, nn, hnn, hnp⟩ : ∃ k : Nat, j = k ∧ k < l.length ∧ ∃ n, l[k]? = some n ∧ n.p = at_ := by
    rcases hj with h | ⟨_, h⟩
    · exact h
    · obtain ⟨n, hn, hp⟩ := HM.out
      exact absurd hp (h n hn)
  obtain rfl := HN.out kk nn hnn hnp
  have m3 := m2.below hb3 (by omega)
  have z3 := z2.below hb3 hs2
  have hb4 := hb2.trans (hb3.mono hb2.size)
  have HTE3 := Lib.hid (TabAt.below HTE.out hb3 (Nat.le_refl _))
  have hs3 := z3.lt
  have HNN := Lib.hid hnn
  clear hj hnn hnp k0
  have k0 := m3.cell
  have hk0 : ¬ (kk : Int) < 0 := by omega
  have hf1 : ¬ fresh < 1 := by omega
  have hl2 : ¬ (l.length : Int) + 2 > 63 := by omega
  go_wp2_with fail
  refine (HF.out _ hb4).mono ?_
  rintro x w4 ⟨j, rfl, hj, hb5⟩
  obtain rfl : j = -1 := by
    rcases hj with ⟨k, _, _, n, hn, hp⟩ | ⟨h, _⟩
    · exact absurd hp (HFl.out n (List.mem_of_getElem? hn))
    · exact h
  have m4 := m3.below hb5 (by omega)
  have z4 := z3.below hb5 hs3
  have hb6 := hb4.trans (hb5.mono hb4.size)
  have HTE4 := Lib.hid (TabAt.below HTE3.out hb5 (Nat.le_refl _))
  have hs4 := z4.lt
  clear hj k0 HTE HTE3 m2 m3 z2 z3 hb2 hb3 hb4 hb5
  have k0 := m4.cell
  rcases hd with rfl | rfl
  · go_wp2_with fail
    go_loopw [20, 21] (RoomRel w4 q sps.length n0) (fun _ i _ => sps.length - (intOf i).toNat)
    case atStart => exact ⟨0, rfl, Nat.zero_le _, by simp, rfl⟩
    case round =>
      obtain ⟨k, rfl, hle, rfl, rfl⟩ := hrel
      by_cases hlt : k < sps.length
      · have hki : (k : Int) < (sps.length : Int) := by omega
        have hkk := List.getElem?_eq_getElem hlt
        obtain ⟨b, off, rfl, h1, h2, h3, c0, c1, c2, c3, c4⟩ := spot_at HTE4.out k _ hkk
        have HK := Lib.hid hkk
        clear hkk
        generalize sps[k] = y at *
        obtain ⟨yp, yX, yY, yW, yH⟩ := y
        dsimp only at c0 c1 c2 c3 c4
        by_cases hyp : yp = at_
        · have HKQ := Lib.hid (HU.out k _ HK.out hyp)
          have hyy : (⟨yp, ⟨yX, yY, yW, yH⟩⟩ : Sp) = ⟨sp, sR⟩ := by
            have h1 := HK.out
            have h2 := HQ.out
            rw [HKQ.out] at h1
            exact Option.some.inj (h1.symm.trans h2)
          have hside := HSd.out
          simp only [Sp.mk.injEq] at hyy
          rw [← hyy.2] at hside
          simp only [side, if_true, if_false, show ¬ ((2 : Int) = 1) by decide] at hside
          have HSI := Lib.hid hside
          clear hside hyy
          subst hyp
          go_wp2_with fail
          go_roundw
          case rel => exact ⟨k + 1, by go_num, by omega, by rw [if_pos (by have := HKQ.out; omega)]; exact congrArg (Value.int .i64) HSI.out, rfl⟩
          case measure => simp [intOf]; omega
        · have hne : (yp == at_) = false := by simpa using hyp
          have hqk : q ≠ k := by
            rintro rfl
            have h2 := Option.some.inj (HK.out.symm.trans HQ.out)
            simp only [Sp.mk.injEq] at h2
            exact hyp (h2.1.trans hsp)
          obtain ⟨nz, hnz⟩ : ∃ nz, nz = (if q < k then n0 else 0) := ⟨_, rfl⟩
          have HNZ := Lib.hid (show nz = (if q < k + 1 then n0 else 0) by rw [hnz]; by_cases h : q < k <;> simp [h] <;> omega)
          rw [← hnz]
          clear hnz
          go_wp2_with fail
          go_roundw
          case rel => exact ⟨k + 1, by go_num, by omega, congrArg (Value.int .i64) HNZ.out, rfl⟩
          case measure => simp [intOf]; omega
      · have ek : k = sps.length := by omega
        have hql : q < sps.length := (List.getElem?_eq_some_iff.1 HQ.out).1
        rw [if_pos (by omega)]
        subst ek
        have HTab := Lib.hid (HH.out _ hb6)
        have HBk := Lib.hid hb6
        clear hb6
        by_cases hroom : n0 < 3
        · have kz := z4.cell
          have kf := z4.frozen
          go_wp2_with fail
          have kc := (z4.set (.slice none 0 0)).cell
          refine bodyPost_ret (v := .tuple #[.agg #[.slice none 0 0], .bool false]) (by simp [results, Try.results33, go_sem, kc, kz]) rfl (.inr ⟨hroom, rfl, ?_⟩)
          exact HBk.out.setCell (p := ⟨w.heap.size + 1, 0, none⟩) (by simp) _
        · obtain ⟨pp, hpp⟩ : ∃ pp, pp = partF (n0 - 1) r := ⟨_, rfl⟩
          obtain ⟨f, hff⟩ : ∃ f, f = heldF pp 1 (n0 - 2) := ⟨_, rfl⟩
          have HPart := Lib.hid (rpart_any (n0 - 1) r)
          have HHeld := Lib.hid (rheld_any pp 1 (n0 - 2))
          rw [← hpp] at HPart
          rw [← hff] at HHeld
          have hfb : 1 ≤ f ∧ f ≤ n0 - 2 := by rw [hff]; unfold heldF; omega
          clear hpp hff
          go_wp2_with fail
          go_loopw [22, 23] (OutRel w4 fresh 1 f kk l) (fun _ i _ => l.length - (intOf i).toNat)
          case atStart => exact ⟨0, rfl, Nat.zero_le _, by rw [T.part_zero]; exact World.ownsRow_nil w4 _ 23 5, Below.refl _ _⟩
          case round =>
            obtain ⟨k, rfl, hle, ho, hb⟩ := hrel
            have hpl := T.part_len fresh 1 f kk l k
            have HO := Lib.hid ho
            clear ho
            have hbk := HBk.out.trans (hb.mono HBk.out.size)
            have m5 := m4.below hb (by omega)
            have hG : w.heap.size < wr.heap.size := m5.lt
            have z5 := z4.below hb hs4
            have hsz4 := hb.size
            clear k0
            have k0 := m5.cell
            by_cases hlt : k < l.length
            · have hki : (k : Int) < (l.length : Int) := by omega
              have hkk := List.getElem?_eq_getElem hlt
              obtain ⟨b, off, rfl, h1, h2, h3, c0, c1, c2, c3, c4⟩ := node_at (HH.out _ hbk) k _ hkk
              have hab := HAB.out k hlt
              have HK := Lib.hid hkk
              clear hkk
              generalize l[k] = n at *
              by_cases hkkk : k = kk
              · subst hkkk
                obtain rfl := Option.some.inj (HK.out.symm.trans HNN.out)
                have HPE := Lib.hid (T.part_eq (fresh := fresh) (d := 1) (f := f) HK.out)
                obtain ⟨b', off', eb, _, hbw, _⟩ := node_at HTab.out k _ HK.out
                simp only [Option.some.injEq, Addr.mk.injEq, and_true] at eb
                obtain ⟨rfl, rfl⟩ := eb
                obtain ⟨V, vc, hv, _⟩ := SV.of_own (E := EN) HO.out (by decide)
                subst hv
                clear hab
                dsimp only [leafN] at c0 c1 c2 c3 c4
                generalize T.partL fresh 1 f k l k = pl at *
                go_upto_region 20 with fail
                refine wp_region_held_drew (S := (fun wv => wv.cell? ⟨w.heap.size, 0, none⟩ = some (.slice (some ⟨b, off, none⟩) l.length c) ∧ wv.cell? ⟨b, off + k * 5, none⟩ = some (.int .i64 at_) ∧ wv.cell? ⟨b, off + k * 5 + 1, none⟩ = some (.int .i64 0) ∧ wv.cell? ⟨b, off + k * 5 + 2, none⟩ = some (.int .i64 0) ∧ wv.cell? ⟨b, off + k * 5 + 3, none⟩ = some (.int .i64 0) ∧ wv.cell? ⟨b, off + k * 5 + 4, none⟩ = some (.int .i64 0))) (by kernel_rfl) (by exact ⟨k0, c0, c1, c2, c3, c4⟩) (fun hH0 => ?_)
                have hzd : wr.drew.heap.size ≤ wr.heap.size ∧ wr.heap.size ≤ wr.drew.heap.size := ⟨Nat.le_refl _, Nat.le_refl _⟩
                have HO := Lib.hid (show wr.drew.ownsRow w4.heap.size 23 5 (.slice V pl.length vc) pl.length (EN.flat pl) from HO.out)
                have HBy := Lib.hid hb.drew
                have HBW := Lib.hid hbk.drew
                clear hb hbk
                generalize wr.drew = wy at *
                refine wpAnyH_take (i := 0) (oi := _) (v := .slice V pl.length vc) rfl (by kernel_rfl) (by kernel_rfl) (by kernel_rfl) (fun _ _ _ h => h) (Or.inl ⟨by rfl, ?_⟩) hH0 ?_
                · intro wv hSw
                  try dsimp only at hSw
                  go_simp
                change wpAnyH _ _ _ _ _ _ _ (Act.put _ (some 107) (.slice V pl.length vc)) _
                simp only [Act.put, List.setIfInBounds_toArray, List.set_cons_zero, List.set_cons_succ]
                refine wpAnyH_take (i := 1) (oi := _) (v := .int .i64 1) rfl (by kernel_rfl) (by kernel_rfl) (by kernel_rfl) (fun _ _ _ h => h) (Or.inl ⟨by rfl, ?_⟩) hH0 ?_
                · intro wv hSw
                  try dsimp only at hSw
                  go_simp
                change wpAnyH _ _ _ _ _ _ _ (Act.put _ (some 108) (.int .i64 1)) _
                simp only [Act.put, List.setIfInBounds_toArray, List.set_cons_zero, List.set_cons_succ]
                refine wpAnyH_take (i := 2) (oi := _) (v := .int .i64 n0) rfl (by kernel_rfl) (by kernel_rfl) (by kernel_rfl) (fun _ _ _ h => h) (Or.inl ⟨by rfl, ?_⟩) hH0 ?_
                · intro wv hSw
                  try dsimp only at hSw
                  go_simp
                change wpAnyH _ _ _ _ _ _ _ (Act.put _ (some 109) (.int .i64 n0)) _
                simp only [Act.put, List.setIfInBounds_toArray, List.set_cons_zero, List.set_cons_succ]
                refine wpAnyH_take (i := 3) (oi := _) (v := .int .i64 (n0 - 1)) rfl (by kernel_rfl) (by kernel_rfl) (by kernel_rfl) (fun _ _ _ h => h) (Or.inl ⟨by rfl, ?_⟩) hH0 ?_
                · intro wv hSw
                  try dsimp only at hSw
                  go_simp
                  all_goals exact wrap_i64_small (n0 - 1) (by omega) (by omega)
                change wpAnyH _ _ _ _ _ _ _ (Act.put _ (some 110) (.int .i64 (n0 - 1))) _
                simp only [Act.put, List.setIfInBounds_toArray, List.set_cons_zero, List.set_cons_succ]
                refine wpAnyH_take (i := 4) (oi := _) (v := .float .f64 r) rfl (by kernel_rfl) (by kernel_rfl) (by kernel_rfl) (fun _ _ _ h => h) (Or.inl ⟨by rfl, ?_⟩) hH0 ?_
                · intro wv hSw
                  try dsimp only at hSw
                  go_simp
                change wpAnyH _ _ _ _ _ _ _ (Act.put _ (some 111) (.float .f64 r)) _
                simp only [Act.put, List.setIfInBounds_toArray, List.set_cons_zero, List.set_cons_succ]
                refine wpAnyH_take (i := 6) (oi := _) (v := .int .i64 n0) rfl (by kernel_rfl) (by kernel_rfl) (by kernel_rfl) (fun _ _ _ h => h) (Or.inl ⟨by rfl, ?_⟩) hH0 ?_
                · intro wv hSw
                  try dsimp only at hSw
                  go_simp
                change wpAnyH _ _ _ _ _ _ _ (Act.put _ (some 113) (.int .i64 n0)) _
                simp only [Act.put, List.setIfInBounds_toArray, List.set_cons_zero, List.set_cons_succ]
                refine wpAnyH_take (i := 7) (oi := _) (v := .int .i64 (n0 - 2)) rfl (by kernel_rfl) (by kernel_rfl) (by kernel_rfl) (fun _ _ _ h => h) (Or.inl ⟨by rfl, ?_⟩) hH0 ?_
                · intro wv hSw
                  try dsimp only at hSw
                  go_simp
                  all_goals exact wrap_i64_small (n0 - 2) (by omega) (by omega)
                change wpAnyH _ _ _ _ _ _ _ (Act.put _ (some 114) (.int .i64 (n0 - 2))) _
                simp only [Act.put, List.setIfInBounds_toArray, List.set_cons_zero, List.set_cons_succ]
                refine wpAnyH_take (i := 9) (oi := _) (v := .int .i64 (k : Int)) rfl (by kernel_rfl) (by kernel_rfl) (by kernel_rfl) (fun _ _ _ h => h) (Or.inl ⟨by rfl, ?_⟩) hH0 ?_
                · intro wv hSw
                  try dsimp only at hSw
                  go_simp
                change wpAnyH _ _ _ _ _ _ _ (Act.put _ (some 116) (.int .i64 (k : Int))) _
                simp only [Act.put, List.setIfInBounds_toArray, List.set_cons_zero, List.set_cons_succ]
                refine wpAnyH_take (i := 10) (oi := _) (v := .int .i64 ((k : Int) + 1)) rfl (by kernel_rfl) (by kernel_rfl) (by kernel_rfl) (fun _ _ _ h => h) (Or.inl ⟨by rfl, ?_⟩) hH0 ?_
                · intro wv hSw
                  try dsimp only at hSw
                  go_simp
                  all_goals exact wrap_i64_small ((k : Int) + 1) (by omega) (by omega)
                change wpAnyH _ _ _ _ _ _ _ (Act.put _ (some 117) (.int .i64 ((k : Int) + 1))) _
                simp only [Act.put, List.setIfInBounds_toArray, List.set_cons_zero, List.set_cons_succ]
                refine wpAnyH_take (i := 11) (oi := _) (v := .int .i64 (k : Int)) rfl (by kernel_rfl) (by kernel_rfl) (by kernel_rfl) (fun _ _ _ h => h) (Or.inl ⟨by rfl, ?_⟩) hH0 ?_
                · intro wv hSw
                  try dsimp only at hSw
                  go_simp
                change wpAnyH _ _ _ _ _ _ _ (Act.put _ (some 118) (.int .i64 (k : Int))) _
                simp only [Act.put, List.setIfInBounds_toArray, List.set_cons_zero, List.set_cons_succ]
                refine wpAnyH_take (i := 12) (oi := _) (v := .int .i64 ((k : Int) + 2)) rfl (by kernel_rfl) (by kernel_rfl) (by kernel_rfl) (fun _ _ _ h => h) (Or.inl ⟨by rfl, ?_⟩) hH0 ?_
                · intro wv hSw
                  try dsimp only at hSw
                  go_simp
                  all_goals exact wrap_i64_small ((k : Int) + 2) (by omega) (by omega)
                change wpAnyH _ _ _ _ _ _ _ (Act.put _ (some 119) (.int .i64 ((k : Int) + 2))) _
                simp only [Act.put, List.setIfInBounds_toArray, List.set_cons_zero, List.set_cons_succ]
                refine wpAnyH_take (i := 14) (oi := _) (v := .pointer (some ⟨w.heap.size, 0, none⟩)) rfl (by kernel_rfl) (by kernel_rfl) (by kernel_rfl) (fun _ _ _ h => h) (Or.inl ⟨by rfl, ?_⟩) hH0 ?_
                · intro wv hSw
                  try dsimp only at hSw
                  go_simp
                change wpAnyH _ _ _ _ _ _ _ (Act.put _ (some 121) (.pointer (some ⟨w.heap.size, 0, none⟩))) _
                simp only [Act.put, List.setIfInBounds_toArray, List.set_cons_zero, List.set_cons_succ]
                refine wpAnyH_take (i := 15) (oi := _) (v := .slice (some ⟨b, off, none⟩) l.length c) rfl (by kernel_rfl) (by kernel_rfl) (by kernel_rfl) (fun _ _ _ h => h) (Or.inl ⟨by rfl, ?_⟩) hH0 ?_
                · intro wv hSw
                  try dsimp only at hSw
                  go_simp
                change wpAnyH _ _ _ _ _ _ _ (Act.put _ (some 122) (.slice (some ⟨b, off, none⟩) l.length c)) _
                simp only [Act.put, List.setIfInBounds_toArray, List.set_cons_zero, List.set_cons_succ]
                refine wpAnyH_take (i := 16) (oi := _) (v := .int .i64 (k : Int)) rfl (by kernel_rfl) (by kernel_rfl) (by kernel_rfl) (fun _ _ _ h => h) (Or.inl ⟨by rfl, ?_⟩) hH0 ?_
                · intro wv hSw
                  try dsimp only at hSw
                  go_simp
                change wpAnyH _ _ _ _ _ _ _ (Act.put _ (some 123) (.int .i64 (k : Int))) _
                simp only [Act.put, List.setIfInBounds_toArray, List.set_cons_zero, List.set_cons_succ]
                refine wpAnyH_take (i := 17) (oi := _) (v := .pointer (some ⟨b, off + k * 5, none⟩)) rfl (by kernel_rfl) (by kernel_rfl) (by kernel_rfl) (fun _ _ _ h => h) (Or.inl ⟨by rfl, ?_⟩) hH0 ?_
                · intro wv hSw
                  try dsimp only at hSw
                  go_simp
                change wpAnyH _ _ _ _ _ _ _ (Act.put _ (some 124) (.pointer (some ⟨b, off + k * 5, none⟩))) _
                simp only [Act.put, List.setIfInBounds_toArray, List.set_cons_zero, List.set_cons_succ]
                refine wpAnyH_take (i := 18) (oi := _) (v := .agg #[.int .i64 at_, .int .i64 0, .int .i64 0, .int .i64 0, .int .i64 0]) rfl (by kernel_rfl) (by kernel_rfl) (by kernel_rfl) (fun _ _ _ h => h) (Or.inl ⟨by rfl, ?_⟩) hH0 ?_
                · intro wv hSw
                  try dsimp only at hSw
                  go_simp
                change wpAnyH _ _ _ _ _ _ _ (Act.put _ (some 125) (.agg #[.int .i64 at_, .int .i64 0, .int .i64 0, .int .i64 0, .int .i64 0])) _
                simp only [Act.put, List.setIfInBounds_toArray, List.set_cons_zero, List.set_cons_succ]
                refine wpAnyH_take (i := 19) (oi := _) (v := .int .i64 fresh) rfl (by kernel_rfl) (by kernel_rfl) (by kernel_rfl) (fun _ _ _ h => h) (Or.inl ⟨by rfl, ?_⟩) hH0 ?_
                · intro wv hSw
                  try dsimp only at hSw
                  go_simp
                change wpAnyH _ _ _ _ _ _ _ (Act.put _ (some 126) (.int .i64 fresh)) _
                simp only [Act.put, List.setIfInBounds_toArray, List.set_cons_zero, List.set_cons_succ]
                refine wpAnyH_take (i := 20) (oi := _) (v := .agg #[.int .i64 fresh, .int .i64 0, .int .i64 0, .int .i64 0, .int .i64 0]) rfl (by kernel_rfl) (by kernel_rfl) (by kernel_rfl) (fun _ _ _ h => h) (Or.inl ⟨by rfl, ?_⟩) hH0 ?_
                · intro wv hSw
                  try dsimp only at hSw
                  go_simp
                change wpAnyH _ _ _ _ _ _ _ (Act.put _ (some 127) (.agg #[.int .i64 fresh, .int .i64 0, .int .i64 0, .int .i64 0, .int .i64 0])) _
                simp only [Act.put, List.setIfInBounds_toArray, List.set_cons_zero, List.set_cons_succ]
                refine wpAnyH_ready (rs := [5]) (by kernel_rfl) (by simp) ?_
                refine AllReadyH.cons (o := _) rfl (fun K hK => ?_) AllReadyH.nil
                go_simp
                refine (HPart.out _).mono ?_
                rintro e wp ⟨rfl, rfl⟩
                refine hK.out _ _ (by exact hH0) (fun hH1 => ?_)
                clear hK K
                try simp only [Act.put, List.setIfInBounds_toArray, List.set_cons_zero, List.set_cons_succ]
                refine wpAnyH_ready (rs := [8]) (by kernel_rfl) (by simp) ?_
                refine AllReadyH.cons (o := _) rfl (fun K hK => ?_) AllReadyH.nil
                go_simp
                refine (HHeld.out _).mono ?_
                rintro e wp ⟨rfl, rfl⟩
                refine hK.out _ _ (by exact hH1) (fun hH2 => ?_)
                clear hK K
                try simp only [Act.put, List.setIfInBounds_toArray, List.set_cons_zero, List.set_cons_succ]
                refine wpAnyH_take (i := 13) (oi := _) (v := .agg #[.int .i64 0, .int .i64 1, .int .i64 f, .int .i64 ((k : Int) + 1), .int .i64 ((k : Int) + 2)]) rfl (by kernel_rfl) (by kernel_rfl) (by kernel_rfl) (fun _ _ _ h => h) (Or.inl ⟨by rfl, ?_⟩) hH2 ?_
                · intro wv hSw
                  try dsimp only at hSw
                  go_simp
                change wpAnyH _ _ _ _ _ _ _ (Act.put _ (some 120) (.agg #[.int .i64 0, .int .i64 1, .int .i64 f, .int .i64 ((k : Int) + 1), .int .i64 ((k : Int) + 2)])) _
                simp only [Act.put, List.setIfInBounds_toArray, List.set_cons_zero, List.set_cons_succ]
                refine wpAnyH_ready (rs := [21]) (by kernel_rfl) (by simp) ?_
                refine AllReadyH.cons (o := _) rfl (fun K hK => ?_) AllReadyH.nil
                go_simp
                have hq := hH2
                have gz := below_new wy (.cells #[.int .i64 0, .int .i64 1, .int .i64 f, .int .i64 ((k : Int) + 1), .int .i64 ((k : Int) + 2), .int .i64 at_, .int .i64 0, .int .i64 0, .int .i64 0, .int .i64 0, .int .i64 fresh, .int .i64 0, .int .i64 0, .int .i64 0, .int .i64 0] 23)
                have own3 := own_new wy 23 5 3 [.int .i64 0, .int .i64 1, .int .i64 f, .int .i64 ((k : Int) + 1), .int .i64 ((k : Int) + 2), .int .i64 at_, .int .i64 0, .int .i64 0, .int .i64 0, .int .i64 0, .int .i64 fresh, .int .i64 0, .int .i64 0, .int .i64 0, .int .i64 0] rfl (by omega)
                have ov3 := own_below HO.out gz (Nat.le_refl _)
                have gz0 : Below w4.heap.size wy (wy.alloc (.cells #[.int .i64 0, .int .i64 1, .int .i64 f, .int .i64 ((k : Int) + 1), .int .i64 ((k : Int) + 2), .int .i64 at_, .int .i64 0, .int .i64 0, .int .i64 0, .int .i64 0, .int .i64 fresh, .int .i64 0, .int .i64 0, .int .i64 0, .int .i64 0] 23)) := gz.mono (by omega)
                have gs : wy.heap.size ≤ (wy.alloc (.cells #[.int .i64 0, .int .i64 1, .int .i64 f, .int .i64 ((k : Int) + 1), .int .i64 ((k : Int) + 2), .int .i64 at_, .int .i64 0, .int .i64 0, .int .i64 0, .int .i64 0, .int .i64 fresh, .int .i64 0, .int .i64 0, .int .i64 0, .int .i64 0] 23)).heap.size := gz.size
                refine hK.out _ _ (by exact ⟨(gz.cell (p := ⟨w.heap.size, 0, none⟩) (by simp; omega)).trans hq.1, (gz.cell (p := ⟨b, _, none⟩) (by simp; omega)).trans hq.2.1, (gz.cell (p := ⟨b, _, none⟩) (by simp; omega)).trans hq.2.2.1, (gz.cell (p := ⟨b, _, none⟩) (by simp; omega)).trans hq.2.2.2.1, (gz.cell (p := ⟨b, _, none⟩) (by simp; omega)).trans hq.2.2.2.2.1, (gz.cell (p := ⟨b, _, none⟩) (by simp; omega)).trans hq.2.2.2.2.2⟩) (fun hH3 => ?_)
                clear hK K
                try simp only [Act.put, List.setIfInBounds_toArray, List.set_cons_zero, List.set_cons_succ]
                generalize (wy.alloc (.cells #[.int .i64 0, .int .i64 1, .int .i64 f, .int .i64 ((k : Int) + 1), .int .i64 ((k : Int) + 2), .int .i64 at_, .int .i64 0, .int .i64 0, .int .i64 0, .int .i64 0, .int .i64 fresh, .int .i64 0, .int .i64 0, .int .i64 0, .int .i64 0] 23)) = wx at *
                refine wpAnyH_ready (rs := [22]) (by kernel_rfl) (by simp) ?_
                refine AllReadyH.cons (o := _) rfl (fun K hK => ?_) AllReadyH.nil
                refine step_append_src _ (by rfl) (.tmp 107) (.tmp 128) 26 (by rfl) rowN w4.heap.size pl.length 3 3 _ (some ⟨wy.heap.size, 0, none⟩) (EN.flat pl) [.int .i64 0, .int .i64 1, .int .i64 f, .int .i64 ((k : Int) + 1), .int .i64 ((k : Int) + 2), .int .i64 at_, .int .i64 0, .int .i64 0, .int .i64 0, .int .i64 0, .int .i64 fresh, .int .i64 0, .int .i64 0, .int .i64 0, .int .i64 0] (by rfl) (by rfl) (by exact ov3) (by exact (SV.src (E := EN) (l := [⟨0, 1, f, (k : Int) + 1, (k : Int) + 2⟩, leafN at_, leafN fresh]) (SV.of_own own3 (by decide))).1) rfl (EN.flat_all [⟨0, 1, f, (k : Int) + 1, (k : Int) + 2⟩, leafN at_, leafN fresh]) (by omega) (by omega) ?_
                rintro va wa ⟨oa, ba, _⟩
                refine hK.out _ _ (by exact ⟨(ba.cell (p := ⟨w.heap.size, 0, none⟩) (by simp; omega)).trans hH3.1, (ba.cell (p := ⟨b, _, none⟩) (by simp; omega)).trans hH3.2.1, (ba.cell (p := ⟨b, _, none⟩) (by simp; omega)).trans hH3.2.2.1, (ba.cell (p := ⟨b, _, none⟩) (by simp; omega)).trans hH3.2.2.2.1, (ba.cell (p := ⟨b, _, none⟩) (by simp; omega)).trans hH3.2.2.2.2.1, (ba.cell (p := ⟨b, _, none⟩) (by simp; omega)).trans hH3.2.2.2.2.2⟩) (fun hH4 => ?_)
                clear hK K
                try simp only [Act.put, List.setIfInBounds_toArray, List.set_cons_zero, List.set_cons_succ]
                refine wpAnyH_take (i := 23) (oi := _) (v := va) rfl (by kernel_rfl) (by kernel_rfl) (by kernel_rfl) (fun _ _ _ h => h) (Or.inl ⟨by rfl, by intro wv hSw; go_simp⟩) hH4 ?_
                change wpAnyH _ _ _ _ _ _ _ (Act.put _ (some 22) (va)) _
                simp only [Act.put, List.setIfInBounds_toArray, List.set_cons_zero, List.set_cons_succ]
                refine wpAnyH_done (by kernel_rfl) ?_ _
                clear hH0 hH1 hH2 hH3 hH4
                go_wp2_with fail
                go_roundw
                case rel => exact ⟨k + 1, by go_num, by omega, by rw [HPE.out, EN.flat_app, List.length_append]; exact oa, (HBy.out.trans gz0).trans ba⟩
                case measure => simp [intOf]; omega
              · have hne : ((k : Int) == (kk : Int)) = false := by simp; omega
                have HPE : Hid (T.partL fresh 1 f kk l (k + 1) = T.partL fresh 1 f kk l k ++ [movedF n kk 2]) := by
                  refine Lib.hid ?_
                  rcases Nat.lt_or_gt_of_ne hkkk with h | h
                  · exact T.part_lt h HK.out
                  · exact T.part_gt h HK.out
                have HMv := Lib.hid (fun w' => moved_any n kk w' hab.1 hab.2)
                have OB5 := Lib.hid (fun w5 (h5 : Below wr.heap.size wr w5) => own_below HO.out h5 (Nat.le_refl _))
                clear hab
                generalize movedF n kk 2 = mn at *
                obtain ⟨np, nd, nf, na, nb⟩ := n
                obtain ⟨mp, md, mf, ma, mb⟩ := mn
                unfold nv at HMv
                dsimp only at c0 c1 c2 c3 c4 HMv
                generalize T.partL fresh 1 f kk l k = pl at *
                go_wp2_with fail
                refine (HMv.out _).mono ?_
                rintro x w5 ⟨rfl, h5⟩
                have HB2 : Below w5.heap.size w5 (w5.alloc (.cells #[.int .i64 mp, .int .i64 md, .int .i64 mf, .int .i64 ma, .int .i64 mb] 23)) := below_new _ _
                have HS : Src (w5.alloc (.cells #[.int .i64 mp, .int .i64 md, .int .i64 mf, .int .i64 ma, .int .i64 mb] 23)) (some ⟨w5.heap.size, 0, none⟩) [.int .i64 mp, .int .i64 md, .int .i64 mf, .int .i64 ma, .int .i64 mb] := TabAt.src (B := 0) (Held.tab (vs := [.int .i64 mp, .int .i64 md, .int .i64 mf, .int .i64 ma, .int .i64 mb]) (Held.new w5 23 #[.int .i64 mp, .int .i64 md, .int .i64 mf, .int .i64 ma, .int .i64 mb]) (Nat.zero_le _))
                have h5s := h5.size
                have OB := Lib.hid (own_below (OB5.out w5 h5) HB2 (Nat.le_refl _))
                have hb5 := hb.trans (h5.mono hb.size)
                have HB3 := Lib.hid (hb5.trans (HB2.mono hb5.size))
                have H2 := Lib.hid HS
                clear HB2 HS hb5
                go_wp2_with (
                  at_builtin
                  refine wpList_append_src _ rfl (.tmp 130) (.tmp 138) 26 rfl rowN w4.heap.size pl.length 1 1 _ _ (EN.flat pl) [.int .i64 mp, .int .i64 md, .int .i64 mf, .int .i64 ma, .int .i64 mb] rfl rfl OB.out H2.out rfl (EN.flat_all [⟨mp, md, mf, ma, mb⟩]) (by omega) (by simp; omega) ?_
                  rintro v3 w6 ⟨ho3, hb7, _⟩)
                go_roundw
                case rel => exact ⟨k + 1, by go_num, by omega, by rw [HPE.out, EN.flat_app, List.length_append]; exact ho3, HB3.out.trans hb7⟩
                case measure => simp [intOf]; omega
            · have ek : k = l.length := by omega
              subst ek
              have hko := HO.out
              rw [T.part_all hkl, ← HSL.out f kk HNN.out] at hko
              obtain ⟨Vd, vc, hv, _⟩ := SV.of_own (E := EN) hko (by decide)
              subst hv
              generalize hFF : (t.split at_ fresh 1 f).flat 0 = FF at *
              have HFF := Lib.hid hFF
              have HKO := Lib.hid hko
              clear hFF
              have kz := z5.cell
              have kf := z5.frozen
              clear hko
              go_wp2_with fail
              have kc := (z5.set (.slice Vd FF.length vc)).cell
              refine bodyPost_ret (v := .tuple #[.agg #[.slice Vd FF.length vc], .bool true]) (by simp [results, Try.results33, go_sem, kc]) rfl (.inl ⟨by omega, f, .slice Vd FF.length vc, hfb.1, hfb.2, rfl, ?_, ?_⟩)
              · rw [HFF.out]; exact own_weak (own_far HKO.out (by show w.heap.size + 1 < w4.heap.size; omega) _) (by omega)
              · exact hbk.setCell (p := ⟨w.heap.size + 1, 0, none⟩) (by simp) _
  · go_wp2_with fail
    go_loopw [20, 21] (RoomRel w4 q sps.length n0) (fun _ i _ => sps.length - (intOf i).toNat)
    case atStart => exact ⟨0, rfl, Nat.zero_le _, by simp, rfl⟩
    case round =>
      obtain ⟨k, rfl, hle, rfl, rfl⟩ := hrel
      by_cases hlt : k < sps.length
      · have hki : (k : Int) < (sps.length : Int) := by omega
        have hkk := List.getElem?_eq_getElem hlt
        obtain ⟨b, off, rfl, h1, h2, h3, c0, c1, c2, c3, c4⟩ := spot_at HTE4.out k _ hkk
        have HK := Lib.hid hkk
        clear hkk
        generalize sps[k] = y at *
        obtain ⟨yp, yX, yY, yW, yH⟩ := y
        dsimp only at c0 c1 c2 c3 c4
        by_cases hyp : yp = at_
        · have HKQ := Lib.hid (HU.out k _ HK.out hyp)
          have hyy : (⟨yp, ⟨yX, yY, yW, yH⟩⟩ : Sp) = ⟨sp, sR⟩ := by
            have h1 := HK.out
            have h2 := HQ.out
            rw [HKQ.out] at h1
            exact Option.some.inj (h1.symm.trans h2)
          have hside := HSd.out
          simp only [Sp.mk.injEq] at hyy
          rw [← hyy.2] at hside
          simp only [side, if_true, if_false, show ¬ ((2 : Int) = 1) by decide] at hside
          have HSI := Lib.hid hside
          clear hside hyy
          subst hyp
          go_wp2_with fail
          go_roundw
          case rel => exact ⟨k + 1, by go_num, by omega, by rw [if_pos (by have := HKQ.out; omega)]; exact congrArg (Value.int .i64) HSI.out, rfl⟩
          case measure => simp [intOf]; omega
        · have hne : (yp == at_) = false := by simpa using hyp
          have hqk : q ≠ k := by
            rintro rfl
            have h2 := Option.some.inj (HK.out.symm.trans HQ.out)
            simp only [Sp.mk.injEq] at h2
            exact hyp (h2.1.trans hsp)
          obtain ⟨nz, hnz⟩ : ∃ nz, nz = (if q < k then n0 else 0) := ⟨_, rfl⟩
          have HNZ := Lib.hid (show nz = (if q < k + 1 then n0 else 0) by rw [hnz]; by_cases h : q < k <;> simp [h] <;> omega)
          rw [← hnz]
          clear hnz
          go_wp2_with fail
          go_roundw
          case rel => exact ⟨k + 1, by go_num, by omega, congrArg (Value.int .i64) HNZ.out, rfl⟩
          case measure => simp [intOf]; omega
      · have ek : k = sps.length := by omega
        have hql : q < sps.length := (List.getElem?_eq_some_iff.1 HQ.out).1
        rw [if_pos (by omega)]
        subst ek
        have HTab := Lib.hid (HH.out _ hb6)
        have HBk := Lib.hid hb6
        clear hb6
        by_cases hroom : n0 < 3
        · have kz := z4.cell
          have kf := z4.frozen
          go_wp2_with fail
          have kc := (z4.set (.slice none 0 0)).cell
          refine bodyPost_ret (v := .tuple #[.agg #[.slice none 0 0], .bool false]) (by simp [results, Try.results33, go_sem, kc, kz]) rfl (.inr ⟨hroom, rfl, ?_⟩)
          exact HBk.out.setCell (p := ⟨w.heap.size + 1, 0, none⟩) (by simp) _
        · obtain ⟨pp, hpp⟩ : ∃ pp, pp = partF (n0 - 1) r := ⟨_, rfl⟩
          obtain ⟨f, hff⟩ : ∃ f, f = heldF pp 1 (n0 - 2) := ⟨_, rfl⟩
          have HPart := Lib.hid (rpart_any (n0 - 1) r)
          have HHeld := Lib.hid (rheld_any pp 1 (n0 - 2))
          rw [← hpp] at HPart
          rw [← hff] at HHeld
          have hfb : 1 ≤ f ∧ f ≤ n0 - 2 := by rw [hff]; unfold heldF; omega
          clear hpp hff
          go_wp2_with fail
          go_loopw [22, 23] (OutRel w4 fresh 2 f kk l) (fun _ i _ => l.length - (intOf i).toNat)
          case atStart => exact ⟨0, rfl, Nat.zero_le _, by rw [T.part_zero]; exact World.ownsRow_nil w4 _ 23 5, Below.refl _ _⟩
          case round =>
            obtain ⟨k, rfl, hle, ho, hb⟩ := hrel
            have hpl := T.part_len fresh 2 f kk l k
            have HO := Lib.hid ho
            clear ho
            have hbk := HBk.out.trans (hb.mono HBk.out.size)
            have m5 := m4.below hb (by omega)
            have hG : w.heap.size < wr.heap.size := m5.lt
            have z5 := z4.below hb hs4
            have hsz4 := hb.size
            clear k0
            have k0 := m5.cell
            by_cases hlt : k < l.length
            · have hki : (k : Int) < (l.length : Int) := by omega
              have hkk := List.getElem?_eq_getElem hlt
              obtain ⟨b, off, rfl, h1, h2, h3, c0, c1, c2, c3, c4⟩ := node_at (HH.out _ hbk) k _ hkk
              have hab := HAB.out k hlt
              have HK := Lib.hid hkk
              clear hkk
              generalize l[k] = n at *
              by_cases hkkk : k = kk
              · subst hkkk
                obtain rfl := Option.some.inj (HK.out.symm.trans HNN.out)
                have HPE := Lib.hid (T.part_eq (fresh := fresh) (d := 2) (f := f) HK.out)
                obtain ⟨b', off', eb, _, hbw, _⟩ := node_at HTab.out k _ HK.out
                simp only [Option.some.injEq, Addr.mk.injEq, and_true] at eb
                obtain ⟨rfl, rfl⟩ := eb
                obtain ⟨V, vc, hv, _⟩ := SV.of_own (E := EN) HO.out (by decide)
                subst hv
                clear hab
                dsimp only [leafN] at c0 c1 c2 c3 c4
                generalize T.partL fresh 2 f k l k = pl at *
                go_upto_region 20 with fail
                refine wp_region_held_drew (S := (fun wv => wv.cell? ⟨w.heap.size, 0, none⟩ = some (.slice (some ⟨b, off, none⟩) l.length c) ∧ wv.cell? ⟨b, off + k * 5, none⟩ = some (.int .i64 at_) ∧ wv.cell? ⟨b, off + k * 5 + 1, none⟩ = some (.int .i64 0) ∧ wv.cell? ⟨b, off + k * 5 + 2, none⟩ = some (.int .i64 0) ∧ wv.cell? ⟨b, off + k * 5 + 3, none⟩ = some (.int .i64 0) ∧ wv.cell? ⟨b, off + k * 5 + 4, none⟩ = some (.int .i64 0))) (by kernel_rfl) (by exact ⟨k0, c0, c1, c2, c3, c4⟩) (fun hH0 => ?_)
                have hzd : wr.drew.heap.size ≤ wr.heap.size ∧ wr.heap.size ≤ wr.drew.heap.size := ⟨Nat.le_refl _, Nat.le_refl _⟩
                have HO := Lib.hid (show wr.drew.ownsRow w4.heap.size 23 5 (.slice V pl.length vc) pl.length (EN.flat pl) from HO.out)
                have HBy := Lib.hid hb.drew
                have HBW := Lib.hid hbk.drew
                clear hb hbk
                generalize wr.drew = wy at *
                refine wpAnyH_take (i := 0) (oi := _) (v := .slice V pl.length vc) rfl (by kernel_rfl) (by kernel_rfl) (by kernel_rfl) (fun _ _ _ h => h) (Or.inl ⟨by rfl, ?_⟩) hH0 ?_
                · intro wv hSw
                  try dsimp only at hSw
                  go_simp
                change wpAnyH _ _ _ _ _ _ _ (Act.put _ (some 107) (.slice V pl.length vc)) _
                simp only [Act.put, List.setIfInBounds_toArray, List.set_cons_zero, List.set_cons_succ]
                refine wpAnyH_take (i := 1) (oi := _) (v := .int .i64 2) rfl (by kernel_rfl) (by kernel_rfl) (by kernel_rfl) (fun _ _ _ h => h) (Or.inl ⟨by rfl, ?_⟩) hH0 ?_
                · intro wv hSw
                  try dsimp only at hSw
                  go_simp
                change wpAnyH _ _ _ _ _ _ _ (Act.put _ (some 108) (.int .i64 2)) _
                simp only [Act.put, List.setIfInBounds_toArray, List.set_cons_zero, List.set_cons_succ]
                refine wpAnyH_take (i := 2) (oi := _) (v := .int .i64 n0) rfl (by kernel_rfl) (by kernel_rfl) (by kernel_rfl) (fun _ _ _ h => h) (Or.inl ⟨by rfl, ?_⟩) hH0 ?_
                · intro wv hSw
                  try dsimp only at hSw
                  go_simp
                change wpAnyH _ _ _ _ _ _ _ (Act.put _ (some 109) (.int .i64 n0)) _
                simp only [Act.put, List.setIfInBounds_toArray, List.set_cons_zero, List.set_cons_succ]
                refine wpAnyH_take (i := 3) (oi := _) (v := .int .i64 (n0 - 1)) rfl (by kernel_rfl) (by kernel_rfl) (by kernel_rfl) (fun _ _ _ h => h) (Or.inl ⟨by rfl, ?_⟩) hH0 ?_
                · intro wv hSw
                  try dsimp only at hSw
                  go_simp
                  all_goals exact wrap_i64_small (n0 - 1) (by omega) (by omega)
                change wpAnyH _ _ _ _ _ _ _ (Act.put _ (some 110) (.int .i64 (n0 - 1))) _
                simp only [Act.put, List.setIfInBounds_toArray, List.set_cons_zero, List.set_cons_succ]
                refine wpAnyH_take (i := 4) (oi := _) (v := .float .f64 r) rfl (by kernel_rfl) (by kernel_rfl) (by kernel_rfl) (fun _ _ _ h => h) (Or.inl ⟨by rfl, ?_⟩) hH0 ?_
                · intro wv hSw
                  try dsimp only at hSw
                  go_simp
                change wpAnyH _ _ _ _ _ _ _ (Act.put _ (some 111) (.float .f64 r)) _
                simp only [Act.put, List.setIfInBounds_toArray, List.set_cons_zero, List.set_cons_succ]
                refine wpAnyH_take (i := 6) (oi := _) (v := .int .i64 n0) rfl (by kernel_rfl) (by kernel_rfl) (by kernel_rfl) (fun _ _ _ h => h) (Or.inl ⟨by rfl, ?_⟩) hH0 ?_
                · intro wv hSw
                  try dsimp only at hSw
                  go_simp
                change wpAnyH _ _ _ _ _ _ _ (Act.put _ (some 113) (.int .i64 n0)) _
                simp only [Act.put, List.setIfInBounds_toArray, List.set_cons_zero, List.set_cons_succ]
                refine wpAnyH_take (i := 7) (oi := _) (v := .int .i64 (n0 - 2)) rfl (by kernel_rfl) (by kernel_rfl) (by kernel_rfl) (fun _ _ _ h => h) (Or.inl ⟨by rfl, ?_⟩) hH0 ?_
                · intro wv hSw
                  try dsimp only at hSw
                  go_simp
                  all_goals exact wrap_i64_small (n0 - 2) (by omega) (by omega)
                change wpAnyH _ _ _ _ _ _ _ (Act.put _ (some 114) (.int .i64 (n0 - 2))) _
                simp only [Act.put, List.setIfInBounds_toArray, List.set_cons_zero, List.set_cons_succ]
                refine wpAnyH_take (i := 9) (oi := _) (v := .int .i64 (k : Int)) rfl (by kernel_rfl) (by kernel_rfl) (by kernel_rfl) (fun _ _ _ h => h) (Or.inl ⟨by rfl, ?_⟩) hH0 ?_
                · intro wv hSw
                  try dsimp only at hSw
                  go_simp
                change wpAnyH _ _ _ _ _ _ _ (Act.put _ (some 116) (.int .i64 (k : Int))) _
                simp only [Act.put, List.setIfInBounds_toArray, List.set_cons_zero, List.set_cons_succ]
                refine wpAnyH_take (i := 10) (oi := _) (v := .int .i64 ((k : Int) + 1)) rfl (by kernel_rfl) (by kernel_rfl) (by kernel_rfl) (fun _ _ _ h => h) (Or.inl ⟨by rfl, ?_⟩) hH0 ?_
                · intro wv hSw
                  try dsimp only at hSw
                  go_simp
                  all_goals exact wrap_i64_small ((k : Int) + 1) (by omega) (by omega)
                change wpAnyH _ _ _ _ _ _ _ (Act.put _ (some 117) (.int .i64 ((k : Int) + 1))) _
                simp only [Act.put, List.setIfInBounds_toArray, List.set_cons_zero, List.set_cons_succ]
                refine wpAnyH_take (i := 11) (oi := _) (v := .int .i64 (k : Int)) rfl (by kernel_rfl) (by kernel_rfl) (by kernel_rfl) (fun _ _ _ h => h) (Or.inl ⟨by rfl, ?_⟩) hH0 ?_
                · intro wv hSw
                  try dsimp only at hSw
                  go_simp
                change wpAnyH _ _ _ _ _ _ _ (Act.put _ (some 118) (.int .i64 (k : Int))) _
                simp only [Act.put, List.setIfInBounds_toArray, List.set_cons_zero, List.set_cons_succ]
                refine wpAnyH_take (i := 12) (oi := _) (v := .int .i64 ((k : Int) + 2)) rfl (by kernel_rfl) (by kernel_rfl) (by kernel_rfl) (fun _ _ _ h => h) (Or.inl ⟨by rfl, ?_⟩) hH0 ?_
                · intro wv hSw
                  try dsimp only at hSw
                  go_simp
                  all_goals exact wrap_i64_small ((k : Int) + 2) (by omega) (by omega)
                change wpAnyH _ _ _ _ _ _ _ (Act.put _ (some 119) (.int .i64 ((k : Int) + 2))) _
                simp only [Act.put, List.setIfInBounds_toArray, List.set_cons_zero, List.set_cons_succ]
                refine wpAnyH_take (i := 14) (oi := _) (v := .pointer (some ⟨w.heap.size, 0, none⟩)) rfl (by kernel_rfl) (by kernel_rfl) (by kernel_rfl) (fun _ _ _ h => h) (Or.inl ⟨by rfl, ?_⟩) hH0 ?_
                · intro wv hSw
                  try dsimp only at hSw
                  go_simp
                change wpAnyH _ _ _ _ _ _ _ (Act.put _ (some 121) (.pointer (some ⟨w.heap.size, 0, none⟩))) _
                simp only [Act.put, List.setIfInBounds_toArray, List.set_cons_zero, List.set_cons_succ]
                refine wpAnyH_take (i := 15) (oi := _) (v := .slice (some ⟨b, off, none⟩) l.length c) rfl (by kernel_rfl) (by kernel_rfl) (by kernel_rfl) (fun _ _ _ h => h) (Or.inl ⟨by rfl, ?_⟩) hH0 ?_
                · intro wv hSw
                  try dsimp only at hSw
                  go_simp
                change wpAnyH _ _ _ _ _ _ _ (Act.put _ (some 122) (.slice (some ⟨b, off, none⟩) l.length c)) _
                simp only [Act.put, List.setIfInBounds_toArray, List.set_cons_zero, List.set_cons_succ]
                refine wpAnyH_take (i := 16) (oi := _) (v := .int .i64 (k : Int)) rfl (by kernel_rfl) (by kernel_rfl) (by kernel_rfl) (fun _ _ _ h => h) (Or.inl ⟨by rfl, ?_⟩) hH0 ?_
                · intro wv hSw
                  try dsimp only at hSw
                  go_simp
                change wpAnyH _ _ _ _ _ _ _ (Act.put _ (some 123) (.int .i64 (k : Int))) _
                simp only [Act.put, List.setIfInBounds_toArray, List.set_cons_zero, List.set_cons_succ]
                refine wpAnyH_take (i := 17) (oi := _) (v := .pointer (some ⟨b, off + k * 5, none⟩)) rfl (by kernel_rfl) (by kernel_rfl) (by kernel_rfl) (fun _ _ _ h => h) (Or.inl ⟨by rfl, ?_⟩) hH0 ?_
                · intro wv hSw
                  try dsimp only at hSw
                  go_simp
                change wpAnyH _ _ _ _ _ _ _ (Act.put _ (some 124) (.pointer (some ⟨b, off + k * 5, none⟩))) _
                simp only [Act.put, List.setIfInBounds_toArray, List.set_cons_zero, List.set_cons_succ]
                refine wpAnyH_take (i := 18) (oi := _) (v := .agg #[.int .i64 at_, .int .i64 0, .int .i64 0, .int .i64 0, .int .i64 0]) rfl (by kernel_rfl) (by kernel_rfl) (by kernel_rfl) (fun _ _ _ h => h) (Or.inl ⟨by rfl, ?_⟩) hH0 ?_
                · intro wv hSw
                  try dsimp only at hSw
                  go_simp
                change wpAnyH _ _ _ _ _ _ _ (Act.put _ (some 125) (.agg #[.int .i64 at_, .int .i64 0, .int .i64 0, .int .i64 0, .int .i64 0])) _
                simp only [Act.put, List.setIfInBounds_toArray, List.set_cons_zero, List.set_cons_succ]
                refine wpAnyH_take (i := 19) (oi := _) (v := .int .i64 fresh) rfl (by kernel_rfl) (by kernel_rfl) (by kernel_rfl) (fun _ _ _ h => h) (Or.inl ⟨by rfl, ?_⟩) hH0 ?_
                · intro wv hSw
                  try dsimp only at hSw
                  go_simp
                change wpAnyH _ _ _ _ _ _ _ (Act.put _ (some 126) (.int .i64 fresh)) _
                simp only [Act.put, List.setIfInBounds_toArray, List.set_cons_zero, List.set_cons_succ]
                refine wpAnyH_take (i := 20) (oi := _) (v := .agg #[.int .i64 fresh, .int .i64 0, .int .i64 0, .int .i64 0, .int .i64 0]) rfl (by kernel_rfl) (by kernel_rfl) (by kernel_rfl) (fun _ _ _ h => h) (Or.inl ⟨by rfl, ?_⟩) hH0 ?_
                · intro wv hSw
                  try dsimp only at hSw
                  go_simp
                change wpAnyH _ _ _ _ _ _ _ (Act.put _ (some 127) (.agg #[.int .i64 fresh, .int .i64 0, .int .i64 0, .int .i64 0, .int .i64 0])) _
                simp only [Act.put, List.setIfInBounds_toArray, List.set_cons_zero, List.set_cons_succ]
                refine wpAnyH_ready (rs := [5]) (by kernel_rfl) (by simp) ?_
                refine AllReadyH.cons (o := _) rfl (fun K hK => ?_) AllReadyH.nil
                go_simp
                refine (HPart.out _).mono ?_
                rintro e wp ⟨rfl, rfl⟩
                refine hK.out _ _ (by exact hH0) (fun hH1 => ?_)
                clear hK K
                try simp only [Act.put, List.setIfInBounds_toArray, List.set_cons_zero, List.set_cons_succ]
                refine wpAnyH_ready (rs := [8]) (by kernel_rfl) (by simp) ?_
                refine AllReadyH.cons (o := _) rfl (fun K hK => ?_) AllReadyH.nil
                go_simp
                refine (HHeld.out _).mono ?_
                rintro e wp ⟨rfl, rfl⟩
                refine hK.out _ _ (by exact hH1) (fun hH2 => ?_)
                clear hK K
                try simp only [Act.put, List.setIfInBounds_toArray, List.set_cons_zero, List.set_cons_succ]
                refine wpAnyH_take (i := 13) (oi := _) (v := .agg #[.int .i64 0, .int .i64 2, .int .i64 f, .int .i64 ((k : Int) + 1), .int .i64 ((k : Int) + 2)]) rfl (by kernel_rfl) (by kernel_rfl) (by kernel_rfl) (fun _ _ _ h => h) (Or.inl ⟨by rfl, ?_⟩) hH2 ?_
                · intro wv hSw
                  try dsimp only at hSw
                  go_simp
                change wpAnyH _ _ _ _ _ _ _ (Act.put _ (some 120) (.agg #[.int .i64 0, .int .i64 2, .int .i64 f, .int .i64 ((k : Int) + 1), .int .i64 ((k : Int) + 2)])) _
                simp only [Act.put, List.setIfInBounds_toArray, List.set_cons_zero, List.set_cons_succ]
                refine wpAnyH_ready (rs := [21]) (by kernel_rfl) (by simp) ?_
                refine AllReadyH.cons (o := _) rfl (fun K hK => ?_) AllReadyH.nil
                go_simp
                have hq := hH2
                have gz := below_new wy (.cells #[.int .i64 0, .int .i64 2, .int .i64 f, .int .i64 ((k : Int) + 1), .int .i64 ((k : Int) + 2), .int .i64 at_, .int .i64 0, .int .i64 0, .int .i64 0, .int .i64 0, .int .i64 fresh, .int .i64 0, .int .i64 0, .int .i64 0, .int .i64 0] 23)
                have own3 := own_new wy 23 5 3 [.int .i64 0, .int .i64 2, .int .i64 f, .int .i64 ((k : Int) + 1), .int .i64 ((k : Int) + 2), .int .i64 at_, .int .i64 0, .int .i64 0, .int .i64 0, .int .i64 0, .int .i64 fresh, .int .i64 0, .int .i64 0, .int .i64 0, .int .i64 0] rfl (by omega)
                have ov3 := own_below HO.out gz (Nat.le_refl _)
                have gz0 : Below w4.heap.size wy (wy.alloc (.cells #[.int .i64 0, .int .i64 2, .int .i64 f, .int .i64 ((k : Int) + 1), .int .i64 ((k : Int) + 2), .int .i64 at_, .int .i64 0, .int .i64 0, .int .i64 0, .int .i64 0, .int .i64 fresh, .int .i64 0, .int .i64 0, .int .i64 0, .int .i64 0] 23)) := gz.mono (by omega)
                have gs : wy.heap.size ≤ (wy.alloc (.cells #[.int .i64 0, .int .i64 2, .int .i64 f, .int .i64 ((k : Int) + 1), .int .i64 ((k : Int) + 2), .int .i64 at_, .int .i64 0, .int .i64 0, .int .i64 0, .int .i64 0, .int .i64 fresh, .int .i64 0, .int .i64 0, .int .i64 0, .int .i64 0] 23)).heap.size := gz.size
                refine hK.out _ _ (by exact ⟨(gz.cell (p := ⟨w.heap.size, 0, none⟩) (by simp; omega)).trans hq.1, (gz.cell (p := ⟨b, _, none⟩) (by simp; omega)).trans hq.2.1, (gz.cell (p := ⟨b, _, none⟩) (by simp; omega)).trans hq.2.2.1, (gz.cell (p := ⟨b, _, none⟩) (by simp; omega)).trans hq.2.2.2.1, (gz.cell (p := ⟨b, _, none⟩) (by simp; omega)).trans hq.2.2.2.2.1, (gz.cell (p := ⟨b, _, none⟩) (by simp; omega)).trans hq.2.2.2.2.2⟩) (fun hH3 => ?_)
                clear hK K
                try simp only [Act.put, List.setIfInBounds_toArray, List.set_cons_zero, List.set_cons_succ]
                generalize (wy.alloc (.cells #[.int .i64 0, .int .i64 2, .int .i64 f, .int .i64 ((k : Int) + 1), .int .i64 ((k : Int) + 2), .int .i64 at_, .int .i64 0, .int .i64 0, .int .i64 0, .int .i64 0, .int .i64 fresh, .int .i64 0, .int .i64 0, .int .i64 0, .int .i64 0] 23)) = wx at *
                refine wpAnyH_ready (rs := [22]) (by kernel_rfl) (by simp) ?_
                refine AllReadyH.cons (o := _) rfl (fun K hK => ?_) AllReadyH.nil
                refine step_append_src _ (by rfl) (.tmp 107) (.tmp 128) 26 (by rfl) rowN w4.heap.size pl.length 3 3 _ (some ⟨wy.heap.size, 0, none⟩) (EN.flat pl) [.int .i64 0, .int .i64 2, .int .i64 f, .int .i64 ((k : Int) + 1), .int .i64 ((k : Int) + 2), .int .i64 at_, .int .i64 0, .int .i64 0, .int .i64 0, .int .i64 0, .int .i64 fresh, .int .i64 0, .int .i64 0, .int .i64 0, .int .i64 0] (by rfl) (by rfl) (by exact ov3) (by exact (SV.src (E := EN) (l := [⟨0, 2, f, (k : Int) + 1, (k : Int) + 2⟩, leafN at_, leafN fresh]) (SV.of_own own3 (by decide))).1) rfl (EN.flat_all [⟨0, 2, f, (k : Int) + 1, (k : Int) + 2⟩, leafN at_, leafN fresh]) (by omega) (by omega) ?_
                rintro va wa ⟨oa, ba, _⟩
                refine hK.out _ _ (by exact ⟨(ba.cell (p := ⟨w.heap.size, 0, none⟩) (by simp; omega)).trans hH3.1, (ba.cell (p := ⟨b, _, none⟩) (by simp; omega)).trans hH3.2.1, (ba.cell (p := ⟨b, _, none⟩) (by simp; omega)).trans hH3.2.2.1, (ba.cell (p := ⟨b, _, none⟩) (by simp; omega)).trans hH3.2.2.2.1, (ba.cell (p := ⟨b, _, none⟩) (by simp; omega)).trans hH3.2.2.2.2.1, (ba.cell (p := ⟨b, _, none⟩) (by simp; omega)).trans hH3.2.2.2.2.2⟩) (fun hH4 => ?_)
                clear hK K
                try simp only [Act.put, List.setIfInBounds_toArray, List.set_cons_zero, List.set_cons_succ]
                refine wpAnyH_take (i := 23) (oi := _) (v := va) rfl (by kernel_rfl) (by kernel_rfl) (by kernel_rfl) (fun _ _ _ h => h) (Or.inl ⟨by rfl, by intro wv hSw; go_simp⟩) hH4 ?_
                change wpAnyH _ _ _ _ _ _ _ (Act.put _ (some 22) (va)) _
                simp only [Act.put, List.setIfInBounds_toArray, List.set_cons_zero, List.set_cons_succ]
                refine wpAnyH_done (by kernel_rfl) ?_ _
                clear hH0 hH1 hH2 hH3 hH4
                go_wp2_with fail
                go_roundw
                case rel => exact ⟨k + 1, by go_num, by omega, by rw [HPE.out, EN.flat_app, List.length_append]; exact oa, (HBy.out.trans gz0).trans ba⟩
                case measure => simp [intOf]; omega
              · have hne : ((k : Int) == (kk : Int)) = false := by simp; omega
                have HPE : Hid (T.partL fresh 2 f kk l (k + 1) = T.partL fresh 2 f kk l k ++ [movedF n kk 2]) := by
                  refine Lib.hid ?_
                  rcases Nat.lt_or_gt_of_ne hkkk with h | h
                  · exact T.part_lt h HK.out
                  · exact T.part_gt h HK.out
                have HMv := Lib.hid (fun w' => moved_any n kk w' hab.1 hab.2)
                have OB5 := Lib.hid (fun w5 (h5 : Below wr.heap.size wr w5) => own_below HO.out h5 (Nat.le_refl _))
                clear hab
                generalize movedF n kk 2 = mn at *
                obtain ⟨np, nd, nf, na, nb⟩ := n
                obtain ⟨mp, md, mf, ma, mb⟩ := mn
                unfold nv at HMv
                dsimp only at c0 c1 c2 c3 c4 HMv
                generalize T.partL fresh 2 f kk l k = pl at *
                go_wp2_with fail
                refine (HMv.out _).mono ?_
                rintro x w5 ⟨rfl, h5⟩
                have HB2 : Below w5.heap.size w5 (w5.alloc (.cells #[.int .i64 mp, .int .i64 md, .int .i64 mf, .int .i64 ma, .int .i64 mb] 23)) := below_new _ _
                have HS : Src (w5.alloc (.cells #[.int .i64 mp, .int .i64 md, .int .i64 mf, .int .i64 ma, .int .i64 mb] 23)) (some ⟨w5.heap.size, 0, none⟩) [.int .i64 mp, .int .i64 md, .int .i64 mf, .int .i64 ma, .int .i64 mb] := TabAt.src (B := 0) (Held.tab (vs := [.int .i64 mp, .int .i64 md, .int .i64 mf, .int .i64 ma, .int .i64 mb]) (Held.new w5 23 #[.int .i64 mp, .int .i64 md, .int .i64 mf, .int .i64 ma, .int .i64 mb]) (Nat.zero_le _))
                have h5s := h5.size
                have OB := Lib.hid (own_below (OB5.out w5 h5) HB2 (Nat.le_refl _))
                have hb5 := hb.trans (h5.mono hb.size)
                have HB3 := Lib.hid (hb5.trans (HB2.mono hb5.size))
                have H2 := Lib.hid HS
                clear HB2 HS hb5
                go_wp2_with (
                  at_builtin
                  refine wpList_append_src _ rfl (.tmp 130) (.tmp 138) 26 rfl rowN w4.heap.size pl.length 1 1 _ _ (EN.flat pl) [.int .i64 mp, .int .i64 md, .int .i64 mf, .int .i64 ma, .int .i64 mb] rfl rfl OB.out H2.out rfl (EN.flat_all [⟨mp, md, mf, ma, mb⟩]) (by omega) (by simp; omega) ?_
                  rintro v3 w6 ⟨ho3, hb7, _⟩)
                go_roundw
                case rel => exact ⟨k + 1, by go_num, by omega, by rw [HPE.out, EN.flat_app, List.length_append]; exact ho3, HB3.out.trans hb7⟩
                case measure => simp [intOf]; omega
            · have ek : k = l.length := by omega
              subst ek
              have hko := HO.out
              rw [T.part_all hkl, ← HSL.out f kk HNN.out] at hko
              obtain ⟨Vd, vc, hv, _⟩ := SV.of_own (E := EN) hko (by decide)
              subst hv
              generalize hFF : (t.split at_ fresh 2 f).flat 0 = FF at *
              have HFF := Lib.hid hFF
              have HKO := Lib.hid hko
              clear hFF
              have kz := z5.cell
              have kf := z5.frozen
              clear hko
              go_wp2_with fail
              have kc := (z5.set (.slice Vd FF.length vc)).cell
              refine bodyPost_ret (v := .tuple #[.agg #[.slice Vd FF.length vc], .bool true]) (by simp [results, Try.results33, go_sem, kc]) rfl (.inl ⟨by omega, f, .slice Vd FF.length vc, hfb.1, hfb.2, rfl, ?_, ?_⟩)
              · rw [HFF.out]; exact own_weak (own_far HKO.out (by show w.heap.size + 1 < w4.heap.size; omega) _) (by omega)
              · exact hbk.setCell (p := ⟨w.heap.size + 1, 0, none⟩) (by simp) _
end Go.Proofs.Ytojgmofpgefonaa
