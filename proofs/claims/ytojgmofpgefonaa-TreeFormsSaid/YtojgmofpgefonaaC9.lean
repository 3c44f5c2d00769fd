/-
  What Split of tree answers, of a tree that fits. Conditions: trees of at most 61 nodes, windows of at most a thousand.
-/
import Derived.Test.YtojgmofpgefonaaC1
import Derived.Test.YtojgmofpgefonaaC7
import Derived.Test.YtojgmofpgefonaaC2
import Derived.Test.YtojgmofpgefonaaPlain4
import Derived.Test.YtojgmofpgefonaaRLeaf
namespace Go.Proofs.Ytojgmofpgefonaa
open Go.RowKit
set_option linter.unusedSimpArgs false
set_option linter.unusedVariables false
set_option maxRecDepth 100000

theorem wrap_i64_t (n : Int) (h0 : -1000000 ≤ n) (h1 : n ≤ 1000000) : IntKind.i64.wrap n = n := by
  simp [IntKind.wrap, IntKind.bits, IntKind.signed]
  omega
/-- A tree comes back, that can be read. -/
def TrP (w : World) (l : List N) (e : Ending) (w' : World) : Prop := ∃ D c, e = .returned (.tuple #[.agg #[.slice D l.length c], .bool true]) ∧ l.length ≤ c ∧ TabAt w.heap.size w' D (EN.flat l) ∧ Below w.heap.size w w'
/-- None comes back. -/
def TrN (w : World) (e : Ending) (w' : World) : Prop := e = .returned (.tuple #[.agg #[.slice none 0 0], .bool false]) ∧ Below w.heap.size w w'
theorem IxP.none {w : World} {l : List N} {P : N → Bool} {j : Int} (h : (∃ k : Nat, j = k ∧ k < l.length ∧ (∃ n, l[k]? = some n ∧ P n = true) ∧ ∀ n ∈ l.take k, P n = false) ∨ (j = -1 ∧ ∀ n ∈ l, P n = false)) (hn : ∀ n ∈ l, P n = false) : j = -1 := by
  rcases h with ⟨k, _, _, ⟨n, hk, hp⟩, _⟩ | ⟨h, _⟩
  · have := hn n (List.mem_of_getElem? hk)
    rw [this] at hp
    cases hp
  · exact h
theorem IxP.some {w : World} {l : List N} {P : N → Bool} {j : Int} (h : (∃ k : Nat, j = k ∧ k < l.length ∧ (∃ n, l[k]? = some n ∧ P n = true) ∧ ∀ n ∈ l.take k, P n = false) ∨ (j = -1 ∧ ∀ n ∈ l, P n = false)) (hn : ∃ n ∈ l, P n = true) : ∃ k : Nat, j = k ∧ k < l.length ∧ (∃ n, l[k]? = some n ∧ P n = true) ∧ ∀ n ∈ l.take k, P n = false := by
  rcases h with h | ⟨_, h⟩
  · exact h
  · obtain ⟨n, hn, hp⟩ := hn
    rw [h n hn] at hp
    cases hp
/-- What stands in a tree's row. -/
theorem Is.mem {l : List N} {t : T} (h : Is l t) {p : Int} (hp : p ∈ t.panes) : ∃ n ∈ l, (n.p == p) = true := by
  have : p ∈ panesL l := by rw [h.panes]; exact hp
  unfold panesL at this
  rw [List.mem_filter, List.mem_map] at this
  obtain ⟨⟨n, hn, e⟩, _⟩ := this
  exact ⟨n, hn, by simpa using e⟩
theorem Is.not_mem {l : List N} {t : T} (h : Is l t) {p : Int} (hp : p ∉ t.panes) (h0 : 0 < p) : ∀ n ∈ l, (n.p == p) = false := by
  intro n hn
  have : n.p ≠ p := by
    intro e
    refine hp ?_
    rw [← h.panes]
    unfold panesL
    rw [List.mem_filter, List.mem_map]
    exact ⟨⟨n, hn, e⟩, by simpa using h0⟩
  simpa using this
theorem Is.leaf {l : List N} {t : T} (h : Is l t) {p : Int} (h0 : 0 < p) {k : Nat} {n : N} (hk : l[k]? = some n) (hp : (n.p == p) = true) : l[k]? = some (leafN p) := by
  have e : n.p = p := by simpa using hp
  have hm : n ∈ l := List.mem_of_getElem? hk
  rw [h.eq] at hm
  rw [hk, T.leaf_of t 0 hm e h0]
theorem tab_take {B : Nat} {w : World} {D : Option Addr} {l : List N} (h : TabAt B w D (EN.flat l)) (k : Nat) : TabAt B w D (EN.flat (l.take k)) := by
  have := h.take (k * 5)
  rw [show k * 5 = k * EN.sz from rfl, EN.flat_take] at this
  exact this
theorem tab_drop {B : Nat} {w : World} {b off k : Nat} {l : List N} (h : TabAt B w (some ⟨b, off, none⟩) (EN.flat l)) : TabAt B w (some ⟨b, off + k * 5, none⟩) (EN.flat (l.drop k)) := by
  rw [← EN.flat_drop]
  intro j hj
  have hj' : k * 5 + j < (EN.flat l).length := by rw [List.length_drop] at hj; show k * EN.sz + j < _; omega
  obtain ⟨b', off', e, h0, h1, hf, h2⟩ := h (k * 5 + j) hj'
  simp only [Option.some.injEq, Addr.mk.injEq, and_true] at e
  obtain ⟨rfl, rfl⟩ := e
  refine ⟨b, off + k * 5, rfl, h0, h1, hf, ?_⟩
  rw [Nat.add_assoc, h2, List.getElem_drop]
  rfl

set_option maxHeartbeats 8000000 in
theorem split_any (l : List N) (t : T) (D : Option Addr) (c B : Nat) (W H at_ fresh d : Int) (r : Nat) (w : World) (h : TabAt B w D (EN.flat l)) (ht : Is l t) (hc : l.length ≤ c) (hr : (win W H).in) (hf : t.fits (win W H))
    (ha : at_ ∈ t.panes) (hfr : 0 < fresh) (hfn : fresh ∉ t.panes) (hs : t.size ≤ 61) (hd : d = 1 ∨ d = 2) :
    Calls Try.prog 16 #[.agg #[.slice D l.length c], .int .i64 W, .int .i64 H, .int .i64 at_, .int .i64 fresh, .int .i64 d, .float .f64 r] w
      (if 3 ≤ t.room at_ d (win W H) then TrP w ((t.split at_ fresh d (heldF (partF (t.room at_ d (win W H) - 1) r) 1 (t.room at_ d (win W H) - 2))).flat 0) else TrN w) := by
  have hl : l.length ≤ 61 := by rw [ht.len]; exact hs
  have hl0 : 0 < l.length := by rw [ht.len]; exact t.size_pos
  have hap := T.panes_pos ht.ok at_ ha
  obtain ⟨b, off, rfl, _, hbw, _⟩ := node_at h 0 _ (List.getElem?_eq_getElem hl0)
  have M0 := Lib.hid (TB.alloc (TB.new w (.slice (some ⟨b, off, none⟩) l.length c)) (.cells #[.slice none 0 0] 30))
  have C0 := Lib.hid (TB.new (w.alloc (.cells #[.slice (some ⟨b, off, none⟩) l.length c] 30)) (.slice none 0 0))
  have B0 := Lib.hid ((below_new w (.cells #[.slice (some ⟨b, off, none⟩) l.length c] 30)).alloc (by simp) (.cells #[.slice none 0 0] 30))
  have HP := Lib.hid (fun w' hb => places_any l t (some ⟨b, off, none⟩) c B W H w' (h.below (C := w.heap.size) hb (Nat.le_refl _)) ht hr hf)
  have HA := Lib.hid (fun w' hb => find_any l (some ⟨b, off, none⟩) c B at_ w' (h.below (C := w.heap.size) hb (Nat.le_refl _)) (by omega) hap)
  have HF := Lib.hid (fun w' hb => find_any l (some ⟨b, off, none⟩) c B fresh w' (h.below (C := w.heap.size) hb (Nat.le_refl _)) (by omega) hfr)
  have HT := Lib.hid (fun wr hb => h.below (w' := wr) (C := w.heap.size) hb (Nat.le_refl _))
  obtain ⟨q, s, hq, hsp, hun⟩ := T.spot_one (r := win W H) ht.un ha
  have HR := Lib.hid (fun s (hs : s ∈ t.spots (win W H)) (hp : s.p = at_) => T.room_of (d := d) ht.un hs hp)
  have HEx : Hid (∃ s ∈ t.spots (win W H), s.p = at_) := Lib.hid ⟨s, List.mem_of_getElem? hq, hsp⟩
  have hn0 : 0 ≤ t.room at_ d (win W H) ∧ t.room at_ d (win W H) ≤ 1000 := by
    rw [← HR.out s (List.mem_of_getElem? hq) hsp]
    obtain ⟨_, _, _, _, _, _⟩ := T.fits_in ht.ok hr hf s (List.mem_of_getElem? hq)
    unfold side
    rcases hd with rfl | rfl
    · simp; omega
    · simp; omega
  have HMem := Lib.hid (ht.mem ha)
  have HNot := Lib.hid (ht.not_mem hfn hfr)
  have HLeaf := Lib.hid (fun k n (hk : l[k]? = some n) hp => ht.leaf hap hk hp)
  have HRow := Lib.hid (fun k f (hk : l[k]? = some (leafN at_)) (h1 : 1 ≤ f) (h2 : f ≤ 1000) => (show T.Sh (l.take k ++ [⟨0, d, f, 0, 0⟩, leafN at_, leafN fresh] ++ l.drop (k + 1)) 0 (t.split at_ fresh d f) ∧ (l.take k ++ [⟨0, d, f, 0, 0⟩, leafN at_, leafN fresh] ++ l.drop (k + 1)).length = (t.split at_ fresh d f).size ∧ (t.split at_ fresh d f).lay (l.take k ++ [⟨0, d, f, 0, 0⟩, leafN at_, leafN fresh] ++ l.drop (k + 1)) 0 = (t.split at_ fresh d f).flat 0 ∧ (t.split at_ fresh d f).ok from by
    have := T.split_row (fresh := fresh) (d := d) (f := f) (k := k) ht.ok ht.un (by rw [← ht.eq]; exact hk) hap hfr hd h1 h2
    rw [← ht.eq] at this
    exact ⟨this.1, this.2.1, this.2.2, T.split_ok ht.ok hd h1 h2 hfr⟩))
  have hspl := (spots_small t (win W H) (by omega)).1
  have sp0 : (t.split at_ fresh d (heldF (partF (t.room at_ d (win W H) - 1) r) 1 (t.room at_ d (win W H) - 2))).size = t.size + 2 := T.split_size ha ht.un
  have HLen := Lib.hid (fun f => (show ((t.split at_ fresh d f).flat 0).length = l.length + 2 from by rw [T.flat_len, T.split_size ha ht.un, ht.len]))
  clear h ht hf hr hfn hs hq hsp hun sp0
  generalize t.spots (win W H) = sps at *
  generalize t.bords (win W H) = bs at *
  generalize t.room at_ d (win W H) = n0 at *
  obtain ⟨pp, hpp⟩ : ∃ pp, pp = partF (n0 - 1) r := ⟨_, rfl⟩
  obtain ⟨f, hff⟩ : ∃ f, f = heldF pp 1 (n0 - 2) := ⟨_, rfl⟩
  have HPart := Lib.hid (part_any (n0 - 1) r)
  have HHeld := Lib.hid (held_any pp 1 (n0 - 2))
  rw [← hpp, ← hff]
  rw [← hpp] at HPart
  rw [← hff] at HHeld
  have hfb : 3 ≤ n0 → 1 ≤ f ∧ f ≤ n0 - 2 := by intro h3; rw [hff]; unfold heldF; omega
  clear hpp hff
  obtain ⟨Q, hQ⟩ : ∃ Q : Ending → World → Prop, Q = (if 3 ≤ n0 then TrP w ((t.split at_ fresh d f).flat 0) else TrN w) := ⟨_, rfl⟩
  rw [← hQ]
  have HQ := Lib.hid hQ
  clear hQ
  go_enter Try.func16, Try.ntmps16
  go_wp2_with fail
  refine (HP.out _ B0.out).mono ?_
  rintro x w2 ⟨v, u, rfl, o1, _, hb⟩
  have m2 := TB.below M0.out hb (by simp; omega)
  have z2 : TB w2 (w.heap.size + 1) (.slice none 0 0) := by
    have := TB.below C0.out hb (by simp)
    rw [World.size_alloc] at this
    exact this
  have hb2 := B0.out.trans (hb.mono (by simp; omega))
  have hs2 := z2.lt
  obtain ⟨E, ce, rfl, hce, hte⟩ := SV.of_own (E := ES) o1 (by decide)
  clear hb o1
  have k0 := m2.cell
  have HTE := Lib.hid hte
  clear hte
  have hf1 : ¬ fresh < 1 := by omega
  have hl2 : ¬ (l.length : Int) + 2 > 63 := by omega
  go_wp2_with fail
  refine (HF.out _ hb2).mono ?_
  rintro x w3 ⟨j, rfl, hj, hb3⟩
  obtain rfl := IxP.none (w := w) hj HNot.out
  have m3 := m2.below hb3 (by omega)
  have z3 := z2.below hb3 hs2
  have hb4 := hb2.trans (hb3.mono hb2.size)
  have hs3 := z3.lt
  have HTE3 := Lib.hid (TabAt.below HTE.out hb3 (Nat.le_refl _))
  clear hj k0 HTE
  have k0 := m3.cell
  have HPo := Lib.hid (placeOf_any sps at_ E ce _ w3 HTE3.out (by omega) HEx.out)
  go_wp2_with fail
  refine HPo.out.mono ?_
  rintro x w4 ⟨s, hs, hsp, rfl, hb5⟩
  have hside := HR.out s hs hsp
  have HSd := Lib.hid (sideIn_any d s.r)
  rw [hside] at HSd
  have m4 := m3.below hb5 (by omega)
  have z4 := z3.below hb5 hs3
  have hb6 := hb4.trans (hb5.mono hb4.size)
  have hs4 := z4.lt
  clear k0 HPo hside hs hsp
  obtain ⟨sp, sX, sY, sW, sH⟩ := s
  unfold rv at HSd
  dsimp only at HSd
  unfold rv
  dsimp only
  go_wp2_with fail
  refine (HSd.out _).mono ?_
  rintro x w5 ⟨rfl, hb7⟩
  have m5 := m4.below hb7 (by omega)
  have z5 := z4.below hb7 hs4
  have hb8 := hb6.trans (hb7.mono hb6.size)
  have hs5 := z5.lt
  have k0 := m5.cell
  have HB8 := Lib.hid hb8
  clear hb7 hb6 hb5 hb4 hb3 hb2 HSd
  by_cases h3 : 3 ≤ n0
  · have h3' : ¬ n0 < 3 := by omega
    obtain ⟨hfb1, hfb2⟩ := hfb h3
    go_wp2_with fail
    refine (HPart.out _).mono ?_
    rintro x w6 ⟨rfl, rfl⟩
    go_wp2_with fail
    refine (HHeld.out _).mono ?_
    rintro x w6 ⟨rfl, rfl⟩
    have m6 := m5.alloc (.cells #[.int .i64 0, .int .i64 d, .int .i64 f, .int .i64 0, .int .i64 0] 23)
    have z6 := z5.alloc (.cells #[.int .i64 0, .int .i64 d, .int .i64 f, .int .i64 0, .int .i64 0] 23)
    have n6 := NB.new w5 0 d f 0 0
    have hb9 := HB8.out.trans ((below_new w5 (.cells #[.int .i64 0, .int .i64 d, .int .i64 f, .int .i64 0, .int .i64 0] 23)).mono HB8.out.size)
    have HA1 := Lib.hid (HA.out _ hb9)
    have k1 := m6.cell
    go_wp2_with fail
    refine HA1.out.mono ?_
    rintro x w7 ⟨j, rfl, hj, hb10⟩
    obtain ⟨k, rfl, hkl, ⟨nn, hnn, hnp⟩, _⟩ := IxP.some (w := w) hj HMem.out
    have hkn := HLeaf.out k nn hnn hnp
    obtain ⟨r1, r2, r3, r4⟩ := HRow.out k f hkn hfb1 (by omega)
    have m7 := m6.below hb10 (by simp; omega)
    have z7 := z6.below hb10 (by simp; omega)
    have n7 := n6.below hb10 (by simp)
    have hb11 := hb9.trans (hb10.mono hb9.size)
    have n7l := Held.lt n7
    have tt := HT.out _ hb11
    have HSh := Lib.hid r1
    have HLy := Lib.hid r3
    have HOk := Lib.hid r4
    have hLL := HLen.out f
    have HLL := Lib.hid hLL
    have hLn : (l.take k ++ [⟨0, d, f, 0, 0⟩, leafN at_, leafN fresh] ++ l.drop (k + 1)).length = l.length + 2 := by
      rw [r2, ← T.flat_len _ 0, hLL]
    have HLn := Lib.hid hLn
    go_upto_region 9 with fail
    refine wp_world (fun wq => TB wq w.heap.size (.slice (some ⟨b, off, none⟩) l.length c) ∧ TB wq (w.heap.size + 1) (.slice none 0 0) ∧ NB wq w5.heap.size ⟨0, d, f, 0, 0⟩ ∧ Below w.heap.size w wq ∧ TabAt B wq (some ⟨b, off, none⟩) (EN.flat l)) ⟨m7, z7, n7, hb11, tt⟩ ?_
    clear m7 z7 n7 hb11 tt hb10 hb9 n6 m6 z6 m5 z5 hj hnn hnp hkn r1 r2 r3 r4 hLL hLn k0 k1 HB8 m4 z4 m3 z3 m2 z2
    rintro wq ⟨m7, z7, n7, hb11, tt⟩
    have kk0 := m7.cell
    obtain ⟨f0, f1, f2, f3, f4⟩ := n7.cells
    dsimp only at f0 f1 f2 f3 f4
    have n7l : w5.heap.size < wq.heap.size := Held.lt n7
    have KQ := Lib.hid ((Below.refl wq.heap.size wq).drew)
    have KW := Lib.hid hb11
    have KZ := Lib.hid (And.intro m7 (And.intro z7 (And.intro n7 tt)))
    have sq := hb11.size
    have hk1 : (k : Int) ≤ (c : Int) := by omega
    have hk2 : ((k : Int)).toNat = k := by omega
    have hk3 : ((k : Int) + 1).toNat = k + 1 := by omega
    clear m7 z7 n7 hb11 tt
    obtain ⟨D3, hD3, hD3t⟩ : ∃ D3 : Option Addr, D3 = (if c = k + 1 then some ⟨b, off, none⟩ else some ⟨b, off + (k + 1) * 5, none⟩) ∧ ∀ w', Below wq.heap.size wq w' → TabAt 0 w' D3 (EN.flat (l.drop (k + 1))) := by
      refine ⟨_, rfl, fun w' hb => ?_⟩
      have tb := (KZ.out.2.2.2.below hb (Nat.le_refl _)).weak (Nat.zero_le _)
      by_cases hck : c = k + 1
      · have e : l.drop (k + 1) = [] := List.drop_of_length_le (by omega)
        rw [e]
        exact TabAt.nil _ _ _
      · rw [if_neg hck]
        exact tab_drop tb
    have HD3 := Lib.hid hD3
    have HD3t := Lib.hid hD3t
    clear hD3 hD3t
    refine wp_region_held_drew (S := fun wv => Below wq.heap.size wq.drew wv) (by kernel_rfl) (by exact Below.refl _ _) (fun hH0 => ?_)
    have kz : wq.heap.size ≤ wq.drew.heap.size ∧ wq.drew.heap.size ≤ wq.heap.size := ⟨Nat.le_refl _, Nat.le_refl _⟩
    have kk0 : wq.drew.cell? ⟨w.heap.size, 0, none⟩ = some (.slice (some ⟨b, off, none⟩) l.length c) := kk0
    have f0 : wq.drew.cell? ⟨w5.heap.size, 0, none⟩ = some (.int .i64 0) := f0
    have f1 : wq.drew.cell? ⟨w5.heap.size, 1, none⟩ = some (.int .i64 d) := f1
    have f2 : wq.drew.cell? ⟨w5.heap.size, 2, none⟩ = some (.int .i64 f) := f2
    have f3 : wq.drew.cell? ⟨w5.heap.size, 3, none⟩ = some (.int .i64 0) := f3
    have f4 : wq.drew.cell? ⟨w5.heap.size, 4, none⟩ = some (.int .i64 0) := f4
    generalize wq.drew = wy at *
    refine wpAnyH_take (i := 0) (oi := _) (v := .pointer (some ⟨w.heap.size, 0, none⟩)) rfl (by kernel_rfl) (by kernel_rfl) (by kernel_rfl) (fun _ _ _ h => h) (Or.inl ⟨by rfl, ?_⟩) hH0 ?_
    · intro wv hSw
      go_simp
    change wpAnyH _ _ _ _ _ _ _ (Act.put _ (some 73) (.pointer (some ⟨w.heap.size, 0, none⟩))) _
    simp only [Act.put, List.setIfInBounds_toArray, List.set_cons_zero, List.set_cons_succ]
    refine wpAnyH_take (i := 1) (oi := _) (v := .slice (some ⟨b, off, none⟩) l.length c) rfl (by kernel_rfl) (by kernel_rfl) (by kernel_rfl) (fun _ _ _ h => h) (Or.inl ⟨by rfl, ?_⟩) hH0 ?_
    · intro wv hSw
      replace hSw : Below wq.heap.size wy wv := hSw
      have z := (hSw.cell (p := ⟨w.heap.size, 0, none⟩) (by simp; omega)).trans kk0
      go_simp
    change wpAnyH _ _ _ _ _ _ _ (Act.put _ (some 74) (.slice (some ⟨b, off, none⟩) l.length c)) _
    simp only [Act.put, List.setIfInBounds_toArray, List.set_cons_zero, List.set_cons_succ]
    refine wpAnyH_take (i := 2) (oi := _) (v := .int .i64 (k : Int)) rfl (by kernel_rfl) (by kernel_rfl) (by kernel_rfl) (fun _ _ _ h => h) (Or.inl ⟨by rfl, ?_⟩) hH0 ?_
    · intro wv hSw
      go_simp
    change wpAnyH _ _ _ _ _ _ _ (Act.put _ (some 75) (.int .i64 (k : Int))) _
    simp only [Act.put, List.setIfInBounds_toArray, List.set_cons_zero, List.set_cons_succ]
    refine wpAnyH_take (i := 3) (oi := _) (v := .slice (some ⟨b, off, none⟩) k c) rfl (by kernel_rfl) (by kernel_rfl) (by kernel_rfl) (fun _ _ _ h => h) (Or.inl ⟨by rfl, ?_⟩) hH0 ?_
    · intro wv hSw
      go_simp
    change wpAnyH _ _ _ _ _ _ _ (Act.put _ (some 76) (.slice (some ⟨b, off, none⟩) k c)) _
    simp only [Act.put, List.setIfInBounds_toArray, List.set_cons_zero, List.set_cons_succ]
    refine wpAnyH_take (i := 4) (oi := _) (v := .agg #[.int .i64 0, .int .i64 d, .int .i64 f, .int .i64 0, .int .i64 0]) rfl (by kernel_rfl) (by kernel_rfl) (by kernel_rfl) (fun _ _ _ h => h) (Or.inl ⟨by rfl, ?_⟩) hH0 ?_
    · intro wv hSw
      replace hSw : Below wq.heap.size wy wv := hSw
      have z0 := (hSw.cell (p := ⟨w5.heap.size, 0, none⟩) (by simp; omega)).trans f0
      have z1 := (hSw.cell (p := ⟨w5.heap.size, 1, none⟩) (by simp; omega)).trans f1
      have z2 := (hSw.cell (p := ⟨w5.heap.size, 2, none⟩) (by simp; omega)).trans f2
      have z3 := (hSw.cell (p := ⟨w5.heap.size, 3, none⟩) (by simp; omega)).trans f3
      have z4 := (hSw.cell (p := ⟨w5.heap.size, 4, none⟩) (by simp; omega)).trans f4
      go_simp
    change wpAnyH _ _ _ _ _ _ _ (Act.put _ (some 77) (.agg #[.int .i64 0, .int .i64 d, .int .i64 f, .int .i64 0, .int .i64 0])) _
    simp only [Act.put, List.setIfInBounds_toArray, List.set_cons_zero, List.set_cons_succ]
    refine wpAnyH_take (i := 5) (oi := _) (v := .int .i64 at_) rfl (by kernel_rfl) (by kernel_rfl) (by kernel_rfl) (fun _ _ _ h => h) (Or.inl ⟨by rfl, ?_⟩) hH0 ?_
    · intro wv hSw
      go_simp
    change wpAnyH _ _ _ _ _ _ _ (Act.put _ (some 78) (.int .i64 at_)) _
    simp only [Act.put, List.setIfInBounds_toArray, List.set_cons_zero, List.set_cons_succ]
    refine wpAnyH_take (i := 7) (oi := _) (v := .int .i64 fresh) rfl (by kernel_rfl) (by kernel_rfl) (by kernel_rfl) (fun _ _ _ h => h) (Or.inl ⟨by rfl, ?_⟩) hH0 ?_
    · intro wv hSw
      go_simp
    change wpAnyH _ _ _ _ _ _ _ (Act.put _ (some 80) (.int .i64 fresh)) _
    simp only [Act.put, List.setIfInBounds_toArray, List.set_cons_zero, List.set_cons_succ]
    refine wpAnyH_take (i := 10) (oi := _) (v := .pointer (some ⟨w.heap.size, 0, none⟩)) rfl (by kernel_rfl) (by kernel_rfl) (by kernel_rfl) (fun _ _ _ h => h) (Or.inl ⟨by rfl, ?_⟩) hH0 ?_
    · intro wv hSw
      go_simp
    change wpAnyH _ _ _ _ _ _ _ (Act.put _ (some 83) (.pointer (some ⟨w.heap.size, 0, none⟩))) _
    simp only [Act.put, List.setIfInBounds_toArray, List.set_cons_zero, List.set_cons_succ]
    refine wpAnyH_take (i := 11) (oi := _) (v := .slice (some ⟨b, off, none⟩) l.length c) rfl (by kernel_rfl) (by kernel_rfl) (by kernel_rfl) (fun _ _ _ h => h) (Or.inl ⟨by rfl, ?_⟩) hH0 ?_
    · intro wv hSw
      replace hSw : Below wq.heap.size wy wv := hSw
      have z := (hSw.cell (p := ⟨w.heap.size, 0, none⟩) (by simp; omega)).trans kk0
      go_simp
    change wpAnyH _ _ _ _ _ _ _ (Act.put _ (some 84) (.slice (some ⟨b, off, none⟩) l.length c)) _
    simp only [Act.put, List.setIfInBounds_toArray, List.set_cons_zero, List.set_cons_succ]
    refine wpAnyH_take (i := 12) (oi := _) (v := .int .i64 (k : Int)) rfl (by kernel_rfl) (by kernel_rfl) (by kernel_rfl) (fun _ _ _ h => h) (Or.inl ⟨by rfl, ?_⟩) hH0 ?_
    · intro wv hSw
      go_simp
    change wpAnyH _ _ _ _ _ _ _ (Act.put _ (some 85) (.int .i64 (k : Int))) _
    simp only [Act.put, List.setIfInBounds_toArray, List.set_cons_zero, List.set_cons_succ]
    refine wpAnyH_take (i := 13) (oi := _) (v := .int .i64 ((k : Int) + 1)) rfl (by kernel_rfl) (by kernel_rfl) (by kernel_rfl) (fun _ _ _ h => h) (Or.inl ⟨by rfl, ?_⟩) hH0 ?_
    · intro wv hSw
      go_simp
      all_goals exact wrap_i64_t ((k : Int) + 1) (by omega) (by omega)
    change wpAnyH _ _ _ _ _ _ _ (Act.put _ (some 86) (.int .i64 ((k : Int) + 1))) _
    simp only [Act.put, List.setIfInBounds_toArray, List.set_cons_zero, List.set_cons_succ]
    refine wpAnyH_take (i := 14) (oi := _) (v := .slice D3 (l.length - (k + 1)) (c - (k + 1))) rfl (by kernel_rfl) (by kernel_rfl) (by kernel_rfl) (fun _ _ _ h => h) (Or.inl ⟨by rfl, ?_⟩) hH0 ?_
    · intro wv hSw
      go_simp
      all_goals (rw [HD3.out, if_pos ⟨by omega, by omega⟩])
    change wpAnyH _ _ _ _ _ _ _ (Act.put _ (some 87) (.slice D3 (l.length - (k + 1)) (c - (k + 1)))) _
    simp only [Act.put, List.setIfInBounds_toArray, List.set_cons_zero, List.set_cons_succ]
    clear kk0 f0 f1 f2 f3 f4
    refine wpAnyH_ready (rs := [6]) (by kernel_rfl) (by simp) ?_
    refine AllReadyH.cons (o := _) rfl (fun K hK => ?_) AllReadyH.nil
    go_simp
    refine (leaf_any at_ _).mono ?_
    rintro e wa ⟨rfl, hb⟩
    have b6 : Below wq.heap.size wy wa := hb.mono kz.1
    clear hb
    unfold nv leafN
    dsimp only
    refine hK.out _ _ (by exact b6) (fun hT6 => ?_)
    clear hK K
    try simp only [Act.put, List.setIfInBounds_toArray, List.set_cons_zero, List.set_cons_succ]
    refine wpAnyH_ready (rs := [8]) (by kernel_rfl) (by simp) ?_
    refine AllReadyH.cons (o := _) rfl (fun K hK => ?_) AllReadyH.nil
    go_simp
    refine (leaf_any fresh _).mono ?_
    rintro e wb ⟨rfl, hb⟩
    have b8 : Below wq.heap.size wy wb := b6.trans (hb.mono (Nat.le_trans kz.1 b6.size))
    clear hb
    unfold nv leafN
    dsimp only
    refine hK.out _ _ (by exact b8) (fun hT8 => ?_)
    clear hK K
    try simp only [Act.put, List.setIfInBounds_toArray, List.set_cons_zero, List.set_cons_succ]
    refine wpAnyH_ready (rs := [9]) (by kernel_rfl) (by simp) ?_
    refine AllReadyH.cons (o := _) rfl (fun K hK => ?_) AllReadyH.nil
    go_simp
    have gz := below_new wb (.cells #[.int .i64 0, .int .i64 d, .int .i64 f, .int .i64 0, .int .i64 0, .int .i64 at_, .int .i64 0, .int .i64 0, .int .i64 0, .int .i64 0, .int .i64 fresh, .int .i64 0, .int .i64 0, .int .i64 0, .int .i64 0] 23)
    have own3 := own_new wb 23 5 3 [.int .i64 0, .int .i64 d, .int .i64 f, .int .i64 0, .int .i64 0, .int .i64 at_, .int .i64 0, .int .i64 0, .int .i64 0, .int .i64 0, .int .i64 fresh, .int .i64 0, .int .i64 0, .int .i64 0, .int .i64 0] rfl (by omega)
    have b9 := b8.trans (gz.mono (Nat.le_trans kz.1 b8.size))
    have s8 := b8.size
    refine hK.out _ _ (by exact b9) (fun hT9 => ?_)
    clear hK K
    try simp only [Act.put, List.setIfInBounds_toArray, List.set_cons_zero, List.set_cons_succ]
    generalize wb.heap.size = gL at *
    generalize (wb.alloc (.cells #[.int .i64 0, .int .i64 d, .int .i64 f, .int .i64 0, .int .i64 0, .int .i64 at_, .int .i64 0, .int .i64 0, .int .i64 0, .int .i64 0, .int .i64 fresh, .int .i64 0, .int .i64 0, .int .i64 0, .int .i64 0] 23)) = wc at *
    refine wpAnyH_ready (rs := [15]) (by kernel_rfl) (by simp) ?_
    refine AllReadyH.cons (o := _) rfl (fun K hK => ?_) AllReadyH.nil
    go_simp
    have gz2 := below_new wc (.cells #[.slice (some ⟨b, off, none⟩) k c, .slice (some ⟨gL, 0, none⟩) 3 3, .slice D3 (l.length - (k + 1)) (c - (k + 1))] 26)
    have hT3 := Held.new wc 26 #[.slice (some ⟨b, off, none⟩) k c, .slice (some ⟨gL, 0, none⟩) 3 3, .slice D3 (l.length - (k + 1)) (c - (k + 1))]
    have b15 := b9.trans (gz2.mono (Nat.le_trans kz.1 b9.size))
    have s9 := b9.size
    have own4 := own_below own3 gz2 (Nat.le_refl _)
    refine hK.out _ _ (by exact b15) (fun hT15 => ?_)
    clear hK K
    try simp only [Act.put, List.setIfInBounds_toArray, List.set_cons_zero, List.set_cons_succ]
    generalize wc.heap.size = gT at *
    generalize (wc.alloc (.cells #[.slice (some ⟨b, off, none⟩) k c, .slice (some ⟨gL, 0, none⟩) 3 3, .slice D3 (l.length - (k + 1)) (c - (k + 1))] 26)) = wd at *
    have bd := KQ.out.trans b15
    have hTN : TabsN wd [.slice (some ⟨b, off, none⟩) k c, .slice (some ⟨gL, 0, none⟩) 3 3, .slice D3 (l.length - (k + 1)) (c - (k + 1))] [l.take k, [⟨0, d, f, 0, 0⟩, leafN at_, leafN fresh], l.drop (k + 1)] := by
      refine ⟨rfl, fun j h1 h2 => ?_⟩
      have hj : j = 0 ∨ j = 1 ∨ j = 2 := by simp at h1; omega
      rcases hj with rfl | rfl | rfl
      · exact ⟨some ⟨b, off, none⟩, c, by simp [List.length_take]; omega, (tab_take (KZ.out.2.2.2.below bd (Nat.le_refl _)) k).weak (Nat.zero_le _)⟩
      · obtain ⟨E3, c3, e3, _, t3⟩ := SV.of_own (E := EN) (l := [⟨0, d, f, 0, 0⟩, leafN at_, leafN fresh]) own4 (by decide)
        exact ⟨E3, c3, by simpa using e3, t3.weak (Nat.zero_le _)⟩
      · exact ⟨D3, c - (k + 1), by simp [List.length_drop], HD3t.out _ bd⟩
    have hCat := concat_any gT [.slice (some ⟨b, off, none⟩) k c, .slice (some ⟨gL, 0, none⟩) 3 3, .slice D3 (l.length - (k + 1)) (c - (k + 1))] [l.take k, [⟨0, d, f, 0, 0⟩, leafN at_, leafN fresh], l.drop (k + 1)] wd hT3 hTN (by simp; omega) (by simp)
    have hfl : [l.take k, [⟨0, d, f, 0, 0⟩, leafN at_, leafN fresh], l.drop (k + 1)].flatten = l.take k ++ [⟨0, d, f, 0, 0⟩, leafN at_, leafN fresh] ++ l.drop (k + 1) := by simp
    rw [hfl] at hCat
    generalize hLLe : l.take k ++ [⟨0, d, f, 0, 0⟩, leafN at_, leafN fresh] ++ l.drop (k + 1) = LL at *
    clear hLLe hfl
    refine wpAnyH_ready (rs := [16]) (by kernel_rfl) (by simp) ?_
    refine AllReadyH.cons (o := _) rfl (fun K hK => ?_) AllReadyH.nil
    go_simp
    refine hCat.mono ?_
    rintro e we ⟨v, rfl, ho, hb⟩
    have b16 := b15.trans (hb.mono (Nat.le_trans kz.1 b15.size))
    obtain ⟨Vv, vc, rfl, hvc9, _⟩ := SV.of_own (E := EN) ho (by decide)
    obtain ⟨gV, rfl⟩ : ∃ g, Vv = some ⟨g, 0, none⟩ := by
      rcases ho.2 with ⟨e1, e2⟩ | ⟨g, cap, cur, e1, _⟩
      · have := HLn.out; omega
      · simp only [Value.slice.injEq] at e1; exact ⟨g, e1.1⟩
    obtain ⟨hrow, hgV⟩ := Row.own ho
    refine hK.out _ _ (by exact b16) (fun hT16 => ?_)
    clear hK K
    try simp only [Act.put, List.setIfInBounds_toArray, List.set_cons_zero, List.set_cons_succ]
    refine wpAnyH_take (i := 17) (oi := _) (v := .slice (some ⟨gV, 0, none⟩) LL.length vc) rfl (by kernel_rfl) (by kernel_rfl) (by kernel_rfl) (fun _ _ _ h => h) (Or.inl ⟨by rfl, ?_⟩) hT16 ?_
    · intro wv hSw
      go_simp
    change wpAnyH _ _ _ _ _ _ _ (Act.put _ (some 22) (.slice (some ⟨gV, 0, none⟩) LL.length vc)) _
    simp only [Act.put, List.setIfInBounds_toArray, List.set_cons_zero, List.set_cons_succ]
    refine wpAnyH_done (by kernel_rfl) ?_ _
    have bw := KQ.out.trans b16
    have KWX := Lib.hid (KW.out.trans (bw.mono (by omega)))
    have FZ := Lib.hid (TB.below KZ.out.2.1 bw (by omega))
    have hgV2 : w.heap.size + 2 ≤ gV := by have := b15.size; omega
    have HNum := Lib.hid (number_any (t.split at_ fresh d f) LL vc 0 gV we hrow HSh.out HOk.out (by have := HLn.out; omega))
    clear hrow ho hb b16 b15 b9 b8 b6 bw bd hH0 hT6 hT8 hT9 hT15 hT16 hCat hTN hT3 own3 own4 gz gz2
    go_wp2_with fail
    refine HNum.out.mono ?_
    rintro x w8 ⟨rfl, rr, gg⟩
    have z8 := gg.held FZ.out (by omega)
    have kz := TB.cell z8
    have kf := TB.frozen z8
    have RG := Lib.hid (And.intro rr gg)
    clear rr gg
    go_wp2_with fail
    have kc := (TB.set z8 (.slice (some ⟨gV, 0, none⟩) LL.length vc)).cell
    refine bodyPost_ret (v := .tuple #[.agg #[.slice (some ⟨gV, 0, none⟩) LL.length vc], .bool true]) (by simp [results, Try.results16, go_sem, kc]) rfl ?_
    rw [HQ.out, if_pos (by omega)]
    refine ⟨some ⟨gV, 0, none⟩, vc, by rw [HLL.out, ← HLn.out], by rw [HLL.out, ← HLn.out]; exact hvc9, ?_, ?_⟩
    · have ht5 : TabAt (w.heap.size + 2) w8 (some ⟨gV, 0, none⟩) (EN.flat ((t.split at_ fresh d f).flat 0)) := by
        have := RG.out.1
        rw [HLy.out] at this
        exact this.tab (by omega)
      exact (ht5.far (p := ⟨w.heap.size + 1, 0, none⟩) (by show w.heap.size + 1 < w.heap.size + 2; omega) _).weak (by omega)
    · exact (RG.out.2.below (by omega) KWX.out).setCell (p := ⟨w.heap.size + 1, 0, none⟩) (by simp) _
  · have h3' : n0 < 3 := by omega
    have kz := z5.cell
    have kf := z5.frozen
    go_wp2_with fail
    have kc := (TB.set z5 (.slice none 0 0)).cell
    refine bodyPost_ret (v := .tuple #[.agg #[.slice none 0 0], .bool false]) (by simp [results, Try.results16, go_sem, kc, kz]) rfl ?_
    rw [HQ.out, if_neg (by omega)]
    exact ⟨rfl, HB8.out.setCell (p := ⟨w.heap.size + 1, 0, none⟩) (by simp) _⟩
end Go.Proofs.Ytojgmofpgefonaa
