/-
  What the tree of numbers is, that the statements begin with: some tree that fits its window of 30 by 20, of at most nine panes, all of them 1 to 9. Conditions: none but that a row of numbers came in.
-/
import Derived.Test.YtojgmofpgefonaaB5
import Derived.Deep.CutRange
namespace Go.Proofs.Ytojgmofpgefonaa
open Go.RowKit
set_option linter.unusedSimpArgs false
set_option linter.unusedVariables false
set_option maxRecDepth 100000

theorem and_low (n : Int) (m : Nat) (i : Nat) (hm : (BitVec.ofInt 64 (m : Int)).toNat = 2 ^ i - 1) (hi : i ≤ 8) : bits .and .i64 n m = n % ((2 ^ i : Nat) : Int) := by
  have key : (BitVec.ofInt 64 n &&& BitVec.ofInt 64 (m : Int)).toNat = (n % ((2 ^ 64 : Nat) : Int)).toNat % 2 ^ i := by
    rw [BitVec.toNat_and, BitVec.toNat_ofInt, hm, Nat.and_two_pow_sub_one_eq_mod]
  show IntKind.i64.wrap ((BitVec.ofInt 64 n &&& BitVec.ofInt 64 (m : Int)).toNat : Nat) = _
  rw [key, IntKind.wrap_i64]
  have h : i = 0 ∨ i = 1 ∨ i = 2 ∨ i = 3 ∨ i = 4 ∨ i = 5 ∨ i = 6 ∨ i = 7 ∨ i = 8 := by omega
  rcases h with rfl | rfl | rfl | rfl | rfl | rfl | rfl | rfl | rfl <;> simp only [Nat.reducePow] <;> omega
theorem i64_and1 (n : Int) : bits .and .i64 n 1 = n % 2 := and_low n 1 1 (by decide) (by decide)
theorem i64_and15 (n : Int) : bits .and .i64 n 15 = n % 16 := and_low n 15 4 (by decide) (by decide)
theorem i64_and255 (n : Int) : bits .and .i64 n 255 = n % 256 := and_low n 255 8 (by decide) (by decide)
theorem gmask255 (z : Int) : ∃ a : Nat, a ≤ 255 ∧ bits .and .i64 z 255 = a := ⟨(z % 256).toNat, by omega, by rw [i64_and255]; omega⟩
theorem gmask1 (z : Int) : ∃ a : Nat, a ≤ 1 ∧ bits .and .i64 z 1 = a := ⟨(z % 2).toNat, by omega, by rw [i64_and1]; omega⟩
theorem gmask15 (z : Int) : ∃ a : Nat, a ≤ 15 ∧ bits .and .i64 z 15 = a := ⟨(z % 16).toNat, by omega, by rw [i64_and15]; omega⟩
theorem tmod_nat (a n : Nat) : Int.tmod (a : Int) (n : Int) = ((a % n : Nat) : Int) := by rw [Int.ofNat_tmod]

/-- A tree of numbers, on its way. -/
structure Good (t : T) (k : Nat) : Prop where
  ok : t.ok
  un : t.panes.Nodup
  low : ∀ p ∈ t.panes, 1 ≤ p ∧ p ≤ k + 1
  size : t.size ≤ 2 * k + 1
  fits : t.fits (win 30 20)
theorem win_in : (win 30 20).in := by simp [win, R.in]
theorem Good.is {t : T} {k : Nat} (h : Good t k) (hk : k ≤ 8) : Is (t.flat 0) t := ⟨rfl, h.ok, by have := h.size; omega, h.un⟩
theorem Good.next {t : T} {k : Nat} (h : Good t k) : Good t (k + 1) := ⟨h.ok, h.un, fun p hp => ⟨(h.low p hp).1, by have := (h.low p hp).2; push_cast; omega⟩, by have := h.size; omega, h.fits⟩
theorem Good.split {t : T} {k : Nat} (h : Good t k) {at_ d f : Int} (ha : at_ ∈ t.panes) (hd : d = 1 ∨ d = 2) (h1 : 1 ≤ f) (h2 : f ≤ t.room at_ d (win 30 20) - 2) (hr : t.room at_ d (win 30 20) ≤ 1000) : Good (t.split at_ (k + 2) d f) (k + 1) := by
  have hf : ((k : Int) + 2) ∉ t.panes := fun hp => by have := (h.low _ hp).2; omega
  refine ⟨T.split_ok h.ok hd h1 (by omega) (by omega), T.split_nodup h.un hf, fun p hp => ?_, by rw [T.split_size ha h.un]; have := h.size; omega, T.fits_split h.un ha h.fits h1 h2⟩
  rw [T.split_panes_mem ha] at hp
  rcases hp with hp | hp
  · exact ⟨(h.low p hp).1, by have := (h.low p hp).2; push_cast; omega⟩
  · subst hp; push_cast; omega
theorem Good.one : Good (.leaf 1) 0 := ⟨by simp [T.ok], by simp [T.panes], by simp [T.panes], by simp [T.size], trivial⟩
theorem T.room_le {at_ d : Int} {t : T} {r : R} (ho : t.ok) (hr : r.in) (hf : t.fits r) : t.room at_ d r ≤ 1000 := by
  induction t generalizing r with
  | leaf p =>
    obtain ⟨_, _, _, _, _, _⟩ := hr
    unfold T.room side
    split
    · omega
    · split <;> omega
  | fork e g x y hx hy =>
    obtain ⟨_, ra, rm, rb⟩ := cut_in hr ho.1 hf.1 hf.2.1
    unfold T.room
    split
    · exact hx ho.2.2.2.1 ra hf.2.2.1
    · exact hy ho.2.2.2.2 rb hf.2.2.2

/-- What the loop holds. -/
def TrRel (w0 : World) (g : Nat) (n : Nat) (i : Value) (wr : World) : Prop := ∃ (k : Nat) (t : T) (D : Option Addr) (c : Nat), i = .int .i64 k ∧ k ≤ n ∧ k ≤ 8 ∧ Good t k ∧ TB wr g (.slice D t.size c) ∧ t.size ≤ c ∧ TabAt (w0.heap.size + 1) wr D (EN.flat (t.flat 0)) ∧ TB wr w0.heap.size (.slice none 0 0) ∧ w0.heap.size < g ∧ Below w0.heap.size w0 wr
/-- Some tree comes back. -/
def TreeQ (w : World) (e : Ending) (w' : World) : Prop := ∃ (t : T) (D : Option Addr) (c : Nat), e = .returned (.agg #[.slice D (t.flat 0).length c]) ∧ (t.flat 0).length ≤ c ∧ Good t 8 ∧ TabAt w.heap.size w' D (EN.flat (t.flat 0)) ∧ Below w.heap.size w w'
theorem Good.le {t : T} {k m : Nat} (h : Good t k) (hm : k ≤ m) : Good t m := by
  induction m with
  | zero => obtain rfl : k = 0 := by omega
            exact h
  | succ m ih =>
    rcases Nat.lt_or_ge m k with h1 | h1
    · obtain rfl : k = m + 1 := by omega
      exact h
    · exact (ih h1).next

theorem flat_int (l : List N) : ∀ y ∈ EN.flat l, ∃ i, y = Value.int .i64 i := by
  intro y hy
  unfold Enc.flat at hy
  rw [List.mem_flatten] at hy
  obtain ⟨c, hc, hy⟩ := hy
  rw [List.mem_map] at hc
  obtain ⟨a, _, rfl⟩ := hc
  simp [EN, ncs] at hy
  rcases hy with rfl | rfl | rfl | rfl | rfl <;> exact ⟨_, rfl⟩
/-- A row of nodes is no tree's variable. -/
theorem tab_box {B g : Nat} {w : World} {D E : Option Addr} {n c : Nat} {l : List N} (h : TabAt B w D (EN.flat l)) (hb : TB w g (.slice E n c)) {x : Value} : TabAt B (w.setCell ⟨g, 0, none⟩ x) D (EN.flat l) := fun k hk => by
  obtain ⟨b, off, e, h0, h1, hf, h2⟩ := h k hk
  have hne : b ≠ g := by
    rintro rfl
    have := Held.cell hb (off + k)
    rw [h2] at this
    obtain ⟨i, hi⟩ := flat_int l _ (List.getElem_mem hk)
    rw [hi] at this
    cases hz : off + k with
    | zero => rw [hz] at this; simp at this
    | succ z => rw [hz] at this; simp at this
  exact ⟨b, off, e, h0, by simpa using h1, hf.set _ _, (cell_far hne x).trans h2⟩

def SplU (w : World) (k : Nat) (e : Ending) (w' : World) : Prop := ∃ (ok : Bool) (D : Option Addr) (n c : Nat), e = .returned (.tuple #[.agg #[.slice D n c], .bool ok]) ∧ (ok = true → ∃ t : T, n = t.size ∧ t.size ≤ c ∧ Good t (k + 1) ∧ TabAt w.heap.size w' D (EN.flat (t.flat 0))) ∧ Below w.heap.size w w'
theorem splitU (t : T) (k : Nat) (hg : Good t k) (hk : k < 8) (D : Option Addr) (c B : Nat) (at_ d : Int) (r : Nat) (w : World) (h : TabAt B w D (EN.flat (t.flat 0))) (ha : at_ ∈ t.panes) (hd : d = 1 ∨ d = 2) :
    Calls Try.prog 33 #[.agg #[.slice D t.size c], .int .i64 30, .int .i64 20, .int .i64 at_, .int .i64 ((k : Int) + 2), .int .i64 d, .float .f64 r] w (SplU w k) := by
  have hs := hg.size
  have := rsplit_any (t.flat 0) t D c B 30 20 at_ ((k : Int) + 2) d r w h (hg.is (by omega)) win_in hg.fits ha (by omega) (fun hp => by have := (hg.low _ hp).2; omega) (by omega) hd
  rw [T.flat_len] at this
  refine this.mono ?_
  rintro e w' (⟨h3, f, v, f1, f2, rfl, ho, hb⟩ | ⟨h3, rfl, hb⟩)
  · obtain ⟨D', c', rfl, hc', ht'⟩ := SV.of_own (E := EN) ho (by decide)
    rw [T.flat_len] at hc' ⊢
    exact ⟨true, D', _, c', rfl, fun _ => ⟨_, rfl, hc', hg.split ha hd f1 f2 (T.room_le hg.ok win_in hg.fits), ht'⟩, hb⟩
  · exact ⟨false, none, 0, 0, rfl, (fun h => absurd h (by decide)), hb⟩

/-- A row of numbers that came in. -/
def RdI (w : World) (D : Option Addr) (l : List Int) : Prop := ∀ k (hk : k < l.length), ∃ b off : Nat, D = some ⟨b, off, none⟩ ∧ b < w.heap.size ∧ w.cell? ⟨b, off + k, none⟩ = some (.int .i64 l[k])
theorem RdI.below {w w' : World} {D : Option Addr} {l : List Int} (h : RdI w D l) (hb : Below w.heap.size w w') : RdI w' D l := fun k hk => by
  obtain ⟨b, off, e, h1, h2⟩ := h k hk
  exact ⟨b, off, e, Nat.lt_of_lt_of_le h1 hb.size, (hb.cell (p := ⟨b, off + k, none⟩) h1).trans h2⟩
set_option maxHeartbeats 8000000 in
theorem tree_any (l : List Int) (D0 : Option Addr) (c0 : Nat) (w : World) (h : RdI w D0 l) :
    Calls Try.prog 15 #[.slice D0 l.length c0, .int .i64 30, .int .i64 20] w (TreeQ w) := by
  have HL := Lib.hid (fun wr hb => h.below (w' := wr) hb)
  have B0 := Lib.hid (below_new w (.cells #[.slice none 0 0] 30))
  have Z0 := Lib.hid (TB.new w (.slice none 0 0))
  clear h
  go_enter Try.func15, Try.ntmps15
  go_wp2_with fail
  refine (rone_any 1 _ (by omega)).mono ?_
  rintro x w1 ⟨v, rfl, ho, hb⟩
  obtain ⟨V, vc, rfl, hvc, htv⟩ := SV.of_own (E := EN) ho (by decide)
  have z1 := TB.below Z0.out hb (by simp)
  have hb1 := B0.out.trans (hb.mono (by simp))
  have z1l := z1.lt
  have hvc1 : 1 ≤ vc := hvc
  go_wp2_with fail
  have z2 := z1.alloc (.cells #[.slice V 1 vc] 30)
  have m2 := TB.new w1 (.slice V 1 vc)
  have hb2 := hb1.trans ((below_new w1 (.cells #[.slice V 1 vc] 30)).mono hb1.size)
  have hm2 : TrRel w w1.heap.size l.length (.int .i64 ((0 : Nat) : Int)) (w1.alloc (.cells #[.slice V 1 vc] 30)) :=
    ⟨0, .leaf 1, V, vc, rfl, Nat.zero_le _, by omega, Good.one, m2, hvc1, (htv.below (below_new _ _) (Nat.le_refl _)).weak (by simp), z2, z1l, hb2⟩
  have hgl := hb1.size
  have HM2 := Lib.hid hm2
  clear z2 m2 hb2 hm2 htv ho z1 hb
  generalize w1.heap.size = g at *
  go_loopw [8] (TrRel w g l.length) (fun i _ => 8 - (intOf i).toNat)
  case atStart => exact HM2.out
  case round =>
    obtain ⟨k, t, D, c, rfl, hkn, hk8, hgd, hbx, hcc, htab, hz, hgw, hbw⟩ := hrel
    have hx0 := hbx.cell
    have hgs := hbx.lt
    clear HM2
    by_cases hlt : k < l.length ∧ k < 8
    · obtain ⟨hlt, hlt8⟩ := hlt
      have hki : (k : Int) < (l.length : Int) := by omega
      have hki8 : (k : Int) < 8 := by omega
      have his := hgd.is (by omega)
      have HPn := Lib.hid (rpanes_any (t.flat 0) t D c (w.heap.size + 1) wr htab his)
      rw [T.flat_len] at HPn
      have KX := Lib.hid (And.intro hbx (And.intro htab (And.intro hz hbw)))
      have HG := Lib.hid hgd
      have hps := t.panes_size
      have hsz := hgd.size
      clear hbx htab hz hbw his hgd
      go_wp2_with fail
      refine HPn.out.mono ?_
      rintro x w3 ⟨v, rfl, ho, hb3⟩
      obtain ⟨P, pc, rfl, hpc, hpt⟩ := SV.of_own (E := EI) ho (by decide)
      have m3 := TB.below KX.out.1 hb3 hgs
      have t3 := TabAt.below KX.out.2.1 hb3 (Nat.le_refl _)
      have z3 := TB.below KX.out.2.2.1 hb3 (TB.lt KX.out.2.2.1)
      have b3 := KX.out.2.2.2.trans (hb3.mono KX.out.2.2.2.size)
      have hgs3 := Nat.lt_of_lt_of_le hgs hb3.size
      clear ho hb3 hx0
      obtain ⟨bl, ol, rfl, hbl, x0⟩ := HL.out _ b3 k hlt
      generalize l[k] = z at *
      obtain ⟨a1, ha1, hA1⟩ := gmask255 z
      obtain ⟨a2, ha2, hA2⟩ := gmask1 (z / 256)
      have hnp : 0 < t.panes.length := by have := t.size_pos; omega
      have hidx : a1 % t.panes.length < t.panes.length := Nat.mod_lt _ hnp
      have hrem := tmod_nat a1 t.panes.length
      obtain ⟨bp, op, rfl, _, hbp, _, y0⟩ := int_at hpt (a1 % t.panes.length) _ (List.getElem?_eq_getElem hidx)
      have hmem : t.panes[a1 % t.panes.length] ∈ t.panes := List.getElem_mem hidx
      generalize t.panes[a1 % t.panes.length] = at_ at *
      generalize a1 % t.panes.length = ix at *
      generalize hnn : t.panes.length = np at *
      have hdd : ((a2 : Int) + 1) = 1 ∨ ((a2 : Int) + 1) = 2 := by omega
      obtain ⟨uu, huu, hu0, hu1⟩ : ∃ uu : Int, uu = IntKind.u64.wrap (z / 512) ∧ 0 ≤ uu ∧ uu < 18446744073709551616 := ⟨_, rfl, by rw [IntKind.wrap_u64]; omega, by rw [IntKind.wrap_u64]; omega⟩
      have HUU := Lib.hid huu
      have HNum := Lib.hid (numF_any uu hu0 hu1)
      have HSp := Lib.hid (fun r w' (hh : TabAt (w.heap.size + 1) w' D (EN.flat (t.flat 0))) => splitU t k HG.out hlt8 D c (w.heap.size + 1) at_ ((a2 : Int) + 1) r w' hh hmem hdd)
      go_upto_region 6 with fail
      refine wp_world (fun wq => (TB wq g (.slice D t.size c) ∧ TabAt (w.heap.size + 1) wq D (EN.flat (t.flat 0)) ∧ TB wq w.heap.size (.slice none 0 0) ∧ Below w.heap.size w wq) ∧ wq.cell? ⟨bl, ol + k, none⟩ = some (.int .i64 z) ∧ wq.cell? ⟨bp, op + ix, none⟩ = some (.int .i64 at_) ∧ bl < wq.heap.size ∧ bp < wq.heap.size) ⟨⟨m3, t3, z3, b3⟩, x0, y0, hbl, hbp⟩ ?_
      clear m3 t3 z3 b3 x0 y0 hbl hbp hpt huu hmem hdd KX hgs hgs3 HPn
      rintro wq ⟨⟨m3, t3, z3, b3⟩, x0, y0, hbl, hbp⟩
      have k0 := m3.cell
      have hgq := m3.lt
      have sq := b3.size
      have KX := Lib.hid (And.intro m3 (And.intro t3 (And.intro z3 b3)))
      clear m3 t3 z3 b3
      go_cut [10, 11] from 25 to 60 (fun s10 s11 wc => ∃ (A : Nat) (ok : Bool) (D' : Option Addr) (n' c' : Nat), s10 = .pointer (some ⟨A, 0, none⟩) ∧ s11 = .bool ok ∧ wq.heap.size ≤ A ∧ TB wc A (.slice D' n' c') ∧ (ok = true → ∃ t : T, n' = t.size ∧ t.size ≤ c' ∧ Good t (k + 1) ∧ TabAt wq.heap.size wc D' (EN.flat (t.flat 0))) ∧ Below wq.heap.size wq wc)
      case first =>
       as_aux_lemma =>
        refine wp_region_held_drew (S := fun wv => Below wq.heap.size wq.drew wv) (by kernel_rfl) (by exact Below.refl _ _) (fun hH0 => ?_)
        have kz : wq.heap.size ≤ wq.drew.heap.size ∧ wq.drew.heap.size ≤ wq.heap.size := ⟨Nat.le_refl _, Nat.le_refl _⟩
        have KQ := Lib.hid ((Below.refl wq.heap.size wq).drew)
        have k0 : wq.drew.cell? ⟨g, 0, none⟩ = some (.slice D t.size c) := k0
        have x0 : wq.drew.cell? ⟨bl, ol + k, none⟩ = some (.int .i64 z) := x0
        have y0 : wq.drew.cell? ⟨bp, op + ix, none⟩ = some (.int .i64 at_) := y0
        generalize wq.drew = wy at *
        refine wpAnyH_take (i := 0) (oi := _) (v := .agg #[.slice D t.size c]) rfl (by kernel_rfl) (by kernel_rfl) (by kernel_rfl) (fun _ _ _ h => h) (Or.inl ⟨by rfl, ?_⟩) hH0 ?_
        · intro wv hSw
          replace hSw : Below wq.heap.size wy wv := hSw
          have q := (hSw.cell (p := ⟨g, 0, none⟩) (by simp; omega)).trans k0
          go_simp
        change wpAnyH _ _ _ _ _ _ _ (Act.put _ (some 26) (.agg #[.slice D t.size c])) _
        simp only [Act.put, List.setIfInBounds_toArray, List.set_cons_zero, List.set_cons_succ]
        refine wpAnyH_take (i := 1) (oi := _) (v := .int .i64 30) rfl (by kernel_rfl) (by kernel_rfl) (by kernel_rfl) (fun _ _ _ h => h) (Or.inl ⟨by rfl, ?_⟩) hH0 ?_
        · intro wv hSw
          go_simp
        change wpAnyH _ _ _ _ _ _ _ (Act.put _ (some 27) (.int .i64 30)) _
        simp only [Act.put, List.setIfInBounds_toArray, List.set_cons_zero, List.set_cons_succ]
        refine wpAnyH_take (i := 2) (oi := _) (v := .int .i64 20) rfl (by kernel_rfl) (by kernel_rfl) (by kernel_rfl) (fun _ _ _ h => h) (Or.inl ⟨by rfl, ?_⟩) hH0 ?_
        · intro wv hSw
          go_simp
        change wpAnyH _ _ _ _ _ _ _ (Act.put _ (some 28) (.int .i64 20)) _
        simp only [Act.put, List.setIfInBounds_toArray, List.set_cons_zero, List.set_cons_succ]
        refine wpAnyH_take (i := 3) (oi := _) (v := .slice (some ⟨bp, op, none⟩) np pc) rfl (by kernel_rfl) (by kernel_rfl) (by kernel_rfl) (fun _ _ _ h => h) (Or.inl ⟨by rfl, ?_⟩) hH0 ?_
        · intro wv hSw
          go_simp
        change wpAnyH _ _ _ _ _ _ _ (Act.put _ (some 29) (.slice (some ⟨bp, op, none⟩) np pc)) _
        simp only [Act.put, List.setIfInBounds_toArray, List.set_cons_zero, List.set_cons_succ]
        refine wpAnyH_take (i := 4) (oi := _) (v := .slice (some ⟨bl, ol, none⟩) l.length c0) rfl (by kernel_rfl) (by kernel_rfl) (by kernel_rfl) (fun _ _ _ h => h) (Or.inl ⟨by rfl, ?_⟩) hH0 ?_
        · intro wv hSw
          go_simp
        change wpAnyH _ _ _ _ _ _ _ (Act.put _ (some 30) (.slice (some ⟨bl, ol, none⟩) l.length c0)) _
        simp only [Act.put, List.setIfInBounds_toArray, List.set_cons_zero, List.set_cons_succ]
        refine wpAnyH_take (i := 5) (oi := _) (v := .int .i64 (k : Int)) rfl (by kernel_rfl) (by kernel_rfl) (by kernel_rfl) (fun _ _ _ h => h) (Or.inl ⟨by rfl, ?_⟩) hH0 ?_
        · intro wv hSw
          go_simp
        change wpAnyH _ _ _ _ _ _ _ (Act.put _ (some 31) (.int .i64 (k : Int))) _
        simp only [Act.put, List.setIfInBounds_toArray, List.set_cons_zero, List.set_cons_succ]
        refine wpAnyH_take (i := 6) (oi := _) (v := .pointer (some ⟨bl, ol + k, none⟩)) rfl (by kernel_rfl) (by kernel_rfl) (by kernel_rfl) (fun _ _ _ h => h) (Or.inl ⟨by rfl, ?_⟩) hH0 ?_
        · intro wv hSw
          go_simp
        change wpAnyH _ _ _ _ _ _ _ (Act.put _ (some 32) (.pointer (some ⟨bl, ol + k, none⟩))) _
        simp only [Act.put, List.setIfInBounds_toArray, List.set_cons_zero, List.set_cons_succ]
        refine wpAnyH_take (i := 7) (oi := _) (v := .int .i64 z) rfl (by kernel_rfl) (by kernel_rfl) (by kernel_rfl) (fun _ _ _ h => h) (Or.inl ⟨by rfl, ?_⟩) hH0 ?_
        · intro wv hSw
          replace hSw : Below wq.heap.size wy wv := hSw
          have q := (hSw.cell (p := ⟨bl, ol + k, none⟩) (by simp; omega)).trans x0
          go_simp
        change wpAnyH _ _ _ _ _ _ _ (Act.put _ (some 33) (.int .i64 z)) _
        simp only [Act.put, List.setIfInBounds_toArray, List.set_cons_zero, List.set_cons_succ]
        refine wpAnyH_take (i := 8) (oi := _) (v := .int .i64 (a1 : Int)) rfl (by kernel_rfl) (by kernel_rfl) (by kernel_rfl) (fun _ _ _ h => h) (Or.inl ⟨by rfl, ?_⟩) hH0 ?_
        · intro wv hSw
          go_simp
          try (simp [hA1])
        change wpAnyH _ _ _ _ _ _ _ (Act.put _ (some 34) (.int .i64 (a1 : Int))) _
        simp only [Act.put, List.setIfInBounds_toArray, List.set_cons_zero, List.set_cons_succ]
        refine wpAnyH_take (i := 9) (oi := _) (v := .slice (some ⟨bp, op, none⟩) np pc) rfl (by kernel_rfl) (by kernel_rfl) (by kernel_rfl) (fun _ _ _ h => h) (Or.inl ⟨by rfl, ?_⟩) hH0 ?_
        · intro wv hSw
          go_simp
        change wpAnyH _ _ _ _ _ _ _ (Act.put _ (some 35) (.slice (some ⟨bp, op, none⟩) np pc)) _
        simp only [Act.put, List.setIfInBounds_toArray, List.set_cons_zero, List.set_cons_succ]
        refine wpAnyH_take (i := 10) (oi := _) (v := .int .i64 (np : Int)) rfl (by kernel_rfl) (by kernel_rfl) (by kernel_rfl) (fun _ _ _ h => h) (Or.inl ⟨by rfl, ?_⟩) hH0 ?_
        · intro wv hSw
          go_simp
        change wpAnyH _ _ _ _ _ _ _ (Act.put _ (some 36) (.int .i64 (np : Int))) _
        simp only [Act.put, List.setIfInBounds_toArray, List.set_cons_zero, List.set_cons_succ]
        refine wpAnyH_take (i := 11) (oi := _) (v := .int .i64 (ix : Int)) rfl (by kernel_rfl) (by kernel_rfl) (by kernel_rfl) (fun _ _ _ h => h) (Or.inl ⟨by rfl, ?_⟩) hH0 ?_
        · intro wv hSw
          go_simp
          all_goals omega
        change wpAnyH _ _ _ _ _ _ _ (Act.put _ (some 37) (.int .i64 (ix : Int))) _
        simp only [Act.put, List.setIfInBounds_toArray, List.set_cons_zero, List.set_cons_succ]
        refine wpAnyH_take (i := 12) (oi := _) (v := .pointer (some ⟨bp, op + ix, none⟩)) rfl (by kernel_rfl) (by kernel_rfl) (by kernel_rfl) (fun _ _ _ h => h) (Or.inl ⟨by rfl, ?_⟩) hH0 ?_
        · intro wv hSw
          go_simp
        change wpAnyH _ _ _ _ _ _ _ (Act.put _ (some 38) (.pointer (some ⟨bp, op + ix, none⟩))) _
        simp only [Act.put, List.setIfInBounds_toArray, List.set_cons_zero, List.set_cons_succ]
        refine wpAnyH_take (i := 13) (oi := _) (v := .int .i64 at_) rfl (by kernel_rfl) (by kernel_rfl) (by kernel_rfl) (fun _ _ _ h => h) (Or.inl ⟨by rfl, ?_⟩) hH0 ?_
        · intro wv hSw
          replace hSw : Below wq.heap.size wy wv := hSw
          have q := (hSw.cell (p := ⟨bp, op + ix, none⟩) (by simp; omega)).trans y0
          go_simp
        change wpAnyH _ _ _ _ _ _ _ (Act.put _ (some 39) (.int .i64 at_)) _
        simp only [Act.put, List.setIfInBounds_toArray, List.set_cons_zero, List.set_cons_succ]
        refine wpAnyH_take (i := 14) (oi := _) (v := .int .i64 (k : Int)) rfl (by kernel_rfl) (by kernel_rfl) (by kernel_rfl) (fun _ _ _ h => h) (Or.inl ⟨by rfl, ?_⟩) hH0 ?_
        · intro wv hSw
          go_simp
        change wpAnyH _ _ _ _ _ _ _ (Act.put _ (some 40) (.int .i64 (k : Int))) _
        simp only [Act.put, List.setIfInBounds_toArray, List.set_cons_zero, List.set_cons_succ]
        refine wpAnyH_take (i := 15) (oi := _) (v := .int .i64 ((k : Int) + 2)) rfl (by kernel_rfl) (by kernel_rfl) (by kernel_rfl) (fun _ _ _ h => h) (Or.inl ⟨by rfl, ?_⟩) hH0 ?_
        · intro wv hSw
          go_simp
          all_goals exact wrap_i64_small ((k : Int) + 2) (by omega) (by omega)
        change wpAnyH _ _ _ _ _ _ _ (Act.put _ (some 41) (.int .i64 ((k : Int) + 2))) _
        simp only [Act.put, List.setIfInBounds_toArray, List.set_cons_zero, List.set_cons_succ]
        refine wpAnyH_take (i := 16) (oi := _) (v := .slice (some ⟨bl, ol, none⟩) l.length c0) rfl (by kernel_rfl) (by kernel_rfl) (by kernel_rfl) (fun _ _ _ h => h) (Or.inl ⟨by rfl, ?_⟩) hH0 ?_
        · intro wv hSw
          go_simp
        change wpAnyH _ _ _ _ _ _ _ (Act.put _ (some 42) (.slice (some ⟨bl, ol, none⟩) l.length c0)) _
        simp only [Act.put, List.setIfInBounds_toArray, List.set_cons_zero, List.set_cons_succ]
        refine wpAnyH_take (i := 17) (oi := _) (v := .int .i64 (k : Int)) rfl (by kernel_rfl) (by kernel_rfl) (by kernel_rfl) (fun _ _ _ h => h) (Or.inl ⟨by rfl, ?_⟩) hH0 ?_
        · intro wv hSw
          go_simp
        change wpAnyH _ _ _ _ _ _ _ (Act.put _ (some 43) (.int .i64 (k : Int))) _
        simp only [Act.put, List.setIfInBounds_toArray, List.set_cons_zero, List.set_cons_succ]
        refine wpAnyH_take (i := 18) (oi := _) (v := .pointer (some ⟨bl, ol + k, none⟩)) rfl (by kernel_rfl) (by kernel_rfl) (by kernel_rfl) (fun _ _ _ h => h) (Or.inl ⟨by rfl, ?_⟩) hH0 ?_
        · intro wv hSw
          go_simp
        change wpAnyH _ _ _ _ _ _ _ (Act.put _ (some 44) (.pointer (some ⟨bl, ol + k, none⟩))) _
        simp only [Act.put, List.setIfInBounds_toArray, List.set_cons_zero, List.set_cons_succ]
        refine wpAnyH_take (i := 19) (oi := _) (v := .int .i64 z) rfl (by kernel_rfl) (by kernel_rfl) (by kernel_rfl) (fun _ _ _ h => h) (Or.inl ⟨by rfl, ?_⟩) hH0 ?_
        · intro wv hSw
          replace hSw : Below wq.heap.size wy wv := hSw
          have q := (hSw.cell (p := ⟨bl, ol + k, none⟩) (by simp; omega)).trans x0
          go_simp
        change wpAnyH _ _ _ _ _ _ _ (Act.put _ (some 45) (.int .i64 z)) _
        simp only [Act.put, List.setIfInBounds_toArray, List.set_cons_zero, List.set_cons_succ]
        refine wpAnyH_take (i := 20) (oi := _) (v := .int .i64 (z / 256)) rfl (by kernel_rfl) (by kernel_rfl) (by kernel_rfl) (fun _ _ _ h => h) (Or.inl ⟨by rfl, ?_⟩) hH0 ?_
        · intro wv hSw
          go_simp
        change wpAnyH _ _ _ _ _ _ _ (Act.put _ (some 46) (.int .i64 (z / 256))) _
        simp only [Act.put, List.setIfInBounds_toArray, List.set_cons_zero, List.set_cons_succ]
        refine wpAnyH_take (i := 21) (oi := _) (v := .int .i64 (a2 : Int)) rfl (by kernel_rfl) (by kernel_rfl) (by kernel_rfl) (fun _ _ _ h => h) (Or.inl ⟨by rfl, ?_⟩) hH0 ?_
        · intro wv hSw
          go_simp
          try (simp [hA2])
        change wpAnyH _ _ _ _ _ _ _ (Act.put _ (some 47) (.int .i64 (a2 : Int))) _
        simp only [Act.put, List.setIfInBounds_toArray, List.set_cons_zero, List.set_cons_succ]
        refine wpAnyH_take (i := 22) (oi := _) (v := .int .i64 ((a2 : Int) + 1)) rfl (by kernel_rfl) (by kernel_rfl) (by kernel_rfl) (fun _ _ _ h => h) (Or.inl ⟨by rfl, ?_⟩) hH0 ?_
        · intro wv hSw
          go_simp
          all_goals exact wrap_i64_small ((a2 : Int) + 1) (by omega) (by omega)
        change wpAnyH _ _ _ _ _ _ _ (Act.put _ (some 48) (.int .i64 ((a2 : Int) + 1))) _
        simp only [Act.put, List.setIfInBounds_toArray, List.set_cons_zero, List.set_cons_succ]
        refine wpAnyH_take (i := 23) (oi := _) (v := .slice (some ⟨bl, ol, none⟩) l.length c0) rfl (by kernel_rfl) (by kernel_rfl) (by kernel_rfl) (fun _ _ _ h => h) (Or.inl ⟨by rfl, ?_⟩) hH0 ?_
        · intro wv hSw
          go_simp
        change wpAnyH _ _ _ _ _ _ _ (Act.put _ (some 49) (.slice (some ⟨bl, ol, none⟩) l.length c0)) _
        simp only [Act.put, List.setIfInBounds_toArray, List.set_cons_zero, List.set_cons_succ]
        refine wpAnyH_take (i := 24) (oi := _) (v := .int .i64 (k : Int)) rfl (by kernel_rfl) (by kernel_rfl) (by kernel_rfl) (fun _ _ _ h => h) (Or.inl ⟨by rfl, ?_⟩) hH0 ?_
        · intro wv hSw
          go_simp
        change wpAnyH _ _ _ _ _ _ _ (Act.put _ (some 50) (.int .i64 (k : Int))) _
        simp only [Act.put, List.setIfInBounds_toArray, List.set_cons_zero, List.set_cons_succ]
        refine wpAnyH_take (i := 25) (oi := _) (v := .pointer (some ⟨bl, ol + k, none⟩)) rfl (by kernel_rfl) (by kernel_rfl) (by kernel_rfl) (fun _ _ _ h => h) (Or.inl ⟨by rfl, ?_⟩) hH0 ?_
        · intro wv hSw
          go_simp
        change wpAnyH _ _ _ _ _ _ _ (Act.put _ (some 51) (.pointer (some ⟨bl, ol + k, none⟩))) _
        simp only [Act.put, List.setIfInBounds_toArray, List.set_cons_zero, List.set_cons_succ]
        refine wpAnyH_take (i := 26) (oi := _) (v := .int .i64 z) rfl (by kernel_rfl) (by kernel_rfl) (by kernel_rfl) (fun _ _ _ h => h) (Or.inl ⟨by rfl, ?_⟩) hH0 ?_
        · intro wv hSw
          replace hSw : Below wq.heap.size wy wv := hSw
          have q := (hSw.cell (p := ⟨bl, ol + k, none⟩) (by simp; omega)).trans x0
          go_simp
        change wpAnyH _ _ _ _ _ _ _ (Act.put _ (some 52) (.int .i64 z)) _
        simp only [Act.put, List.setIfInBounds_toArray, List.set_cons_zero, List.set_cons_succ]
        refine wpAnyH_take (i := 27) (oi := _) (v := .int .i64 (z / 512)) rfl (by kernel_rfl) (by kernel_rfl) (by kernel_rfl) (fun _ _ _ h => h) (Or.inl ⟨by rfl, ?_⟩) hH0 ?_
        · intro wv hSw
          go_simp
        change wpAnyH _ _ _ _ _ _ _ (Act.put _ (some 53) (.int .i64 (z / 512))) _
        simp only [Act.put, List.setIfInBounds_toArray, List.set_cons_zero, List.set_cons_succ]
        refine wpAnyH_take (i := 28) (oi := _) (v := .int .u64 uu) rfl (by kernel_rfl) (by kernel_rfl) (by kernel_rfl) (fun _ _ _ h => h) (Or.inl ⟨by rfl, ?_⟩) hH0 ?_
        · intro wv hSw
          go_simp
          all_goals (rw [HUU.out])
        change wpAnyH _ _ _ _ _ _ _ (Act.put _ (some 54) (.int .u64 uu)) _
        simp only [Act.put, List.setIfInBounds_toArray, List.set_cons_zero, List.set_cons_succ]
        clear k0 x0 y0
        have b0 : Below wq.heap.size wy wy := Below.refl _ _
        refine wpAnyH_ready (rs := [29, 34]) (by kernel_rfl) (by simp) ?_
        refine AllReadyH.cons (o := _) rfl (fun K hK => ?_) (AllReadyH.cons (o := _) rfl (fun K hK => ?_) AllReadyH.nil)
        · go_simp
          refine (HNum.out _).mono ?_
          rintro e u1 ⟨rf, rfl, hb⟩
          have b1 := b0.trans (hb.mono (Nat.le_trans KQ.out.size b0.size))
          clear hb
          refine hK.out _ _ (by exact b1) (fun hT1 => ?_)
          clear hK K
          try simp only [Act.put, List.setIfInBounds_toArray, List.set_cons_zero, List.set_cons_succ]
          refine wpAnyH_ready (rs := [30, 34]) (by kernel_rfl) (by simp) ?_
          refine AllReadyH.cons (o := _) rfl (fun K hK => ?_) (AllReadyH.cons (o := _) rfl (fun K hK => ?_) AllReadyH.nil)
          · go_simp
            refine (HSp.out rf _ (TabAt.below KX.out.2.1 (KQ.out.trans b1) (Nat.le_refl _))).mono ?_
            rintro e u2 ⟨ok, D9, n9, c9, rfl, hok, hb⟩
            have b2 := b1.trans (hb.mono (Nat.le_trans KQ.out.size b1.size))
            have hok2 : ok = true → ∃ t : T, n9 = t.size ∧ t.size ≤ c9 ∧ Good t (k + 1) ∧ TabAt wq.heap.size u2 D9 (EN.flat (t.flat 0)) := fun h => by obtain ⟨t, q1, q2, q3, q4⟩ := hok h; exact ⟨t, q1, q2, q3, q4.weak (Nat.le_trans KQ.out.size b1.size)⟩
            clear hb hok
            refine hK.out _ _ (by exact b2) (fun hT2 => ?_)
            clear hK K
            try simp only [Act.put, List.setIfInBounds_toArray, List.set_cons_zero, List.set_cons_succ]
            refine wpAnyH_take (i := 31) (oi := _) (v := .tuple #[.agg #[.slice D9 n9 c9], .bool ok]) rfl (by kernel_rfl) (by kernel_rfl) (by kernel_rfl) (fun _ _ _ h => h) (Or.inl ⟨by rfl, ?_⟩) hT2 ?_
            · intro wv hSw
              go_simp
            change wpAnyH _ _ _ _ _ _ _ (Act.put _ (some 25) (.tuple #[.agg #[.slice D9 n9 c9], .bool ok])) _
            simp only [Act.put, List.setIfInBounds_toArray, List.set_cons_zero, List.set_cons_succ]
            refine wpAnyH_take (i := 32) (oi := _) (v := .agg #[.slice D9 n9 c9]) rfl (by kernel_rfl) (by kernel_rfl) (by kernel_rfl) (fun _ _ _ h => h) (Or.inl ⟨by rfl, ?_⟩) hT2 ?_
            · intro wv hSw
              go_simp
            change wpAnyH _ _ _ _ _ _ _ (Act.put _ (some 57) (.agg #[.slice D9 n9 c9])) _
            simp only [Act.put, List.setIfInBounds_toArray, List.set_cons_zero, List.set_cons_succ]
            refine wpAnyH_take (i := 33) (oi := _) (v := .bool ok) rfl (by kernel_rfl) (by kernel_rfl) (by kernel_rfl) (fun _ _ _ h => h) (Or.inl ⟨by rfl, ?_⟩) hT2 ?_
            · intro wv hSw
              go_simp
            change wpAnyH _ _ _ _ _ _ _ (Act.put _ (some 58) (.bool ok)) _
            simp only [Act.put, List.setIfInBounds_toArray, List.set_cons_zero, List.set_cons_succ]
            refine wpAnyH_ready (rs := [34]) (by kernel_rfl) (by simp) ?_
            refine AllReadyH.cons (o := _) rfl (fun K hK => ?_) AllReadyH.nil
            go_simp
            have gz := below_new u2 (.cells #[.slice none 0 0] 30)
            have b3 := b2.trans (gz.mono (Nat.le_trans KQ.out.size b2.size))
            have X3 := TB.new u2 (.slice none 0 0)
            have s3 := b2.size
            have hok3 : ok = true → ∃ t : T, n9 = t.size ∧ t.size ≤ c9 ∧ Good t (k + 1) ∧ TabAt wq.heap.size (u2.alloc (.cells #[.slice none 0 0] 30)) D9 (EN.flat (t.flat 0)) := fun h => by obtain ⟨t, q1, q2, q3, q4⟩ := hok2 h; exact ⟨t, q1, q2, q3, q4.below gz (Nat.le_refl _)⟩
            refine hK.out _ _ (by exact b3) (fun hT3 => ?_)
            clear hK K
            try simp only [Act.put, List.setIfInBounds_toArray, List.set_cons_zero, List.set_cons_succ]
            generalize (u2.alloc (.cells #[.slice none 0 0] 30)) = u3 at *
            generalize u2.heap.size = g3 at *
            refine wpAnyH_ready (rs := [35]) (by kernel_rfl) (by simp) ?_
            refine AllReadyH.cons (o := _) rfl (fun K hK => ?_) AllReadyH.nil
            have y0 := TB.cell X3
            have y1 := TB.frozen X3
            have X4 := TB.set X3 (.slice D9 n9 c9)
            have b4 := b3.setCell (p := ⟨g3, 0, none⟩) (show wq.heap.size ≤ g3 by omega) (.slice D9 n9 c9)
            have hok4 : ok = true → ∃ t : T, n9 = t.size ∧ t.size ≤ c9 ∧ Good t (k + 1) ∧ TabAt wq.heap.size (u3.setCell ⟨g3, 0, none⟩ (.slice D9 n9 c9)) D9 (EN.flat (t.flat 0)) := fun h => by obtain ⟨t, q1, q2, q3, q4⟩ := hok3 h; exact ⟨t, q1, q2, q3, tab_box q4 X3⟩
            go_simp
            refine hK.out _ _ (by exact b4) (fun hT4 => ?_)
            clear hK K
            try simp only [Act.put, List.setIfInBounds_toArray, List.set_cons_zero, List.set_cons_succ]
            refine wpAnyH_take (i := 36) (oi := _) (v := .bool ok) rfl (by kernel_rfl) (by kernel_rfl) (by kernel_rfl) (fun _ _ _ h => h) (Or.inl ⟨by rfl, ?_⟩) hT4 ?_
            · intro wv hSw
              go_simp
            change wpAnyH _ _ _ _ _ _ _ (Act.put _ (some 11) (.bool ok)) _
            simp only [Act.put, List.setIfInBounds_toArray, List.set_cons_zero, List.set_cons_succ]
            refine wpAnyH_done (by kernel_rfl) ?_ _
            go_wp2_with fail
            go_meet
            exact ⟨g3, ok, D9, n9, c9, rfl, rfl, by omega, X4, hok4, KQ.out.trans b4⟩
          go_simp
          have gz := below_new u1 (.cells #[.slice none 0 0] 30)
          have b5 := b1.trans (gz.mono (Nat.le_trans KQ.out.size b1.size))
          have X5 := TB.new u1 (.slice none 0 0)
          have s5 := b1.size
          refine hK.out _ _ (by exact b5) (fun hT5 => ?_)
          clear hK K
          try simp only [Act.put, List.setIfInBounds_toArray, List.set_cons_zero, List.set_cons_succ]
          generalize (u1.alloc (.cells #[.slice none 0 0] 30)) = u5 at *
          generalize u1.heap.size = g5 at *
          refine wpAnyH_ready (rs := [30]) (by kernel_rfl) (by simp) ?_
          refine AllReadyH.cons (o := _) rfl (fun K hK => ?_) AllReadyH.nil
          go_simp
          refine (HSp.out rf _ (TabAt.below KX.out.2.1 (KQ.out.trans b5) (Nat.le_refl _))).mono ?_
          rintro e u6 ⟨ok, D9, n9, c9, rfl, hok, hb⟩
          have b6 := b5.trans (hb.mono (Nat.le_trans KQ.out.size b5.size))
          have hok6 : ok = true → ∃ t : T, n9 = t.size ∧ t.size ≤ c9 ∧ Good t (k + 1) ∧ TabAt wq.heap.size u6 D9 (EN.flat (t.flat 0)) := fun h => by obtain ⟨t, q1, q2, q3, q4⟩ := hok h; exact ⟨t, q1, q2, q3, q4.weak (Nat.le_trans KQ.out.size b5.size)⟩
          have X6 := TB.below X5 hb (TB.lt X5)
          clear hb hok
          refine hK.out _ _ (by exact b6) (fun hT6 => ?_)
          clear hK K
          try simp only [Act.put, List.setIfInBounds_toArray, List.set_cons_zero, List.set_cons_succ]
          refine wpAnyH_take (i := 31) (oi := _) (v := .tuple #[.agg #[.slice D9 n9 c9], .bool ok]) rfl (by kernel_rfl) (by kernel_rfl) (by kernel_rfl) (fun _ _ _ h => h) (Or.inl ⟨by rfl, ?_⟩) hT6 ?_
          · intro wv hSw
            go_simp
          change wpAnyH _ _ _ _ _ _ _ (Act.put _ (some 25) (.tuple #[.agg #[.slice D9 n9 c9], .bool ok])) _
          simp only [Act.put, List.setIfInBounds_toArray, List.set_cons_zero, List.set_cons_succ]
          refine wpAnyH_take (i := 32) (oi := _) (v := .agg #[.slice D9 n9 c9]) rfl (by kernel_rfl) (by kernel_rfl) (by kernel_rfl) (fun _ _ _ h => h) (Or.inl ⟨by rfl, ?_⟩) hT6 ?_
          · intro wv hSw
            go_simp
          change wpAnyH _ _ _ _ _ _ _ (Act.put _ (some 57) (.agg #[.slice D9 n9 c9])) _
          simp only [Act.put, List.setIfInBounds_toArray, List.set_cons_zero, List.set_cons_succ]
          refine wpAnyH_take (i := 33) (oi := _) (v := .bool ok) rfl (by kernel_rfl) (by kernel_rfl) (by kernel_rfl) (fun _ _ _ h => h) (Or.inl ⟨by rfl, ?_⟩) hT6 ?_
          · intro wv hSw
            go_simp
          change wpAnyH _ _ _ _ _ _ _ (Act.put _ (some 58) (.bool ok)) _
          simp only [Act.put, List.setIfInBounds_toArray, List.set_cons_zero, List.set_cons_succ]
          refine wpAnyH_ready (rs := [35]) (by kernel_rfl) (by simp) ?_
          refine AllReadyH.cons (o := _) rfl (fun K hK => ?_) AllReadyH.nil
          have y0 := TB.cell X6
          have y1 := TB.frozen X6
          have X7 := TB.set X6 (.slice D9 n9 c9)
          have b7 := b6.setCell (p := ⟨g5, 0, none⟩) (show wq.heap.size ≤ g5 by omega) (.slice D9 n9 c9)
          have hok7 : ok = true → ∃ t : T, n9 = t.size ∧ t.size ≤ c9 ∧ Good t (k + 1) ∧ TabAt wq.heap.size (u6.setCell ⟨g5, 0, none⟩ (.slice D9 n9 c9)) D9 (EN.flat (t.flat 0)) := fun h => by obtain ⟨t, q1, q2, q3, q4⟩ := hok6 h; exact ⟨t, q1, q2, q3, tab_box q4 X6⟩
          go_simp
          refine hK.out _ _ (by exact b7) (fun hT7 => ?_)
          clear hK K
          try simp only [Act.put, List.setIfInBounds_toArray, List.set_cons_zero, List.set_cons_succ]
          refine wpAnyH_take (i := 36) (oi := _) (v := .bool ok) rfl (by kernel_rfl) (by kernel_rfl) (by kernel_rfl) (fun _ _ _ h => h) (Or.inl ⟨by rfl, ?_⟩) hT7 ?_
          · intro wv hSw
            go_simp
          change wpAnyH _ _ _ _ _ _ _ (Act.put _ (some 11) (.bool ok)) _
          simp only [Act.put, List.setIfInBounds_toArray, List.set_cons_zero, List.set_cons_succ]
          refine wpAnyH_done (by kernel_rfl) ?_ _
          go_wp2_with fail
          go_meet
          exact ⟨g5, ok, D9, n9, c9, rfl, rfl, by omega, X7, hok7, KQ.out.trans b7⟩
        go_simp
        have gz := below_new wy (.cells #[.slice none 0 0] 30)
        have b8 := b0.trans (gz.mono (Nat.le_trans KQ.out.size b0.size))
        have X8 := TB.new wy (.slice none 0 0)
        have s8 := b0.size
        refine hK.out _ _ (by exact b8) (fun hT8 => ?_)
        clear hK K
        try simp only [Act.put, List.setIfInBounds_toArray, List.set_cons_zero, List.set_cons_succ]
        generalize (wy.alloc (.cells #[.slice none 0 0] 30)) = u8 at *
        generalize wy.heap.size = g8 at *
        refine wpAnyH_ready (rs := [29]) (by kernel_rfl) (by simp) ?_
        refine AllReadyH.cons (o := _) rfl (fun K hK => ?_) AllReadyH.nil
        go_simp
        refine (HNum.out _).mono ?_
        rintro e u9 ⟨rf, rfl, hb⟩
        have b9 := b8.trans (hb.mono (Nat.le_trans KQ.out.size b8.size))
        have X9 := TB.below X8 hb (TB.lt X8)
        clear hb
        refine hK.out _ _ (by exact b9) (fun hT9 => ?_)
        clear hK K
        try simp only [Act.put, List.setIfInBounds_toArray, List.set_cons_zero, List.set_cons_succ]
        refine wpAnyH_ready (rs := [30]) (by kernel_rfl) (by simp) ?_
        refine AllReadyH.cons (o := _) rfl (fun K hK => ?_) AllReadyH.nil
        go_simp
        refine (HSp.out rf _ (TabAt.below KX.out.2.1 (KQ.out.trans b9) (Nat.le_refl _))).mono ?_
        rintro e u10 ⟨ok, D9, n9, c9, rfl, hok, hb⟩
        have b10 := b9.trans (hb.mono (Nat.le_trans KQ.out.size b9.size))
        have hok10 : ok = true → ∃ t : T, n9 = t.size ∧ t.size ≤ c9 ∧ Good t (k + 1) ∧ TabAt wq.heap.size u10 D9 (EN.flat (t.flat 0)) := fun h => by obtain ⟨t, q1, q2, q3, q4⟩ := hok h; exact ⟨t, q1, q2, q3, q4.weak (Nat.le_trans KQ.out.size b9.size)⟩
        have X10 := TB.below X9 hb (TB.lt X9)
        clear hb hok
        refine hK.out _ _ (by exact b10) (fun hT10 => ?_)
        clear hK K
        try simp only [Act.put, List.setIfInBounds_toArray, List.set_cons_zero, List.set_cons_succ]
        refine wpAnyH_take (i := 31) (oi := _) (v := .tuple #[.agg #[.slice D9 n9 c9], .bool ok]) rfl (by kernel_rfl) (by kernel_rfl) (by kernel_rfl) (fun _ _ _ h => h) (Or.inl ⟨by rfl, ?_⟩) hT10 ?_
        · intro wv hSw
          go_simp
        change wpAnyH _ _ _ _ _ _ _ (Act.put _ (some 25) (.tuple #[.agg #[.slice D9 n9 c9], .bool ok])) _
        simp only [Act.put, List.setIfInBounds_toArray, List.set_cons_zero, List.set_cons_succ]
        refine wpAnyH_take (i := 32) (oi := _) (v := .agg #[.slice D9 n9 c9]) rfl (by kernel_rfl) (by kernel_rfl) (by kernel_rfl) (fun _ _ _ h => h) (Or.inl ⟨by rfl, ?_⟩) hT10 ?_
        · intro wv hSw
          go_simp
        change wpAnyH _ _ _ _ _ _ _ (Act.put _ (some 57) (.agg #[.slice D9 n9 c9])) _
        simp only [Act.put, List.setIfInBounds_toArray, List.set_cons_zero, List.set_cons_succ]
        refine wpAnyH_take (i := 33) (oi := _) (v := .bool ok) rfl (by kernel_rfl) (by kernel_rfl) (by kernel_rfl) (fun _ _ _ h => h) (Or.inl ⟨by rfl, ?_⟩) hT10 ?_
        · intro wv hSw
          go_simp
        change wpAnyH _ _ _ _ _ _ _ (Act.put _ (some 58) (.bool ok)) _
        simp only [Act.put, List.setIfInBounds_toArray, List.set_cons_zero, List.set_cons_succ]
        refine wpAnyH_ready (rs := [35]) (by kernel_rfl) (by simp) ?_
        refine AllReadyH.cons (o := _) rfl (fun K hK => ?_) AllReadyH.nil
        have y0 := TB.cell X10
        have y1 := TB.frozen X10
        have X11 := TB.set X10 (.slice D9 n9 c9)
        have b11 := b10.setCell (p := ⟨g8, 0, none⟩) (show wq.heap.size ≤ g8 by omega) (.slice D9 n9 c9)
        have hok11 : ok = true → ∃ t : T, n9 = t.size ∧ t.size ≤ c9 ∧ Good t (k + 1) ∧ TabAt wq.heap.size (u10.setCell ⟨g8, 0, none⟩ (.slice D9 n9 c9)) D9 (EN.flat (t.flat 0)) := fun h => by obtain ⟨t, q1, q2, q3, q4⟩ := hok10 h; exact ⟨t, q1, q2, q3, tab_box q4 X10⟩
        go_simp
        refine hK.out _ _ (by exact b11) (fun hT11 => ?_)
        clear hK K
        try simp only [Act.put, List.setIfInBounds_toArray, List.set_cons_zero, List.set_cons_succ]
        refine wpAnyH_take (i := 36) (oi := _) (v := .bool ok) rfl (by kernel_rfl) (by kernel_rfl) (by kernel_rfl) (fun _ _ _ h => h) (Or.inl ⟨by rfl, ?_⟩) hT11 ?_
        · intro wv hSw
          go_simp
        change wpAnyH _ _ _ _ _ _ _ (Act.put _ (some 11) (.bool ok)) _
        simp only [Act.put, List.setIfInBounds_toArray, List.set_cons_zero, List.set_cons_succ]
        refine wpAnyH_done (by kernel_rfl) ?_ _
        go_wp2_with fail
        go_meet
        exact ⟨g8, ok, D9, n9, c9, rfl, rfl, by omega, X11, hok11, KQ.out.trans b11⟩
      case rest =>
        obtain ⟨A, ok, D', n', c', rfl, rfl, hA, hTA, hOk, hb⟩ := hcut
        have m4 := TB.below KX.out.1 hb hgq
        have t4 := TabAt.below KX.out.2.1 hb (Nat.le_refl _)
        have z4 := TB.below KX.out.2.2.1 hb (TB.lt KX.out.2.2.1)
        have b4 := KX.out.2.2.2.trans (hb.mono KX.out.2.2.2.size)
        have k1 := hTA.cell
        have g0 := m4.cell
        have g1 := m4.frozen
        cases ok with
        | true =>
          obtain ⟨t', hn', hc', hgd', ht'⟩ := hOk rfl
          subst hn'
          go_wp2_with fail
          go_roundw
          case rel => exact ⟨k + 1, t', D', c', by go_num, by omega, by omega, hgd', m4.set _, hc', (ht'.far (p := ⟨g, 0, none⟩) (by show g < wq.heap.size; omega) _).weak (by omega), z4.far (by omega) _, hgw, b4.setCell (p := ⟨g, 0, none⟩) (by show w.heap.size ≤ g; omega) _⟩
          case measure => simp [intOf]; omega
        | false =>
          go_wp2_with fail
          go_roundw
          case rel => exact ⟨k + 1, t, D, c, by go_num, by omega, by omega, HG.out.next, m4, hcc, t4, z4, hgw, b4⟩
          case measure => simp [intOf]; omega
    · have hend : ¬ (k : Int) < (l.length : Int) ∨ ((k : Int) < (l.length : Int) ∧ ¬ (k : Int) < 8) := by omega
      have z0 := hz.cell
      have z1 := hz.frozen
      have KX := Lib.hid (And.intro hz (And.intro htab hbw))
      have HG := Lib.hid (hgd.le hk8)
      clear hbx htab hbw hz hlt hgd
      rcases hend with he | ⟨he, he8⟩
      all_goals
        go_wp2_with fail
        have kc := (TB.set KX.out.1 (.slice D t.size c)).cell
        refine bodyPost_ret (v := .agg #[.slice D t.size c]) (results_cell_row (P := Try.prog) Try.results15 _ _ w.heap.size 30 _ (0, 0) _ rfl (TB.set KX.out.1 _) Try.underlying30 rfl tree_size) rfl ⟨t, D, c, by rw [T.flat_len], by rw [T.flat_len]; exact hcc, HG.out, ?_, ?_⟩
        · exact ((KX.out.2.1).far (p := ⟨w.heap.size, 0, none⟩) (by show w.heap.size < w.heap.size + 1; omega) _).weak (by omega)
        · exact KX.out.2.2.setCell (p := ⟨w.heap.size, 0, none⟩) (Nat.le_refl _) _
end Go.Proofs.Ytojgmofpgefonaa
