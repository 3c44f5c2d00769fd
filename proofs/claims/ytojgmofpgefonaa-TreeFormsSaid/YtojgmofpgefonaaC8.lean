/-
  What Fit of tree answers, of a tree. Conditions: trees of at most 63 nodes.
-/
import Derived.Test.YtojgmofpgefonaaC9
import Derived.Test.YtojgmofpgefonaaC5
import Derived.Test.YtojgmofpgefonaaB4
namespace Go.Proofs.Ytojgmofpgefonaa
open Go.RowKit
set_option linter.unusedSimpArgs false
set_option maxRecDepth 100000

theorem T.fit_ok {t : T} {r : R} (ho : t.ok) (hr : r.in) (h1 : t.lw ≤ r.W) (h2 : t.lh ≤ r.H) : (t.fit r).ok ∧ (t.fit r).fits r ∧ (t.fit r).panes = t.panes := by
  induction t generalizing r with
  | leaf p => exact ⟨ho, trivial, rfl⟩
  | fork d f x y hx hy =>
    have st := fit_step ho h1 h2
    rw [T.fit_fork]
    dsimp only at st
    generalize heldF f (x.ll d) (side d r - 1 - y.ll d) = g at *
    obtain ⟨s1, s2, s3, s4, s5, s6⟩ := st
    obtain ⟨_, ra, rm, rb⟩ := cut_in hr ho.1 s1 s2
    obtain ⟨a1, a2, a3⟩ := hx ho.2.2.2.1 ra s3 s4
    obtain ⟨b1, b2, b3⟩ := hy ho.2.2.2.2 rb s5 s6
    refine ⟨⟨ho.1, s1, ?_, a1, b1⟩, ⟨s1, s2, a2, b2⟩, ?_⟩
    · obtain ⟨_, _, _, _, _, _⟩ := hr
      rcases ho.1 with rfl | rfl <;> simp [side] at s2 <;> omega
    · simp [T.panes, a3, b3]
theorem Is.fit {l : List N} {t : T} {r : R} (h : Is l t) (hr : r.in) (h1 : t.lw ≤ r.W) (h2 : t.lh ≤ r.H) : Is ((t.fit r).flat 0) (t.fit r) := by
  obtain ⟨a, b, c⟩ := T.fit_ok h.ok hr h1 h2
  exact ⟨rfl, a, by rw [T.fit_size]; exact h.size, by rw [c]; exact h.un⟩
set_option maxHeartbeats 2000000 in
theorem fitT_any (l : List N) (t : T) (D : Option Addr) (c B : Nat) (W H : Int) (w : World) (h : TabAt B w D (EN.flat l)) (ht : Is l t) (hr : (win W H).in) (h1 : t.lw ≤ W) (h2 : t.lh ≤ H) :
    Calls Try.prog 25 #[.agg #[.slice D l.length c], .int .i64 W, .int .i64 H] w (TrP w ((t.fit (win W H)).flat 0)) := by
  have hl : l.length ≤ 63 := by rw [ht.len]; exact ht.size
  have hl0 : 0 < l.length := by rw [ht.len]; exact t.size_pos
  obtain ⟨b, off, rfl, _, hbw, _⟩ := node_at h 0 _ (List.getElem?_eq_getElem hl0)
  have M0 := Lib.hid (TB.alloc (TB.new w (.slice (some ⟨b, off, none⟩) l.length c)) (.cells #[.slice none 0 0] 30))
  have C0 := Lib.hid (TB.new (w.alloc (.cells #[.slice (some ⟨b, off, none⟩) l.length c] 30)) (.slice none 0 0))
  have B0 := Lib.hid ((below_new w (.cells #[.slice (some ⟨b, off, none⟩) l.length c] 30)).alloc (by simp) (.cells #[.slice none 0 0] 30))
  have HL := Lib.hid (fun w' hb => least_any l t (some ⟨b, off, none⟩) c B w' (h.below (C := w.heap.size) hb (Nat.le_refl _)) ht)
  have HO := Lib.hid (fun w' hb => ok_any l (some ⟨b, off, none⟩) c B w' (h.below (C := w.heap.size) hb (Nat.le_refl _)) (by omega))
  rw [ht.treeF] at HO
  have HC := Lib.hid (fun w' hb => clone_any l b off c B w' (h.below (C := w.heap.size) hb (Nat.le_refl _)) (by omega))
  have HF := Lib.hid (fun g c w' hrow => fit_any t (win W H) l c 0 g w' hrow ht.all ht.ok hr hl h1 h2)
  have e : (t.fit (win W H)).lay l 0 = (t.fit (win W H)).flat 0 := by
    unfold T.lay
    rw [T.fit_size, ← ht.len]
    simp
  rw [e] at HF
  have hlen : ((t.fit (win W H)).flat 0).length = l.length := by rw [T.flat_len, T.fit_size, ht.len]
  have q1 : ¬ W < t.lw := by omega
  have q2 : ¬ H < t.lh := by omega
  have q3 : ¬ W > 1000 := by obtain ⟨_, _, _, _, _, _⟩ := hr; simp [win] at *; omega
  have q4 : ¬ H > 1000 := by obtain ⟨_, _, _, _, _, _⟩ := hr; simp [win] at *; omega
  have HLn := Lib.hid hlen
  clear h ht hr h1 h2 e hlen
  generalize (t.fit (win W H)).flat 0 = l' at *
  generalize t.lw = lw at *
  generalize t.lh = lh at *
  unfold win rv at HF
  dsimp only at HF
  go_enter Try.func25, Try.ntmps25
  go_wp2_with fail
  refine (HL.out _ B0.out).mono ?_
  rintro x w2 ⟨rfl, hb⟩
  have m2 := TB.below M0.out hb (by simp; omega)
  have z2 : TB w2 (w.heap.size + 1) (.slice none 0 0) := by
    have := TB.below C0.out hb (by simp)
    rw [World.size_alloc] at this
    exact this
  have hb2 := B0.out.trans (hb.mono (by simp; omega))
  have hs2 := z2.lt
  have k0 := m2.cell
  clear hb
  go_wp2_with fail
  refine (HO.out _ hb2).mono ?_
  rintro x w3 ⟨rfl, hb3⟩
  have m3 := m2.below hb3 (by omega)
  have z3 := z2.below hb3 hs2
  have hb4 := hb2.trans (hb3.mono hb2.size)
  have hs3 := z3.lt
  clear k0
  have k0 := m3.cell
  go_wp2_with fail
  refine (HC.out _ hb4).mono ?_
  rintro x w4 ⟨v, rfl, ho, hb5⟩
  have z4 := z3.below hb5 hs3
  have hb6 := hb4.trans (hb5.mono hb4.size)
  obtain ⟨V, vc, rfl, hvc, _⟩ := SV.of_own (E := EN) ho (by decide)
  obtain ⟨g, rfl⟩ : ∃ g, V = some ⟨g, 0, none⟩ := by
    rcases ho.2 with ⟨e1, e2⟩ | ⟨g, cap, cur, e1, _⟩
    · omega
    · simp only [Value.slice.injEq] at e1
      exact ⟨g, e1.1⟩
  obtain ⟨hrow, hg⟩ := Row.own ho
  have hs4 := hb4.size
  have HF1 := Lib.hid (HF.out g vc w4 hrow)
  clear ho hrow m2 m3 z2 z3 hb2 hb3 hb4 hb5 k0
  go_wp2_with fail
  refine HF1.out.mono ?_
  rintro x w5 ⟨rfl, r5, g5⟩
  have z5 := g5.held z4 (by omega)
  have kz := TB.cell z5
  have kf := TB.frozen z5
  have R5 := Lib.hid (And.intro r5 g5)
  clear r5 g5
  go_wp2_with fail
  have kc := (TB.set z5 (.slice (some ⟨g, 0, none⟩) l.length vc)).cell
  refine bodyPost_ret (v := .tuple #[.agg #[.slice (some ⟨g, 0, none⟩) l.length vc], .bool true]) (by simp [results, Try.results25, go_sem, kc]) rfl ⟨some ⟨g, 0, none⟩, vc, by rw [HLn.out], by rw [HLn.out]; exact hvc, ?_, ?_⟩
  · have ht5 : TabAt (w.heap.size + 2) w5 (some ⟨g, 0, none⟩) (EN.flat l') := R5.out.1.tab (by omega)
    exact (ht5.far (p := ⟨w.heap.size + 1, 0, none⟩) (by show w.heap.size + 1 < w.heap.size + 2; omega) _).weak (by omega)
  · exact (R5.out.2.below (by omega) hb6).setCell (p := ⟨w.heap.size + 1, 0, none⟩) (by simp) _

set_option maxHeartbeats 2000000 in
theorem fitT_no (l : List N) (t : T) (D : Option Addr) (c B : Nat) (W H : Int) (w : World) (h : TabAt B w D (EN.flat l)) (ht : Is l t) (h1 : W < t.lw) :
    Calls Try.prog 25 #[.agg #[.slice D l.length c], .int .i64 W, .int .i64 H] w (TrN w) := by
  have hl : l.length ≤ 63 := by rw [ht.len]; exact ht.size
  have M0 := Lib.hid (TB.alloc (TB.new w (.slice D l.length c)) (.cells #[.slice none 0 0] 30))
  have C0 := Lib.hid (TB.new (w.alloc (.cells #[.slice D l.length c] 30)) (.slice none 0 0))
  have B0 := Lib.hid ((below_new w (.cells #[.slice D l.length c] 30)).alloc (by simp) (.cells #[.slice none 0 0] 30))
  have HL := Lib.hid (fun w' hb => least_any l t D c B w' (h.below (C := w.heap.size) hb (Nat.le_refl _)) ht)
  have HO := Lib.hid (fun w' hb => ok_any l D c B w' (h.below (C := w.heap.size) hb (Nat.le_refl _)) (by omega))
  rw [ht.treeF] at HO
  clear h ht
  generalize t.lw = lw at *
  generalize t.lh = lh at *
  go_enter Try.func25, Try.ntmps25
  go_wp2_with fail
  refine (HL.out _ B0.out).mono ?_
  rintro x w2 ⟨rfl, hb⟩
  have m2 := TB.below M0.out hb (by simp; omega)
  have z2 : TB w2 (w.heap.size + 1) (.slice none 0 0) := by
    have := TB.below C0.out hb (by simp)
    rw [World.size_alloc] at this
    exact this
  have hb2 := B0.out.trans (hb.mono (by simp; omega))
  have hs2 := z2.lt
  have k0 := m2.cell
  clear hb
  go_wp2_with fail
  refine (HO.out _ hb2).mono ?_
  rintro x w3 ⟨rfl, hb3⟩
  have z3 := z2.below hb3 hs2
  have hb4 := hb2.trans (hb3.mono hb2.size)
  have kz := z3.cell
  have kf := z3.frozen
  go_wp2_with fail
  have kc := (TB.set z3 (.slice none 0 0)).cell
  exact bodyPost_ret (v := .tuple #[.agg #[.slice none 0 0], .bool false]) (by simp [results, Try.results25, go_sem, kc, kz]) rfl ⟨rfl, hb4.setCell (p := ⟨w.heap.size + 1, 0, none⟩) (by simp) _⟩
end Go.Proofs.Ytojgmofpgefonaa
