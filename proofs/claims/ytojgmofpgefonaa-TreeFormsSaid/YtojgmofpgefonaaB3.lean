/-
  What moved and places of the document's own answer give. Conditions: trees of at most a thousand nodes.
-/
import Derived.Test.YtojgmofpgefonaaB2
import Derived.Test.YtojgmofpgefonaaRCut
namespace Go.Proofs.Ytojgmofpgefonaa
open Go.RowKit
set_option linter.unusedSimpArgs false
set_option maxRecDepth 100000

set_option maxHeartbeats 1000000 in
theorem moved_any (n : N) (k : Int) (w : World) (ha : 0 ≤ n.a ∧ n.a ≤ 1000) (hb : 0 ≤ n.b ∧ n.b ≤ 1000) : Calls Try.prog 57 #[nv n, .int .i64 k, .int .i64 2] w (New (nv (movedF n k 2)) w) := by
  obtain ⟨p, d, f, a, b⟩ := n
  unfold nv movedF
  dsimp only at ha hb ⊢
  by_cases h1 : a > k
  · by_cases h2 : b > k
    · rw [if_pos h1, if_pos h2]
      go_enter Try.func57, Try.ntmps57
      go_wp2_with fail
      refine bodyPost_ret (v := nv ⟨p, d, f, a + 2, b + 2⟩) (by simp [results, Try.results57, go_sem, nv]) rfl ⟨rfl, ?_⟩
      exact (below_new _ _).alloc (by simp) _
    · rw [if_pos h1, if_neg h2]
      go_enter Try.func57, Try.ntmps57
      go_wp2_with fail
      refine bodyPost_ret (v := nv ⟨p, d, f, a + 2, b⟩) (by simp [results, Try.results57, go_sem, nv]) rfl ⟨rfl, ?_⟩
      exact (below_new _ _).alloc (by simp) _
  · by_cases h2 : b > k
    · rw [if_neg h1, if_pos h2]
      go_enter Try.func57, Try.ntmps57
      go_wp2_with fail
      refine bodyPost_ret (v := nv ⟨p, d, f, a, b + 2⟩) (by simp [results, Try.results57, go_sem, nv]) rfl ⟨rfl, ?_⟩
      exact (below_new _ _).alloc (by simp) _
    · rw [if_neg h1, if_neg h2]
      go_enter Try.func57, Try.ntmps57
      go_wp2_with fail
      refine bodyPost_ret (v := nv ⟨p, d, f, a, b⟩) (by simp [results, Try.results57, go_sem, nv]) rfl ⟨rfl, ?_⟩
      exact (below_new _ _).alloc (by simp) _

theorem own_held {w w' : World} {B : Nat} {t e : TypeId} {sz n : Nat} {v : Value} {xs : List Value} (hh : ∀ g t cs, t ≠ e → Held w g t cs → Held w' g t cs) (hne : t ≠ e) (h : w.ownsRow B t sz v n xs) : w'.ownsRow B t sz v n xs := by
  refine ⟨h.1, ?_⟩
  rcases h.2 with hn | ⟨g, cap, cur, rfl, hg, hc, rest⟩
  · exact .inl hn
  · exact .inr ⟨g, cap, cur, rfl, hg, hh g t cur hne hc, rest⟩
theorem own_low {w w' : World} {B C : Nat} {t : TypeId} {sz n : Nat} {v : Value} {xs : List Value} (h : w.ownsRow B t sz v n xs) (hb : Below C w w') (hk : ∀ k, v.ownBlock = some k → k < C) : w'.ownsRow B t sz v n xs := by
  refine ⟨h.1, ?_⟩
  rcases h.2 with hn | ⟨g, cap, cur, rfl, hg, hc, rest⟩
  · exact .inl hn
  · exact .inr ⟨g, cap, cur, rfl, hg, by rw [hb.block g (hk g rfl)]; exact hc, rest⟩
theorem own_src {α : Type} {E : Enc α} {w : World} {B : Nat} {t : TypeId} {D : Option Addr} {n c m : Nat} {l : List α} (h : w.ownsRow B t E.sz (.slice D n c) m (E.flat l)) (h0 : 0 < E.sz) : Src w D (E.flat l) := (SV.src (SV.of_own h h0)).1
theorem rb4 {w : World} {g : Nat} {r : R} (h : RB w g r) : w.cell? ⟨g, 0, none⟩ = some (.int .i64 r.X) ∧ w.cell? ⟨g, 1, none⟩ = some (.int .i64 r.Y) ∧ w.cell? ⟨g, 2, none⟩ = some (.int .i64 r.W) ∧ w.cell? ⟨g, 3, none⟩ = some (.int .i64 r.H) := ⟨h.cells.1, h.cells.2.1, h.cells.2.2.1, h.cells.2.2.2.1⟩

theorem spots_small (t : T) (r : R) (h : t.size ≤ 63) : (t.spots r).length ≤ 63 ∧ (t.bords r).length ≤ 63 := by
  have h1 := t.panes_size
  have h2 := t.bords_len r
  have h3 : (t.spots r).length = t.panes.length := by rw [← t.spots_panes r, List.length_map]
  omega

/-- Places and borders come back. -/
def PlP (w : World) (s : List Sp) (b : List R) (e : Ending) (w' : World) : Prop := ∃ v u, e = .returned (.tuple #[v, u, .bool true]) ∧ w'.ownsRow w.heap.size 50 5 v s.length (ES.flat s) ∧ w'.ownsRow w.heap.size 48 4 u b.length (ER.flat b) ∧ Below w.heap.size w w'

set_option maxHeartbeats 2000000 in
theorem rplaces_any (t : T) : ∀ (r : R) (l : List N) (D : Option Addr) (c i B : Nat) (w : World), TabAt B w D (EN.flat l) → t.At l i → t.ok → l.length ≤ 63 → r.in → t.fits r →
    Calls Try.prog 45 #[.slice D l.length c, .int .i64 i, rv r] w (PlP w (t.spots r) (t.bords r)) := by
  induction t with
  | leaf p =>
    intro r l D c i B w h hi ho hl hr hf
    obtain ⟨b, off, rfl, h1, h2, h3, c0, c1, c2, c3, c4⟩ := node_at h i _ hi
    have hi' : (i : Int) < (l.length : Int) := by have := T.at_lt hi; simp [T.size] at this; omega
    have ho' : 0 < p := ho
    dsimp only [leafN] at c0 c1 c2 c3 c4
    obtain ⟨X, Y, W, H⟩ := r
    unfold rv
    dsimp only
    clear hr hf
    go_enter Try.func45, Try.ntmps45
    go_wp2_with fail
    have h5 := own_one ((w.alloc (.cells #[.int .i64 X, .int .i64 Y, .int .i64 W, .int .i64 H] 48)).alloc (.cells #[.int .i64 p, .int .i64 0, .int .i64 0, .int .i64 0, .int .i64 0] 23)) 50 5 [.int .i64 p, .int .i64 X, .int .i64 Y, .int .i64 W, .int .i64 H] rfl
    simp only [World.size_alloc] at h5
    exact bodyPost_ret (v := .tuple #[.slice (some ⟨w.heap.size + 1 + 1, 0, none⟩) 1 1, .slice none 0 0, .bool true]) (by simp [results, Try.results45, go_sem]) rfl ⟨_, _, rfl, own_weak h5 (by omega), World.ownsRow_nil _ _ _ _, ((below_new _ _).alloc (by simp) _).alloc (by simp; omega) _⟩
  | fork d f x y hx hy =>
    intro r l D c i B w h hi ho hl hr hf
    obtain ⟨b, off, rfl, h1, h2, h3, c0, c1, c2, c3, c4⟩ := node_at h i _ hi.1
    have hi' : (i : Int) < (l.length : Int) := by have := T.at_lt hi; simp [T.size] at this; omega
    obtain ⟨hcut, ra, rm, rb⟩ := cut_in hr ho.1 hf.1 hf.2.1
    have HX := Lib.hid (fun w' c hb => hx (aR d f r) l _ c (i + 1) B w' (h.below (C := w.heap.size) hb (Nat.le_refl _)) hi.2.1 ho.2.2.2.1 hl ra hf.2.2.1)
    have HY := Lib.hid (fun w' c hb => hy (bR d f r) l _ c (i + 1 + x.size) B w' (h.below (C := w.heap.size) hb (Nat.le_refl _)) hi.2.2 ho.2.2.2.2 hl rb hf.2.2.2)
    have HC := Lib.hid (rcut_any r d f)
    rw [hcut] at HC
    unfold cutV at HC
    dsimp only at HC
    have es : (T.fork d f x y).spots r = x.spots (aR d f r) ++ y.spots (bR d f r) := rfl
    have eb : (T.fork d f x y).bords r = [mR d f r] ++ x.bords (aR d f r) ++ y.bords (bR d f r) := rfl
    rw [es, eb]
    have lx : (x.spots (aR d f r)).length ≤ 63 ∧ (x.bords (aR d f r)).length ≤ 63 := spots_small x _ (by have := T.at_lt hi; simp only [T.size] at this; omega)
    have ly : (y.spots (bR d f r)).length ≤ 63 ∧ (y.bords (bR d f r)).length ≤ 63 := spots_small y _ (by have := T.at_lt hi; simp only [T.size] at this; omega)
    clear es eb hcut ra rm rb hx hy ho hf hr hi h
    dsimp only [T.forkN] at c0 c1 c2 c3 c4
    generalize x.spots (aR d f r) = xs at *
    generalize x.bords (aR d f r) = xb at *
    generalize y.spots (bR d f r) = ys at *
    generalize y.bords (bR d f r) = yb at *
    generalize aR d f r = ra at *
    generalize mR d f r = rm at *
    generalize bR d f r = rb at *
    generalize x.size = sx at *
    obtain ⟨X, Y, W, H⟩ := r
    obtain ⟨aX, aY, aW, aH⟩ := ra
    obtain ⟨mX, mY, mW, mH⟩ := rm
    obtain ⟨bX, bY, bW, bH⟩ := rb
    unfold rv at *
    dsimp only at *
    go_enter Try.func45, Try.ntmps45
    go_wp2_with fail
    refine (HC.out _).mono ?_
    rintro e w2 ⟨rfl, hb⟩
    have hN : NB w2 (w.heap.size + 1) ⟨0, d, f, (i : Int) + 1, (i : Int) + 1 + sx⟩ := by
      have := Held.new (w.alloc (.cells #[.int .i64 X, .int .i64 Y, .int .i64 W, .int .i64 H] 48)) 23 #[.int .i64 0, .int .i64 d, .int .i64 f, .int .i64 ((i : Int) + 1), .int .i64 ((i : Int) + 1 + sx)]
      simp only [World.size_alloc] at this
      exact Held.below this hb (by simp)
    have hb2 : Below w.heap.size w w2 := ((below_new _ _).alloc (by simp) _).trans (hb.mono (by simp; omega))
    have hs := hN.lt
    clear hb c0 c1 c2 c3 c4
    go_upto_region 7 with fail
    have k1 := Held.new w2 48 #[.int .i64 aX, .int .i64 aY, .int .i64 aW, .int .i64 aH]
    have k2 := Held.new (w2.alloc (.cells #[.int .i64 aX, .int .i64 aY, .int .i64 aW, .int .i64 aH] 48)) 48 #[.int .i64 mX, .int .i64 mY, .int .i64 mW, .int .i64 mH]
    have k3 := Held.new ((w2.alloc (.cells #[.int .i64 aX, .int .i64 aY, .int .i64 aW, .int .i64 aH] 48)).alloc (.cells #[.int .i64 mX, .int .i64 mY, .int .i64 mW, .int .i64 mH] 48)) 48 #[.int .i64 bX, .int .i64 bY, .int .i64 bW, .int .i64 bH]
    simp only [World.size_alloc] at k2 k3
    refine wp_world (fun wq => NB wq (w.heap.size + 1) ⟨0, d, f, (i : Int) + 1, (i : Int) + 1 + sx⟩ ∧ RB wq w2.heap.size ⟨aX, aY, aW, aH⟩ ∧ RB wq (w2.heap.size + 1) ⟨mX, mY, mW, mH⟩ ∧ RB wq (w2.heap.size + 1 + 1) ⟨bX, bY, bW, bH⟩ ∧ Below w2.heap.size w2 wq)
      ⟨((Held.alloc hN _).alloc _).alloc _, (k1.alloc _).alloc _, k2.alloc _, k3, ((below_new _ _).alloc (by simp) _).alloc (by simp; omega) _⟩ ?_
    clear k1 k2 k3 hN
    rintro wq ⟨hN, hA, hM, hB, hq⟩
    have hb3 := hb2.trans (hq.mono hb2.size)
    have sz := hq.size
    obtain ⟨n0, n1, n2, n3, n4⟩ := hN.cells
    obtain ⟨a0, a1, a2, a3, af⟩ := hA.cells
    dsimp only at n0 n1 n2 n3 n4 a0 a1 a2 a3
    go_wp2_with fail
    refine (HX.out _ _ hb3).mono ?_
    rintro e w4 ⟨v1, u1, rfl, o1, o2, hb4⟩
    have zB := hB.lt
    have zM := hM.lt
    have zN := hN.lt
    have hN4 := NB.below hN hb4 zN
    have hM4 := RB.below hM hb4 zM
    have hB4 := RB.below hB hb4 zB
    have hb5 := hb3.trans (hb4.mono hb3.size)
    clear n0 n1 n2 n3 n4 a0 a1 a2 a3 af hA
    obtain ⟨n0, n1, n2, n3, n4⟩ := hN4.cells
    obtain ⟨a0, a1, a2, a3, af⟩ := hB4.cells
    dsimp only at n0 n1 n2 n3 n4 a0 a1 a2 a3
    have O1 := Lib.hid o1
    have O2 := Lib.hid o2
    clear o1 o2
    go_wp2_with fail
    refine (HY.out _ _ hb5).mono ?_
    rintro e w5 ⟨v2, u2, rfl, o3, o4, hb6⟩
    have zM4 := hM4.lt
    have hM5 := RB.below hM4 hb6 zM4
    have hb7 := hb5.trans (hb6.mono hb5.size)
    have o1 := own_below O1.out hb6 (Nat.le_refl _)
    have o2 := own_below O2.out hb6 (Nat.le_refl _)
    have hs4 := hb4.size
    have hs6 := hb6.size
    have hs3 := hb3.size
    have l1 := fun k hk => (O1.out.lt k hk).2
    have l2 := fun k hk => (O2.out.lt k hk).2
    clear n0 n1 n2 n3 n4 a0 a1 a2 a3 af hN4 hB4 hM4 O1 O2
    go_upto_region 11 with fail
    have P1 := Lib.hid o1
    have P2 := Lib.hid o2
    have P3 := Lib.hid o3
    have P4 := Lib.hid o4
    clear o1 o2 o3 o4
    obtain ⟨D1, c1, rfl, hc1, _⟩ := SV.of_own P1.out (by decide)
    obtain ⟨D2, c2, rfl, hc2, _⟩ := SV.of_own P3.out (by decide)
    obtain ⟨E1, e1, rfl, he1, _⟩ := SV.of_own P2.out (by decide)
    obtain ⟨E2, e2, rfl, he2, _⟩ := SV.of_own P4.out (by decide)
    have k2 := fun k hk => (P4.out.lt k hk).2
    have k3 := fun k hk => (P3.out.lt k hk).2
    refine wp_world (fun wz => RB wz (w2.heap.size + 1) ⟨mX, mY, mW, mH⟩ ∧ Below w.heap.size w wz ∧ w5.heap.size ≤ wz.heap.size ∧ wz.ownsRow wq.heap.size 50 5 (.slice D1 xs.length c1) xs.length (ES.flat xs) ∧ wz.ownsRow wq.heap.size 48 4 (.slice E1 xb.length e1) xb.length (ER.flat xb) ∧ wz.ownsRow w4.heap.size 50 5 (.slice D2 ys.length c2) ys.length (ES.flat ys) ∧ wz.ownsRow w4.heap.size 48 4 (.slice E2 yb.length e2) yb.length (ER.flat yb))
      ⟨hM5, hb7, Nat.le_refl _, P1.out, P2.out, P3.out, P4.out⟩ ?_
    clear P1 P2 P3 P4 hM5 hb7 HX HY HC
    rintro wz ⟨hm, hb, hsz, p1, p2, p3, p4⟩
    have q1 := fun k hk => (p1.lt k hk).2
    have q2 := fun k hk => (p2.lt k hk).2
    have q3 := fun k hk => (p3.lt k hk).2
    have q4 := fun k hk => (p4.lt k hk).2
    have hmz := hm.lt
    obtain ⟨m0, m1, m2, m3, mf⟩ := hm.cells
    dsimp only at m0 m1 m2 m3
    have hbz := hb.size
    have F := Lib.hid (show RB wz.drew (w2.heap.size + 1) ⟨mX, mY, mW, mH⟩ ∧ Below w.heap.size w wz.drew ∧ wz.drew.ownsRow wq.heap.size 50 5 (.slice D1 xs.length c1) xs.length (ES.flat xs) ∧ wz.drew.ownsRow wq.heap.size 48 4 (.slice E1 xb.length e1) xb.length (ER.flat xb) ∧ wz.drew.ownsRow w4.heap.size 50 5 (.slice D2 ys.length c2) ys.length (ES.flat ys) ∧ wz.drew.ownsRow w4.heap.size 48 4 (.slice E2 yb.length e2) yb.length (ER.flat yb) from ⟨hm, hb.drew, p1, p2, p3, p4⟩)
    have hzd : wz.drew.heap.size ≤ wz.heap.size ∧ wz.heap.size ≤ wz.drew.heap.size := ⟨Nat.le_refl _, Nat.le_refl _⟩
    have FQ := Lib.hid (And.intro q1 (And.intro q2 (And.intro q3 q4)))
    clear hm hb p1 p2 p3 p4 q1 q2 q3 q4 l1 l2 k2 k3
    refine wp_region_held_drew (S := (fun wv => wv.cell? ⟨w2.heap.size + 1, 0, none⟩ = some (.int .i64 mX) ∧ wv.cell? ⟨w2.heap.size + 1, 1, none⟩ = some (.int .i64 mY) ∧ wv.cell? ⟨w2.heap.size + 1, 2, none⟩ = some (.int .i64 mW) ∧ wv.cell? ⟨w2.heap.size + 1, 3, none⟩ = some (.int .i64 mH))) (by kernel_rfl) (by exact ⟨m0, m1, m2, m3⟩) (fun hH0 => ?_)
    generalize wz.drew = wy at *
    refine wpAnyH_take (i := 0) (oi := _) (v := .slice D1 xs.length c1) rfl (by kernel_rfl) (by kernel_rfl) (by kernel_rfl) (fun _ _ _ h => h) (Or.inl ⟨by rfl, ?_⟩) hH0 ?_
    · intro wv hSw
      try dsimp only at hSw
      go_simp
    change wpAnyH _ _ _ _ _ _ _ (Act.put _ (some 69) (.slice D1 xs.length c1)) _
    simp only [Act.put, List.setIfInBounds_toArray, List.set_cons_zero, List.set_cons_succ]
    refine wpAnyH_take (i := 1) (oi := _) (v := .slice D2 ys.length c2) rfl (by kernel_rfl) (by kernel_rfl) (by kernel_rfl) (fun _ _ _ h => h) (Or.inl ⟨by rfl, ?_⟩) hH0 ?_
    · intro wv hSw
      try dsimp only at hSw
      go_simp
    change wpAnyH _ _ _ _ _ _ _ (Act.put _ (some 70) (.slice D2 ys.length c2)) _
    simp only [Act.put, List.setIfInBounds_toArray, List.set_cons_zero, List.set_cons_succ]
    refine wpAnyH_take (i := 3) (oi := _) (v := .agg #[.int .i64 mX, .int .i64 mY, .int .i64 mW, .int .i64 mH]) rfl (by kernel_rfl) (by kernel_rfl) (by kernel_rfl) (fun _ _ _ h => h) (Or.inl ⟨by rfl, ?_⟩) hH0 ?_
    · intro wv hSw
      try dsimp only at hSw
      go_simp
    change wpAnyH _ _ _ _ _ _ _ (Act.put _ (some 72) (.agg #[.int .i64 mX, .int .i64 mY, .int .i64 mW, .int .i64 mH])) _
    simp only [Act.put, List.setIfInBounds_toArray, List.set_cons_zero, List.set_cons_succ]
    refine wpAnyH_take (i := 5) (oi := _) (v := .slice E1 xb.length e1) rfl (by kernel_rfl) (by kernel_rfl) (by kernel_rfl) (fun _ _ _ h => h) (Or.inl ⟨by rfl, ?_⟩) hH0 ?_
    · intro wv hSw
      try dsimp only at hSw
      go_simp
    change wpAnyH _ _ _ _ _ _ _ (Act.put _ (some 74) (.slice E1 xb.length e1)) _
    simp only [Act.put, List.setIfInBounds_toArray, List.set_cons_zero, List.set_cons_succ]
    refine wpAnyH_take (i := 7) (oi := _) (v := .slice E2 yb.length e2) rfl (by kernel_rfl) (by kernel_rfl) (by kernel_rfl) (fun _ _ _ h => h) (Or.inl ⟨by rfl, ?_⟩) hH0 ?_
    · intro wv hSw
      try dsimp only at hSw
      go_simp
    change wpAnyH _ _ _ _ _ _ _ (Act.put _ (some 76) (.slice E2 yb.length e2)) _
    simp only [Act.put, List.setIfInBounds_toArray, List.set_cons_zero, List.set_cons_succ]
    refine wpAnyH_ready (rs := [2, 4]) (by kernel_rfl) (by simp) ?_
    refine AllReadyH.cons (o := _) rfl (fun K hK => ?_) (AllReadyH.cons (o := _) rfl (fun K hK => ?_) AllReadyH.nil)
    · refine step_append_src _ (by rfl) (.tmp 69) (.tmp 70) 43 (by rfl) rowS wq.heap.size xs.length ys.length c2 _ D2 (ES.flat xs) (ES.flat ys) (by rfl) (by rfl) (by exact F.out.2.2.1) (by exact own_src F.out.2.2.2.2.1 (by decide)) (ES.flat_len ys) (ES.flat_all ys) (by omega) (by omega) ?_
      rintro va x1 ⟨ov, bv, hv⟩
      have m1m := hv _ _ _ (by decide) F.out.1
      have b1b := F.out.2.1.trans (bv.mono (by omega))
      have z1z := bv.size
      have u1_1 := own_held hv (by decide) F.out.2.2.2.1
      have u2_1 := own_held hv (by decide) F.out.2.2.2.2.2
      refine hK.out _ _ (by exact (rb4 m1m)) (fun hT1 => ?_)
      clear hK K
      try simp only [Act.put, List.setIfInBounds_toArray, List.set_cons_zero, List.set_cons_succ]
      refine wpAnyH_ready (rs := [4]) (by kernel_rfl) (by simp) ?_
      refine AllReadyH.cons (o := _) rfl (fun K hK => ?_) AllReadyH.nil
      · go_simp
        have gz := below_new x1 (.cells #[.int .i64 mX, .int .i64 mY, .int .i64 mW, .int .i64 mH] 48)
        have mm_2 := own_one x1 48 4 [.int .i64 mX, .int .i64 mY, .int .i64 mW, .int .i64 mH] rfl
        have m2m := RB.alloc m1m (.cells #[.int .i64 mX, .int .i64 mY, .int .i64 mW, .int .i64 mH] 48)
        have b2b := b1b.trans (gz.mono (by omega))
        have u1_2 := own_below u1_1 gz (Nat.le_refl _)
        have u2_2 := own_below u2_1 gz (Nat.le_refl _)
        have ov_2 := own_below ov gz (Nat.le_refl _)
        have z2z : x1.heap.size ≤ (x1.alloc (.cells #[.int .i64 mX, .int .i64 mY, .int .i64 mW, .int .i64 mH] 48)).heap.size := gz.size
        refine hK.out _ _ (by exact (rb4 m2m)) (fun hT2 => ?_)
        obtain ⟨gm, hgm⟩ : ∃ gm, gm = x1.heap.size := ⟨_, rfl⟩
        rw [← hgm] at mm_2 z2z
        try rw [← hgm]
        have hgz : wz.heap.size ≤ gm := by omega
        generalize (x1.alloc (.cells #[.int .i64 mX, .int .i64 mY, .int .i64 mW, .int .i64 mH] 48)) = x2 at *
        clear hK K
        try simp only [Act.put, List.setIfInBounds_toArray, List.set_cons_zero, List.set_cons_succ]
        refine wpAnyH_ready (rs := [6]) (by kernel_rfl) (by simp) ?_
        refine AllReadyH.cons (o := _) rfl (fun K hK => ?_) AllReadyH.nil
        · refine step_append_src _ (by rfl) (.tmp 73) (.tmp 74) 44 (by rfl) rowR gm 1 xb.length e1 _ E1 [.int .i64 mX, .int .i64 mY, .int .i64 mW, .int .i64 mH] (ER.flat xb) (by rfl) (by rfl) (by exact mm_2) (by exact own_src u1_2 (by decide)) (ER.flat_len xb) (ER.flat_all xb) (by omega) (by omega) ?_
          rintro ra x3 ⟨or, br, hh⟩
          have m3m := RB.below m2m br (by omega)
          have b3b := b2b.trans (br.mono (by omega))
          have z3z := br.size
          have u2_3 := own_low u2_2 br (fun k hk => Nat.lt_of_lt_of_le (FQ.out.2.2.2 k hk) hgz)
          have ov_3 := own_held hh (by decide) ov_2
          refine hK.out _ _ (by exact (rb4 m3m)) (fun hT3 => ?_)
          clear hK K
          try simp only [Act.put, List.setIfInBounds_toArray, List.set_cons_zero, List.set_cons_succ]
          refine wpAnyH_ready (rs := [8]) (by kernel_rfl) (by simp) ?_
          refine AllReadyH.cons (o := _) rfl (fun K hK => ?_) AllReadyH.nil
          · refine step_append_src _ (by rfl) (.tmp 75) (.tmp 76) 44 (by rfl) rowR gm (1 + xb.length) yb.length e2 _ E2 ([.int .i64 mX, .int .i64 mY, .int .i64 mW, .int .i64 mH] ++ ER.flat xb) (ER.flat yb) (by rfl) (by rfl) (by exact or) (by exact own_src u2_3 (by decide)) (ER.flat_len yb) (ER.flat_all yb) (by omega) (by omega) ?_
            rintro rb x4 ⟨or2, br, hh⟩
            have m4m := RB.below m3m br (by omega)
            have b4b := b3b.trans (br.mono (by omega))
            have z4z := br.size
            have ov_4 := own_held hh (by decide) ov_3
            refine hK.out _ _ (by exact (rb4 m4m)) (fun hT4 => ?_)
            clear hK K
            try simp only [Act.put, List.setIfInBounds_toArray, List.set_cons_zero, List.set_cons_succ]
            refine wpAnyH_take (i := 9) (oi := _) (v := va) rfl (by kernel_rfl) (by kernel_rfl) (by kernel_rfl) (fun _ _ _ h => h) (Or.inl ⟨by rfl, by intro wv hSw; go_simp⟩) hT4 ?_
            change wpAnyH _ _ _ _ _ _ _ (Act.put _ (some 6) (va)) _
            simp only [Act.put, List.setIfInBounds_toArray, List.set_cons_zero, List.set_cons_succ]
            refine wpAnyH_take (i := 10) (oi := _) (v := rb) rfl (by kernel_rfl) (by kernel_rfl) (by kernel_rfl) (fun _ _ _ h => h) (Or.inl ⟨by rfl, by intro wv hSw; go_simp⟩) hT4 ?_
            change wpAnyH _ _ _ _ _ _ _ (Act.put _ (some 7) (rb)) _
            simp only [Act.put, List.setIfInBounds_toArray, List.set_cons_zero, List.set_cons_succ]
            refine wpAnyH_take (i := 11) (oi := _) (v := .bool true) rfl (by kernel_rfl) (by kernel_rfl) (by kernel_rfl) (fun _ _ _ h => h) (Or.inl ⟨by rfl, by intro wv hSw; go_simp⟩) hT4 ?_
            change wpAnyH _ _ _ _ _ _ _ (Act.put _ (some 8) (.bool true)) _
            simp only [Act.put, List.setIfInBounds_toArray, List.set_cons_zero, List.set_cons_succ]
            refine wpAnyH_done (by kernel_rfl) ?_ _
            go_wp2_with fail
            refine bodyPost_ret (v := .tuple #[va, rb, .bool true]) (by simp [results, Try.results45, go_sem]) rfl ⟨_, _, rfl, ?_, ?_, b4b⟩
            · rw [List.length_append, ES.flat_app]; exact own_weak ov_4 (by omega)
            · rw [List.length_cons, List.length_append, show ER.flat (⟨mX, mY, mW, mH⟩ :: (xb ++ yb)) = [.int .i64 mX, .int .i64 mY, .int .i64 mW, .int .i64 mH] ++ ER.flat xb ++ ER.flat yb by rw [show (⟨mX, mY, mW, mH⟩ : R) :: (xb ++ yb) = [⟨mX, mY, mW, mH⟩] ++ xb ++ yb from rfl, ER.flat_app, ER.flat_app]; rfl, show xb.length + yb.length + 1 = 1 + xb.length + yb.length by omega]; exact own_weak or2 (by omega)
    · go_simp
      have gz := below_new wy (.cells #[.int .i64 mX, .int .i64 mY, .int .i64 mW, .int .i64 mH] 48)
      have mm_1 := own_one wy 48 4 [.int .i64 mX, .int .i64 mY, .int .i64 mW, .int .i64 mH] rfl
      have m1m := RB.alloc F.out.1 (.cells #[.int .i64 mX, .int .i64 mY, .int .i64 mW, .int .i64 mH] 48)
      have b1b := F.out.2.1.trans (gz.mono (by omega))
      have u1_1 := own_below F.out.2.2.2.1 gz (Nat.le_refl _)
      have u2_1 := own_below F.out.2.2.2.2.2 gz (Nat.le_refl _)
      have v1_1 := own_below F.out.2.2.1 gz (Nat.le_refl _)
      have v2_1 := own_below F.out.2.2.2.2.1 gz (Nat.le_refl _)
      have z1z : wy.heap.size ≤ (wy.alloc (.cells #[.int .i64 mX, .int .i64 mY, .int .i64 mW, .int .i64 mH] 48)).heap.size := gz.size
      refine hK.out _ _ (by exact (rb4 m1m)) (fun hT1 => ?_)
      obtain ⟨gm, hgm⟩ : ∃ gm, gm = wy.heap.size := ⟨_, rfl⟩
      rw [← hgm] at mm_1 z1z
      try rw [← hgm]
      have hgz : wz.heap.size ≤ gm := by omega
      generalize (wy.alloc (.cells #[.int .i64 mX, .int .i64 mY, .int .i64 mW, .int .i64 mH] 48)) = x1 at *
      clear hK K
      try simp only [Act.put, List.setIfInBounds_toArray, List.set_cons_zero, List.set_cons_succ]
      refine wpAnyH_ready (rs := [2]) (by kernel_rfl) (by simp) ?_
      refine AllReadyH.cons (o := _) rfl (fun K hK => ?_) AllReadyH.nil
      · refine step_append_src _ (by rfl) (.tmp 69) (.tmp 70) 43 (by rfl) rowS wq.heap.size xs.length ys.length c2 _ D2 (ES.flat xs) (ES.flat ys) (by rfl) (by rfl) (by exact v1_1) (by exact own_src v2_1 (by decide)) (ES.flat_len ys) (ES.flat_all ys) (by omega) (by omega) ?_
        rintro va x2 ⟨ov, bv, hv⟩
        have m2m := hv _ _ _ (by decide) m1m
        have b2b := b1b.trans (bv.mono (by omega))
        have z2z := bv.size
        have u1_2 := own_held hv (by decide) u1_1
        have u2_2 := own_held hv (by decide) u2_1
        have mm_2 := own_held hv (by decide) mm_1
        refine hK.out _ _ (by exact (rb4 m2m)) (fun hT2 => ?_)
        clear hK K
        try simp only [Act.put, List.setIfInBounds_toArray, List.set_cons_zero, List.set_cons_succ]
        refine wpAnyH_ready (rs := [6]) (by kernel_rfl) (by simp) ?_
        refine AllReadyH.cons (o := _) rfl (fun K hK => ?_) AllReadyH.nil
        · refine step_append_src _ (by rfl) (.tmp 73) (.tmp 74) 44 (by rfl) rowR gm 1 xb.length e1 _ E1 [.int .i64 mX, .int .i64 mY, .int .i64 mW, .int .i64 mH] (ER.flat xb) (by rfl) (by rfl) (by exact mm_2) (by exact own_src u1_2 (by decide)) (ER.flat_len xb) (ER.flat_all xb) (by omega) (by omega) ?_
          rintro ra x3 ⟨or, br, hh⟩
          have m3m := RB.below m2m br (by omega)
          have b3b := b2b.trans (br.mono (by omega))
          have z3z := br.size
          have u2_3 := own_low u2_2 br (fun k hk => Nat.lt_of_lt_of_le (FQ.out.2.2.2 k hk) hgz)
          have ov_3 := own_held hh (by decide) ov
          refine hK.out _ _ (by exact (rb4 m3m)) (fun hT3 => ?_)
          clear hK K
          try simp only [Act.put, List.setIfInBounds_toArray, List.set_cons_zero, List.set_cons_succ]
          refine wpAnyH_ready (rs := [8]) (by kernel_rfl) (by simp) ?_
          refine AllReadyH.cons (o := _) rfl (fun K hK => ?_) AllReadyH.nil
          · refine step_append_src _ (by rfl) (.tmp 75) (.tmp 76) 44 (by rfl) rowR gm (1 + xb.length) yb.length e2 _ E2 ([.int .i64 mX, .int .i64 mY, .int .i64 mW, .int .i64 mH] ++ ER.flat xb) (ER.flat yb) (by rfl) (by rfl) (by exact or) (by exact own_src u2_3 (by decide)) (ER.flat_len yb) (ER.flat_all yb) (by omega) (by omega) ?_
            rintro rb x4 ⟨or2, br, hh⟩
            have m4m := RB.below m3m br (by omega)
            have b4b := b3b.trans (br.mono (by omega))
            have z4z := br.size
            have ov_4 := own_held hh (by decide) ov_3
            refine hK.out _ _ (by exact (rb4 m4m)) (fun hT4 => ?_)
            clear hK K
            try simp only [Act.put, List.setIfInBounds_toArray, List.set_cons_zero, List.set_cons_succ]
            refine wpAnyH_take (i := 9) (oi := _) (v := va) rfl (by kernel_rfl) (by kernel_rfl) (by kernel_rfl) (fun _ _ _ h => h) (Or.inl ⟨by rfl, by intro wv hSw; go_simp⟩) hT4 ?_
            change wpAnyH _ _ _ _ _ _ _ (Act.put _ (some 6) (va)) _
            simp only [Act.put, List.setIfInBounds_toArray, List.set_cons_zero, List.set_cons_succ]
            refine wpAnyH_take (i := 10) (oi := _) (v := rb) rfl (by kernel_rfl) (by kernel_rfl) (by kernel_rfl) (fun _ _ _ h => h) (Or.inl ⟨by rfl, by intro wv hSw; go_simp⟩) hT4 ?_
            change wpAnyH _ _ _ _ _ _ _ (Act.put _ (some 7) (rb)) _
            simp only [Act.put, List.setIfInBounds_toArray, List.set_cons_zero, List.set_cons_succ]
            refine wpAnyH_take (i := 11) (oi := _) (v := .bool true) rfl (by kernel_rfl) (by kernel_rfl) (by kernel_rfl) (fun _ _ _ h => h) (Or.inl ⟨by rfl, by intro wv hSw; go_simp⟩) hT4 ?_
            change wpAnyH _ _ _ _ _ _ _ (Act.put _ (some 8) (.bool true)) _
            simp only [Act.put, List.setIfInBounds_toArray, List.set_cons_zero, List.set_cons_succ]
            refine wpAnyH_done (by kernel_rfl) ?_ _
            go_wp2_with fail
            refine bodyPost_ret (v := .tuple #[va, rb, .bool true]) (by simp [results, Try.results45, go_sem]) rfl ⟨_, _, rfl, ?_, ?_, b4b⟩
            · rw [List.length_append, ES.flat_app]; exact own_weak ov_4 (by omega)
            · rw [List.length_cons, List.length_append, show ER.flat (⟨mX, mY, mW, mH⟩ :: (xb ++ yb)) = [.int .i64 mX, .int .i64 mY, .int .i64 mW, .int .i64 mH] ++ ER.flat xb ++ ER.flat yb by rw [show (⟨mX, mY, mW, mH⟩ : R) :: (xb ++ yb) = [⟨mX, mY, mW, mH⟩] ++ xb ++ yb from rfl, ER.flat_app, ER.flat_app]; rfl, show xb.length + yb.length + 1 = 1 + xb.length + yb.length by omega]; exact own_weak or2 (by omega)
end Go.Proofs.Ytojgmofpgefonaa
