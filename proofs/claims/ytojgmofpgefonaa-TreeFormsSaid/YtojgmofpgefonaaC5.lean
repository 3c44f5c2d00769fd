/-
  What fit of tree makes of the nodes of a tree in the call's own memory. Conditions: trees of at most 63 nodes, windows of at most a thousand, none less than the tree's least.
-/
import Derived.Test.YtojgmofpgefonaaC4
namespace Go.Proofs.Ytojgmofpgefonaa
open Go.RowKit
set_option linter.unusedSimpArgs false
set_option linter.unusedVariables false
set_option maxRecDepth 100000

theorem T.At.eq {t : T} {l m : List N} {i : Nat} (h : t.At l i) (he : ∀ k, i ≤ k → k < i + t.size → m[k]? = l[k]?) : t.At m i := by
  induction t generalizing i with
  | leaf p => exact (he i (Nat.le_refl _) (by simp [T.size])).trans h
  | fork d f x y hx hy =>
    obtain ⟨h1, h2, h3⟩ := h
    simp only [T.size] at he
    exact ⟨(he i (Nat.le_refl _) (by omega)).trans h1, hx h2 (fun k k1 k2 => he k (by omega) (by omega)), hy h3 (fun k k1 k2 => he k (by omega) (by omega))⟩
theorem T.fit_size (t : T) (r : R) : (t.fit r).size = t.size := by
  induction t generalizing r with
  | leaf p => rfl
  | fork d f x y hx hy => simp [T.fit, T.size, hx, hy]
theorem T.lay_self {t : T} {l : List N} {i : Nat} (h : t.At l i) : t.lay l i = l := by
  have flat_at : ∀ (t : T) (i : Nat), t.At l i → ∀ k, k < t.size → (t.flat i)[k]? = l[i + k]? := by
    intro t
    induction t with
    | leaf p => intro i h k hk; simp [T.size] at hk; subst hk; exact (show l[i]? = some (leafN p) from h).symm
    | fork d f x y hx hy =>
      intro i h k hk
      simp only [T.size] at hk
      cases k with
      | zero => exact h.1.symm
      | succ k =>
        simp only [T.flat, List.getElem?_cons_succ]
        by_cases hkx : k < x.size
        · rw [List.getElem?_append_left (by rw [T.flat_len]; exact hkx), hx (i + 1) h.2.1 k hkx]; congr 1; omega
        · rw [List.getElem?_append_right (by rw [T.flat_len]; omega), T.flat_len, hy (i + 1 + x.size) h.2.2 (k - x.size) (by omega)]; congr 1; omega
  have hl := T.at_lt h
  apply List.ext_getElem?
  intro k
  by_cases h1 : k < i ∨ i + t.size ≤ k
  · exact T.lay_out hl k h1
  · obtain ⟨j, rfl⟩ : ∃ j, k = i + j := ⟨k - i, by omega⟩
    rw [T.lay_in hl j (by omega), flat_at t i h j (by omega)]
/-- What is left for both parts. -/
theorem fit_step {d f : Int} {x y : T} {r : R} (ho : (T.fork d f x y).ok) (h1 : (T.fork d f x y).lw ≤ r.W) (h2 : (T.fork d f x y).lh ≤ r.H) :
    let g := heldF f (x.ll d) (side d r - 1 - y.ll d)
    1 ≤ g ∧ g ≤ side d r - 2 ∧ x.lw ≤ (aR d g r).W ∧ x.lh ≤ (aR d g r).H ∧ y.lw ≤ (bR d g r).W ∧ y.lh ≤ (bR d g r).H := by
  have a1 := x.lw_ok
  have a2 := y.lw_ok
  have a3 := x.lh_ok
  have a4 := y.lh_ok
  rcases ho.1 with rfl | rfl
  · simp [T.lw, T.lh] at h1 h2
    simp [T.ll, side, aR, bR, heldF]
    omega
  · simp [T.lw, T.lh] at h1 h2
    simp [T.ll, side, aR, bR, heldF]
    omega
theorem T.fit_fork (d f : Int) (x y : T) (r : R) : (T.fork d f x y).fit r = T.fork d (heldF f (x.ll d) (side d r - 1 - y.ll d)) (x.fit (aR d (heldF f (x.ll d) (side d r - 1 - y.ll d)) r)) (y.fit (bR d (heldF f (x.ll d) (side d r - 1 - y.ll d)) r)) := rfl
theorem wrap_i64_s (n : Int) (h0 : -1000000 ≤ n) (h1 : n ≤ 1000000) : IntKind.i64.wrap n = n := by
  simp [IntKind.wrap, IntKind.bits, IntKind.signed]
  omega

theorem rb0 {w : World} {g : Nat} (h : RB w g ⟨0, 0, 0, 0⟩) : w.cell? ⟨g, 0, none⟩ = some (.int .i64 0) ∧ w.cell? ⟨g, 1, none⟩ = some (.int .i64 0) ∧ w.cell? ⟨g, 2, none⟩ = some (.int .i64 0) ∧ w.cell? ⟨g, 3, none⟩ = some (.int .i64 0) ∧ ∀ o, w.frozen? ⟨g, o, none⟩ = false := h.cells
theorem rb_put {w : World} {g : Nat} {s : R} (h : RB w g s) (r : R) : RB ((((w.setCell ⟨g, 0, none⟩ (.int .i64 r.X)).setCell ⟨g, 1, none⟩ (.int .i64 r.Y)).setCell ⟨g, 2, none⟩ (.int .i64 r.W)).setCell ⟨g, 3, none⟩ (.int .i64 r.H)) g r := h.put r
theorem rb_far {w : World} {g k : Nat} {s : R} (h : RB w g s) (hk : g ≠ k) (r : R) : RB ((((w.setCell ⟨k, 0, none⟩ (.int .i64 r.X)).setCell ⟨k, 1, none⟩ (.int .i64 r.Y)).setCell ⟨k, 2, none⟩ (.int .i64 r.W)).setCell ⟨k, 3, none⟩ (.int .i64 r.H)) g s := h.far4 hk _ _ _ _
theorem rb_bel {w0 w : World} {B g : Nat} (h : Below B w0 w) (hg : B ≤ g) (r : R) : Below B w0 ((((w.setCell ⟨g, 0, none⟩ (.int .i64 r.X)).setCell ⟨g, 1, none⟩ (.int .i64 r.Y)).setCell ⟨g, 2, none⟩ (.int .i64 r.W)).setCell ⟨g, 3, none⟩ (.int .i64 r.H)) := below_set4 h hg _ _ _ _

def FitP (w : World) (g : Nat) (l : List N) (e : Ending) (w' : World) : Prop := e = .returned (.tuple #[]) ∧ Row w' g l ∧ Chg g w w'
set_option maxHeartbeats 16000000 in
theorem fit_any (t : T) : ∀ (r : R) (l : List N) (c i g : Nat) (w : World), Row w g l → t.At l i → t.ok → r.in → l.length ≤ 63 → t.lw ≤ r.W → t.lh ≤ r.H →
    Calls Try.prog 50 #[.slice (some ⟨g, 0, none⟩) l.length c, .int .i64 i, rv r] w (FitP w g ((t.fit r).lay l i)) := by
  induction t with
  | leaf p =>
    intro r l c i g w h hi ho hr hl hw hh
    have hlt := T.at_lt hi
    simp only [T.size] at hlt
    have hi' : (i : Int) < (l.length : Int) := by omega
    have hn : l[i]? = some (leafN p) := hi
    obtain ⟨c0, c1, c2, c3, c4, _⟩ := h.cell i _ hn
    have ho' : 0 < p := ho
    dsimp only [leafN] at c0 c1 c2 c3 c4
    have e : ((T.leaf p).fit r).lay l i = l := T.lay_self hi
    rw [e]
    obtain ⟨X, Y, W, H⟩ := r
    unfold rv
    dsimp only
    have gl := h.lt
    have kb : Below w.heap.size w ((w.alloc (.cells #[.int .i64 X, .int .i64 Y, .int .i64 W, .int .i64 H] 48)).alloc (.cells #[.int .i64 p, .int .i64 0, .int .i64 0, .int .i64 0, .int .i64 0] 23)) := (below_new _ _).alloc (by simp) _
    go_enter Try.func50, Try.ntmps50
    go_wp2_with fail
    refine bodyPost_ret (v := .tuple #[]) (by simp [results, Try.results50, go_sem]) rfl ⟨rfl, ?_, Chg.of kb gl⟩
    obtain ⟨rest, h⟩ := h
    exact ⟨rest, (h.alloc _).alloc _⟩
  | fork d f x y hx hy =>
    intro r l c i g w h hi ho hr hl hw hh
    have hlt := T.at_lt hi
    have sz : (T.fork d f x y).size = x.size + y.size + 1 := rfl
    rw [sz] at hlt
    have hi' : (i : Int) < (l.length : Int) := by omega
    have hn := hi.1
    obtain ⟨c0, c1, c2, c3, c4, cf⟩ := h.cell i _ hn
    dsimp only [T.forkN] at c0 c1 c2 c3 c4
    have gl := h.lt
    have st := fit_step ho hw hh
    rw [T.fit_fork]
    dsimp only at st
    generalize hgg : heldF f (x.ll d) (side d r - 1 - y.ll d) = gg at *
    obtain ⟨s1, s2, s3, s4, s5, s6⟩ := st
    obtain ⟨hcut, ra, rm, rb⟩ := cut_in hr ho.1 s1 s2
    have HC := Lib.hid (cut_any r d gg)
    rw [hcut] at HC
    unfold cutV at HC
    dsimp only at HC
    have HHl := Lib.hid (held_any f (x.ll d) (side d r - 1 - y.ll d))
    rw [hgg] at HHl
    have HSd := Lib.hid (sideIn_any d r)
    have HLx := Lib.hid (fun w' hb => leastIn_any d x l (some ⟨g, 0, none⟩) c (i + 1) 0 w' ((h.tab (Nat.zero_le _)).below (C := w.heap.size) hb (Nat.le_refl _)) hi.2.1 ho.2.2.2.1 (by omega))
    have HLy := Lib.hid (fun w' hb => leastIn_any d y l (some ⟨g, 0, none⟩) c (i + 1 + x.size) 0 w' ((h.tab (Nat.zero_le _)).below (C := w.heap.size) hb (Nat.le_refl _)) hi.2.2 ho.2.2.2.2 (by omega))
    have bsd : 0 ≤ side d r ∧ side d r ≤ 1000 := by
      obtain ⟨_, _, _, _, _, _⟩ := hr
      unfold side
      rcases ho.1 with rfl | rfl <;> simp <;> omega
    have bly : 0 ≤ y.ll d ∧ y.ll d ≤ 63 := by
      have q1 := y.lw_ok
      have q2 := y.lh_ok
      unfold T.ll
      rcases ho.1 with rfl | rfl <;> simp <;> omega
    have fx : (T.forkN d gg i (x.fit (aR d gg r))) = ⟨0, d, gg, (i : Int) + 1, (i : Int) + 1 + x.size⟩ := by
      simp only [T.forkN, T.fit_size]
      congr 1 <;> omega
    have HFin := Lib.hid (T.lay_fork (l := l) (i := i) (d := d) (f := gg) (x := x.fit (aR d gg r)) (y := y.fit (bR d gg r)) (by simp only [T.fit_size]; omega) _ fx.symm)
    rw [T.fit_size] at HFin
    obtain ⟨l1, hl1⟩ : ∃ l1, l1 = l.set i ⟨0, d, gg, (i : Int) + 1, (i : Int) + 1 + x.size⟩ := ⟨_, rfl⟩
    have len1 : l1.length = l.length := by rw [hl1, List.length_set]
    have n1 : l1[i]? = some ⟨0, d, gg, (i : Int) + 1, (i : Int) + 1 + x.size⟩ := by rw [hl1]; exact List.getElem?_set_self (by omega)
    have ax1 : x.At l1 (i + 1) := hi.2.1.eq fun k k1 k2 => by rw [hl1]; exact List.getElem?_set_ne (by omega)
    have ay1 : y.At l1 (i + 1 + x.size) := hi.2.2.eq fun k k1 k2 => by rw [hl1]; exact List.getElem?_set_ne (by omega)
    have HX := Lib.hid (fun w' hrow => hx (aR d gg r) l1 c (i + 1) g w' hrow ax1 ho.2.2.2.1 ra (by omega) s3 s4)
    obtain ⟨l2, hl2⟩ : ∃ l2, l2 = (x.fit (aR d gg r)).lay l1 (i + 1) := ⟨_, rfl⟩
    have lx2 : (i + 1) + (x.fit (aR d gg r)).size ≤ l1.length := by rw [T.fit_size]; omega
    have len2 : l2.length = l.length := by rw [hl2, T.lay_len lx2, len1]
    have ay2 : y.At l2 (i + 1 + x.size) := ay1.eq fun k k1 k2 => by rw [hl2]; exact T.lay_out lx2 k (by rw [T.fit_size]; omega)
    have HY := Lib.hid (fun w' hrow => hy (bR d gg r) l2 c (i + 1 + x.size) g w' hrow ay2 ho.2.2.2.2 rb (by omega) s5 s6)
    rw [← hl1, ← hl2] at HFin
    rw [len1, ← hl2] at HX
    rw [len2, HFin.out] at HY
    have HSet := Lib.hid (fun w' (hrow : Row w' g l) => (show Row (w'.setCell ⟨g, i * 5 + 2, none⟩ (.int .i64 gg)) g l1 by
      have := hrow.set i 2 _ ⟨0, d, gg, (i : Int) + 1, (i : Int) + 1 + x.size⟩ (.int .i64 gg) hn (by omega) (by simp only [ncs, T.forkN, List.set_cons_succ, List.set_cons_zero]; congr 5 <;> omega)
      rwa [← hl1] at this))
    have HN1 := Lib.hid n1
    have HROW := Lib.hid h
    generalize ((T.fork d gg (x.fit (aR d gg r)) (y.fit (bR d gg r))).lay l i) = LF at *
    have e1 : ((i + 1 : Nat) : Int) = (i : Int) + 1 := by omega
    have e2 : ((i + 1 + x.size : Nat) : Int) = (i : Int) + 1 + x.size := by omega
    rw [e1] at c3 HLx HX
    rw [e2] at c4 HLy HY
    clear hx hy ho hr hw hh hi hn h hcut ra rm rb s3 s4 s5 s6 HFin hl1 hl2 n1 ax1 ay1 lx2 ay2 fx hgg len1 len2 e1 e2 sz
    generalize x.ll d = lx at *
    generalize y.ll d = ly at *
    generalize side d r = sd at *
    generalize aR d gg r = ra at *
    generalize mR d gg r = rm at *
    generalize bR d gg r = rb at *
    generalize x.size = sx at *
    generalize y.size = sy at *
    obtain ⟨X, Y, W, H⟩ := r
    unfold rv at *
    dsimp only at *
    have k0 := (RB.new w ⟨X, Y, W, H⟩).alloc (.cells #[.int .i64 0, .int .i64 d, .int .i64 f, .int .i64 ((i : Int) + 1), .int .i64 ((i : Int) + 1 + sx)] 23)
    have k1 := Held.new (w.alloc (.cells #[.int .i64 X, .int .i64 Y, .int .i64 W, .int .i64 H] 48)) 23 #[.int .i64 0, .int .i64 d, .int .i64 f, .int .i64 ((i : Int) + 1), .int .i64 ((i : Int) + 1 + sx)]
    simp only [World.size_alloc] at k1
    have kb : Below w.heap.size w ((w.alloc (.cells #[.int .i64 X, .int .i64 Y, .int .i64 W, .int .i64 H] 48)).alloc (.cells #[.int .i64 0, .int .i64 d, .int .i64 f, .int .i64 ((i : Int) + 1), .int .i64 ((i : Int) + 1 + sx)] 23)) := (below_new _ _).alloc (by simp) _
    go_enter Try.func50, Try.ntmps50
    go_upto_region 3 with fail
    refine wp_world (fun wq => RB wq w.heap.size ⟨X, Y, W, H⟩ ∧ NB wq (w.heap.size + 1) ⟨0, d, f, (i : Int) + 1, (i : Int) + 1 + sx⟩ ∧ Below w.heap.size w wq) ⟨k0, k1, kb⟩ ?_
    clear k0 k1 kb c0 c1 c2 c3 c4 cf
    rintro wq ⟨k0, k1, kb⟩
    obtain ⟨r0, r1, r2, r3, rf⟩ := k0.cells
    obtain ⟨n0, n1, n2, n3, n4⟩ := k1.cells
    dsimp only at r0 r1 r2 r3 n0 n1 n2 n3 n4
    have F0 := Lib.hid (show RB wq.drew w.heap.size ⟨X, Y, W, H⟩ ∧ NB wq.drew (w.heap.size + 1) ⟨0, d, f, (i : Int) + 1, (i : Int) + 1 + sx⟩ ∧ Below w.heap.size w wq.drew from ⟨k0, k1, kb.drew⟩)
    have kl := k1.lt
    clear k0 k1 kb
    refine wp_region_held_drew (S := (fun wv => wv.cell? ⟨w.heap.size + 1, 1, none⟩ = some (.int .i64 d) ∧ wv.cell? ⟨w.heap.size + 1, 4, none⟩ = some (.int .i64 ((i : Int) + 1 + sx)) ∧ wv.cell? ⟨w.heap.size, 0, none⟩ = some (.int .i64 X) ∧ wv.cell? ⟨w.heap.size, 1, none⟩ = some (.int .i64 Y) ∧ wv.cell? ⟨w.heap.size, 2, none⟩ = some (.int .i64 W) ∧ wv.cell? ⟨w.heap.size, 3, none⟩ = some (.int .i64 H))) (by kernel_rfl) (by exact ⟨n1, n4, r0, r1, r2, r3⟩) (fun hH0 => ?_)
    clear r0 r1 r2 r3 rf n0 n1 n2 n3 n4
    have kl : w.heap.size + 1 < wq.drew.heap.size := kl
    generalize wq.drew = wy at *
    refine wpAnyH_take (i := 0) (oi := _) (v := .pointer (some ⟨w.heap.size + 1, 1, none⟩)) rfl (by kernel_rfl) (by kernel_rfl) (by kernel_rfl) (fun _ _ _ h => h) (Or.inl ⟨by rfl, ?_⟩) hH0 ?_
    · intro wv hSw
      try dsimp only at hSw
      go_simp
    change wpAnyH _ _ _ _ _ _ _ (Act.put _ (some 19) (.pointer (some ⟨w.heap.size + 1, 1, none⟩))) _
    simp only [Act.put, List.setIfInBounds_toArray, List.set_cons_zero, List.set_cons_succ]
    refine wpAnyH_take (i := 1) (oi := _) (v := .int .i64 d) rfl (by kernel_rfl) (by kernel_rfl) (by kernel_rfl) (fun _ _ _ h => h) (Or.inl ⟨by rfl, ?_⟩) hH0 ?_
    · intro wv hSw
      try dsimp only at hSw
      go_simp
    change wpAnyH _ _ _ _ _ _ _ (Act.put _ (some 20) (.int .i64 d)) _
    simp only [Act.put, List.setIfInBounds_toArray, List.set_cons_zero, List.set_cons_succ]
    refine wpAnyH_take (i := 2) (oi := _) (v := .agg #[.int .i64 X, .int .i64 Y, .int .i64 W, .int .i64 H]) rfl (by kernel_rfl) (by kernel_rfl) (by kernel_rfl) (fun _ _ _ h => h) (Or.inl ⟨by rfl, ?_⟩) hH0 ?_
    · intro wv hSw
      try dsimp only at hSw
      go_simp
    change wpAnyH _ _ _ _ _ _ _ (Act.put _ (some 21) (.agg #[.int .i64 X, .int .i64 Y, .int .i64 W, .int .i64 H])) _
    simp only [Act.put, List.setIfInBounds_toArray, List.set_cons_zero, List.set_cons_succ]
    refine wpAnyH_take (i := 5) (oi := _) (v := .pointer (some ⟨w.heap.size + 1, 1, none⟩)) rfl (by kernel_rfl) (by kernel_rfl) (by kernel_rfl) (fun _ _ _ h => h) (Or.inl ⟨by rfl, ?_⟩) hH0 ?_
    · intro wv hSw
      try dsimp only at hSw
      go_simp
    change wpAnyH _ _ _ _ _ _ _ (Act.put _ (some 24) (.pointer (some ⟨w.heap.size + 1, 1, none⟩))) _
    simp only [Act.put, List.setIfInBounds_toArray, List.set_cons_zero, List.set_cons_succ]
    refine wpAnyH_take (i := 6) (oi := _) (v := .int .i64 d) rfl (by kernel_rfl) (by kernel_rfl) (by kernel_rfl) (fun _ _ _ h => h) (Or.inl ⟨by rfl, ?_⟩) hH0 ?_
    · intro wv hSw
      try dsimp only at hSw
      go_simp
    change wpAnyH _ _ _ _ _ _ _ (Act.put _ (some 25) (.int .i64 d)) _
    simp only [Act.put, List.setIfInBounds_toArray, List.set_cons_zero, List.set_cons_succ]
    refine wpAnyH_take (i := 7) (oi := _) (v := .slice (some ⟨g, 0, none⟩) l.length c) rfl (by kernel_rfl) (by kernel_rfl) (by kernel_rfl) (fun _ _ _ h => h) (Or.inl ⟨by rfl, ?_⟩) hH0 ?_
    · intro wv hSw
      try dsimp only at hSw
      go_simp
    change wpAnyH _ _ _ _ _ _ _ (Act.put _ (some 26) (.slice (some ⟨g, 0, none⟩) l.length c)) _
    simp only [Act.put, List.setIfInBounds_toArray, List.set_cons_zero, List.set_cons_succ]
    refine wpAnyH_take (i := 8) (oi := _) (v := .pointer (some ⟨w.heap.size + 1, 4, none⟩)) rfl (by kernel_rfl) (by kernel_rfl) (by kernel_rfl) (fun _ _ _ h => h) (Or.inl ⟨by rfl, ?_⟩) hH0 ?_
    · intro wv hSw
      try dsimp only at hSw
      go_simp
    change wpAnyH _ _ _ _ _ _ _ (Act.put _ (some 27) (.pointer (some ⟨w.heap.size + 1, 4, none⟩))) _
    simp only [Act.put, List.setIfInBounds_toArray, List.set_cons_zero, List.set_cons_succ]
    refine wpAnyH_take (i := 9) (oi := _) (v := .int .i64 ((i : Int) + 1 + sx)) rfl (by kernel_rfl) (by kernel_rfl) (by kernel_rfl) (fun _ _ _ h => h) (Or.inl ⟨by rfl, ?_⟩) hH0 ?_
    · intro wv hSw
      try dsimp only at hSw
      go_simp
    change wpAnyH _ _ _ _ _ _ _ (Act.put _ (some 28) (.int .i64 ((i : Int) + 1 + sx))) _
    simp only [Act.put, List.setIfInBounds_toArray, List.set_cons_zero, List.set_cons_succ]
    refine wpAnyH_ready (rs := [3]) (by kernel_rfl) (by simp) ?_
    refine AllReadyH.cons (o := _) rfl (fun K hK => ?_) AllReadyH.nil
    go_simp
    refine (HSd.out _).mono ?_
    rintro e wp1 ⟨rfl, hb⟩
    have Fa := Lib.hid (show RB wp1 w.heap.size ⟨X, Y, W, H⟩ ∧ NB wp1 (w.heap.size + 1) ⟨0, d, f, (i : Int) + 1, (i : Int) + 1 + sx⟩ ∧ Below w.heap.size w wp1 from ⟨RB.below F0.out.1 hb (by omega), NB.below F0.out.2.1 hb (by omega), F0.out.2.2.trans (hb.mono (by omega))⟩)
    have kl := Nat.lt_of_lt_of_le kl hb.size
    clear hb
    refine hK.out _ _ (by exact ⟨(NB.cells (n := ⟨0, d, f, (i : Int) + 1, (i : Int) + 1 + sx⟩) Fa.out.2.1).2.1, (NB.cells (n := ⟨0, d, f, (i : Int) + 1, (i : Int) + 1 + sx⟩) Fa.out.2.1).2.2.2.2, (RB.cells (r := ⟨X, Y, W, H⟩) Fa.out.1).1, (RB.cells (r := ⟨X, Y, W, H⟩) Fa.out.1).2.1, (RB.cells (r := ⟨X, Y, W, H⟩) Fa.out.1).2.2.1, (RB.cells (r := ⟨X, Y, W, H⟩) Fa.out.1).2.2.2.1⟩) (fun hH1 => ?_)
    clear hK K
    try simp only [Act.put, List.setIfInBounds_toArray, List.set_cons_zero, List.set_cons_succ]
    refine wpAnyH_take (i := 4) (oi := _) (v := .int .i64 (sd - 1)) rfl (by kernel_rfl) (by kernel_rfl) (by kernel_rfl) (fun _ _ _ h => h) (Or.inl ⟨by rfl, ?_⟩) hH1 ?_
    · intro wv hSw
      try dsimp only at hSw
      go_simp
      all_goals exact wrap_i64_s (sd - 1) (by omega) (by omega)
    change wpAnyH _ _ _ _ _ _ _ (Act.put _ (some 23) (.int .i64 (sd - 1))) _
    simp only [Act.put, List.setIfInBounds_toArray, List.set_cons_zero, List.set_cons_succ]
    refine wpAnyH_ready (rs := [10]) (by kernel_rfl) (by simp) ?_
    refine AllReadyH.cons (o := _) rfl (fun K hK => ?_) AllReadyH.nil
    go_simp
    refine (HLy.out _ Fa.out.2.2).mono ?_
    rintro e wp2 ⟨rfl, hb⟩
    have F1 := Lib.hid (show RB wp2 w.heap.size ⟨X, Y, W, H⟩ ∧ NB wp2 (w.heap.size + 1) ⟨0, d, f, (i : Int) + 1, (i : Int) + 1 + sx⟩ ∧ Below w.heap.size w wp2 from ⟨RB.below Fa.out.1 hb (by omega), NB.below Fa.out.2.1 hb (by omega), Fa.out.2.2.trans (hb.mono (by omega))⟩)
    have kl := Nat.lt_of_lt_of_le kl hb.size
    clear hb
    refine hK.out _ _ (by exact ⟨(NB.cells (n := ⟨0, d, f, (i : Int) + 1, (i : Int) + 1 + sx⟩) F1.out.2.1).2.1, (NB.cells (n := ⟨0, d, f, (i : Int) + 1, (i : Int) + 1 + sx⟩) F1.out.2.1).2.2.2.2, (RB.cells (r := ⟨X, Y, W, H⟩) F1.out.1).1, (RB.cells (r := ⟨X, Y, W, H⟩) F1.out.1).2.1, (RB.cells (r := ⟨X, Y, W, H⟩) F1.out.1).2.2.1, (RB.cells (r := ⟨X, Y, W, H⟩) F1.out.1).2.2.2.1⟩) (fun hH2 => ?_)
    clear hK K
    try simp only [Act.put, List.setIfInBounds_toArray, List.set_cons_zero, List.set_cons_succ]
    refine wpAnyH_take (i := 11) (oi := _) (v := .int .i64 (sd - 1 - ly)) rfl (by kernel_rfl) (by kernel_rfl) (by kernel_rfl) (fun _ _ _ h => h) (Or.inl ⟨by rfl, ?_⟩) hH2 ?_
    · intro wv hSw
      try dsimp only at hSw
      go_simp
      all_goals exact wrap_i64_s (sd - 1 - ly) (by omega) (by omega)
    change wpAnyH _ _ _ _ _ _ _ (Act.put _ (some 30) (.int .i64 (sd - 1 - ly))) _
    simp only [Act.put, List.setIfInBounds_toArray, List.set_cons_zero, List.set_cons_succ]
    refine wpAnyH_take (i := 12) (oi := _) (v := .int .i64 (sd - 1 - ly)) rfl (by kernel_rfl) (by kernel_rfl) (by kernel_rfl) (fun _ _ _ h => h) (Or.inl ⟨by rfl, ?_⟩) hH2 ?_
    · intro wv hSw
      try dsimp only at hSw
      go_simp
    change wpAnyH _ _ _ _ _ _ _ (Act.put _ (some 7) (.int .i64 (sd - 1 - ly))) _
    simp only [Act.put, List.setIfInBounds_toArray, List.set_cons_zero, List.set_cons_succ]
    refine wpAnyH_done (by kernel_rfl) ?_ _
    clear hH0 hH1 hH2
    go_upto_region 4 with fail
    have F4 := F1
    clear F0
    obtain ⟨k0, k1, kb⟩ := F4.out
    obtain ⟨r0, r1, r2, r3, rf⟩ := RB.cells (r := ⟨X, Y, W, H⟩) k0
    obtain ⟨n0, n1, n2, n3, n4⟩ := NB.cells (n := ⟨0, d, f, (i : Int) + 1, (i : Int) + 1 + sx⟩) k1
    dsimp only at r0 r1 r2 r3 n0 n1 n2 n3 n4
    have F0 := Lib.hid (show RB wp2.drew w.heap.size ⟨X, Y, W, H⟩ ∧ NB wp2.drew (w.heap.size + 1) ⟨0, d, f, (i : Int) + 1, (i : Int) + 1 + sx⟩ ∧ Below w.heap.size w wp2.drew from ⟨k0, k1, kb.drew⟩)
    have kl := k1.lt
    clear k0 k1 kb F4 F1
    refine wp_region_held_drew (S := (fun wv => wv.cell? ⟨w.heap.size + 1, 1, none⟩ = some (.int .i64 d) ∧ wv.cell? ⟨w.heap.size + 1, 2, none⟩ = some (.int .i64 f) ∧ wv.cell? ⟨w.heap.size + 1, 3, none⟩ = some (.int .i64 ((i : Int) + 1)))) (by kernel_rfl) (by exact ⟨n1, n2, n3⟩) (fun hH0 => ?_)
    clear r0 r1 r2 r3 rf n0 n1 n2 n3 n4
    have kl : w.heap.size + 1 < wp2.drew.heap.size := kl
    generalize wp2.drew = wy at *
    refine wpAnyH_take (i := 0) (oi := _) (v := .slice (some ⟨g, 0, none⟩) l.length c) rfl (by kernel_rfl) (by kernel_rfl) (by kernel_rfl) (fun _ _ _ h => h) (Or.inl ⟨by rfl, ?_⟩) hH0 ?_
    · intro wv hSw
      try dsimp only at hSw
      go_simp
    change wpAnyH _ _ _ _ _ _ _ (Act.put _ (some 31) (.slice (some ⟨g, 0, none⟩) l.length c)) _
    simp only [Act.put, List.setIfInBounds_toArray, List.set_cons_zero, List.set_cons_succ]
    refine wpAnyH_take (i := 1) (oi := _) (v := .int .i64 (i : Int)) rfl (by kernel_rfl) (by kernel_rfl) (by kernel_rfl) (fun _ _ _ h => h) (Or.inl ⟨by rfl, ?_⟩) hH0 ?_
    · intro wv hSw
      try dsimp only at hSw
      go_simp
    change wpAnyH _ _ _ _ _ _ _ (Act.put _ (some 32) (.int .i64 (i : Int))) _
    simp only [Act.put, List.setIfInBounds_toArray, List.set_cons_zero, List.set_cons_succ]
    refine wpAnyH_take (i := 2) (oi := _) (v := .pointer (some ⟨w.heap.size + 1, 2, none⟩)) rfl (by kernel_rfl) (by kernel_rfl) (by kernel_rfl) (fun _ _ _ h => h) (Or.inl ⟨by rfl, ?_⟩) hH0 ?_
    · intro wv hSw
      try dsimp only at hSw
      go_simp
    change wpAnyH _ _ _ _ _ _ _ (Act.put _ (some 33) (.pointer (some ⟨w.heap.size + 1, 2, none⟩))) _
    simp only [Act.put, List.setIfInBounds_toArray, List.set_cons_zero, List.set_cons_succ]
    refine wpAnyH_take (i := 3) (oi := _) (v := .int .i64 f) rfl (by kernel_rfl) (by kernel_rfl) (by kernel_rfl) (fun _ _ _ h => h) (Or.inl ⟨by rfl, ?_⟩) hH0 ?_
    · intro wv hSw
      try dsimp only at hSw
      go_simp
    change wpAnyH _ _ _ _ _ _ _ (Act.put _ (some 34) (.int .i64 f)) _
    simp only [Act.put, List.setIfInBounds_toArray, List.set_cons_zero, List.set_cons_succ]
    refine wpAnyH_take (i := 4) (oi := _) (v := .pointer (some ⟨w.heap.size + 1, 1, none⟩)) rfl (by kernel_rfl) (by kernel_rfl) (by kernel_rfl) (fun _ _ _ h => h) (Or.inl ⟨by rfl, ?_⟩) hH0 ?_
    · intro wv hSw
      try dsimp only at hSw
      go_simp
    change wpAnyH _ _ _ _ _ _ _ (Act.put _ (some 35) (.pointer (some ⟨w.heap.size + 1, 1, none⟩))) _
    simp only [Act.put, List.setIfInBounds_toArray, List.set_cons_zero, List.set_cons_succ]
    refine wpAnyH_take (i := 5) (oi := _) (v := .int .i64 d) rfl (by kernel_rfl) (by kernel_rfl) (by kernel_rfl) (fun _ _ _ h => h) (Or.inl ⟨by rfl, ?_⟩) hH0 ?_
    · intro wv hSw
      try dsimp only at hSw
      go_simp
    change wpAnyH _ _ _ _ _ _ _ (Act.put _ (some 36) (.int .i64 d)) _
    simp only [Act.put, List.setIfInBounds_toArray, List.set_cons_zero, List.set_cons_succ]
    refine wpAnyH_take (i := 6) (oi := _) (v := .slice (some ⟨g, 0, none⟩) l.length c) rfl (by kernel_rfl) (by kernel_rfl) (by kernel_rfl) (fun _ _ _ h => h) (Or.inl ⟨by rfl, ?_⟩) hH0 ?_
    · intro wv hSw
      try dsimp only at hSw
      go_simp
    change wpAnyH _ _ _ _ _ _ _ (Act.put _ (some 37) (.slice (some ⟨g, 0, none⟩) l.length c)) _
    simp only [Act.put, List.setIfInBounds_toArray, List.set_cons_zero, List.set_cons_succ]
    refine wpAnyH_take (i := 7) (oi := _) (v := .pointer (some ⟨w.heap.size + 1, 3, none⟩)) rfl (by kernel_rfl) (by kernel_rfl) (by kernel_rfl) (fun _ _ _ h => h) (Or.inl ⟨by rfl, ?_⟩) hH0 ?_
    · intro wv hSw
      try dsimp only at hSw
      go_simp
    change wpAnyH _ _ _ _ _ _ _ (Act.put _ (some 38) (.pointer (some ⟨w.heap.size + 1, 3, none⟩))) _
    simp only [Act.put, List.setIfInBounds_toArray, List.set_cons_zero, List.set_cons_succ]
    refine wpAnyH_take (i := 8) (oi := _) (v := .int .i64 ((i : Int) + 1)) rfl (by kernel_rfl) (by kernel_rfl) (by kernel_rfl) (fun _ _ _ h => h) (Or.inl ⟨by rfl, ?_⟩) hH0 ?_
    · intro wv hSw
      try dsimp only at hSw
      go_simp
    change wpAnyH _ _ _ _ _ _ _ (Act.put _ (some 39) (.int .i64 ((i : Int) + 1))) _
    simp only [Act.put, List.setIfInBounds_toArray, List.set_cons_zero, List.set_cons_succ]
    refine wpAnyH_take (i := 10) (oi := _) (v := .int .i64 (sd - 1 - ly)) rfl (by kernel_rfl) (by kernel_rfl) (by kernel_rfl) (fun _ _ _ h => h) (Or.inl ⟨by rfl, ?_⟩) hH0 ?_
    · intro wv hSw
      try dsimp only at hSw
      go_simp
    change wpAnyH _ _ _ _ _ _ _ (Act.put _ (some 41) (.int .i64 (sd - 1 - ly))) _
    simp only [Act.put, List.setIfInBounds_toArray, List.set_cons_zero, List.set_cons_succ]
    refine wpAnyH_ready (rs := [9]) (by kernel_rfl) (by simp) ?_
    refine AllReadyH.cons (o := _) rfl (fun K hK => ?_) AllReadyH.nil
    go_simp
    refine (HLx.out _ F0.out.2.2).mono ?_
    rintro e wp3 ⟨rfl, hb⟩
    have Fb := Lib.hid (show RB wp3 w.heap.size ⟨X, Y, W, H⟩ ∧ NB wp3 (w.heap.size + 1) ⟨0, d, f, (i : Int) + 1, (i : Int) + 1 + sx⟩ ∧ Below w.heap.size w wp3 from ⟨RB.below F0.out.1 hb (by omega), NB.below F0.out.2.1 hb (by omega), F0.out.2.2.trans (hb.mono (by omega))⟩)
    have kl := Nat.lt_of_lt_of_le kl hb.size
    clear hb
    refine hK.out _ _ (by exact ⟨(NB.cells (n := ⟨0, d, f, (i : Int) + 1, (i : Int) + 1 + sx⟩) Fb.out.2.1).2.1, (NB.cells (n := ⟨0, d, f, (i : Int) + 1, (i : Int) + 1 + sx⟩) Fb.out.2.1).2.2.1, (NB.cells (n := ⟨0, d, f, (i : Int) + 1, (i : Int) + 1 + sx⟩) Fb.out.2.1).2.2.2.1⟩) (fun hH1 => ?_)
    clear hK K
    try simp only [Act.put, List.setIfInBounds_toArray, List.set_cons_zero, List.set_cons_succ]
    refine wpAnyH_ready (rs := [11]) (by kernel_rfl) (by simp) ?_
    refine AllReadyH.cons (o := _) rfl (fun K hK => ?_) AllReadyH.nil
    go_simp
    refine (HHl.out _).mono ?_
    rintro e wp4 ⟨rfl, rfl⟩
    refine hK.out _ _ (by exact ⟨(NB.cells (n := ⟨0, d, f, (i : Int) + 1, (i : Int) + 1 + sx⟩) Fb.out.2.1).2.1, (NB.cells (n := ⟨0, d, f, (i : Int) + 1, (i : Int) + 1 + sx⟩) Fb.out.2.1).2.2.1, (NB.cells (n := ⟨0, d, f, (i : Int) + 1, (i : Int) + 1 + sx⟩) Fb.out.2.1).2.2.2.1⟩) (fun hH2 => ?_)
    clear hK K
    try simp only [Act.put, List.setIfInBounds_toArray, List.set_cons_zero, List.set_cons_succ]
    refine wpAnyH_ready (rs := [12]) (by kernel_rfl) (by simp) ?_
    refine AllReadyH.cons (o := _) rfl (fun K hK => ?_) AllReadyH.nil
    go_simp
    refine hK.out _ _ (by exact ⟨(NB.cells (n := ⟨0, d, f, (i : Int) + 1, (i : Int) + 1 + sx⟩) Fb.out.2.1).2.1, (NB.cells (n := ⟨0, d, f, (i : Int) + 1, (i : Int) + 1 + sx⟩) Fb.out.2.1).2.2.1, (NB.cells (n := ⟨0, d, f, (i : Int) + 1, (i : Int) + 1 + sx⟩) Fb.out.2.1).2.2.2.1⟩) (fun hH3 => ?_)
    clear hK K
    try simp only [Act.put, List.setIfInBounds_toArray, List.set_cons_zero, List.set_cons_succ]
    refine wpAnyH_ready (rs := [13]) (by kernel_rfl) (by simp) ?_
    refine AllReadyH.cons (o := _) rfl (fun K hK => ?_) AllReadyH.nil
    go_simp
    refine hK.out _ _ (by exact ⟨(NB.cells (n := ⟨0, d, f, (i : Int) + 1, (i : Int) + 1 + sx⟩) Fb.out.2.1).2.1, (NB.cells (n := ⟨0, d, f, (i : Int) + 1, (i : Int) + 1 + sx⟩) Fb.out.2.1).2.2.1, (NB.cells (n := ⟨0, d, f, (i : Int) + 1, (i : Int) + 1 + sx⟩) Fb.out.2.1).2.2.2.1⟩) (fun hH4 => ?_)
    clear hK K
    try simp only [Act.put, List.setIfInBounds_toArray, List.set_cons_zero, List.set_cons_succ]
    refine wpAnyH_ready (rs := [14]) (by kernel_rfl) (by simp) ?_
    refine AllReadyH.cons (o := _) rfl (fun K hK => ?_) AllReadyH.nil
    have hrow : Row wp3 g l := by
      obtain ⟨rest, h⟩ := HROW.out
      exact ⟨rest, h.below Fb.out.2.2 gl⟩
    have hcl : wp3.cell? ⟨g, i * 5 + 2, none⟩ = wp3.cell? ⟨g, i * 5 + 2, none⟩ := rfl
    obtain ⟨gn, hgn⟩ : ∃ n, l[i]? = some n := ⟨_, List.getElem?_eq_getElem (by omega)⟩
    obtain ⟨_, _, gc2, _, _, gfz⟩ := hrow.cell i gn hgn
    have G4 := Lib.hid (show RB (wp3.setCell ⟨g, i * 5 + 2, none⟩ (.int .i64 gg)) w.heap.size ⟨X, Y, W, H⟩ ∧ NB (wp3.setCell ⟨g, i * 5 + 2, none⟩ (.int .i64 gg)) (w.heap.size + 1) ⟨0, d, f, (i : Int) + 1, (i : Int) + 1 + sx⟩ ∧ Row (wp3.setCell ⟨g, i * 5 + 2, none⟩ (.int .i64 gg)) g l1 ∧ Chg g w (wp3.setCell ⟨g, i * 5 + 2, none⟩ (.int .i64 gg)) from ⟨Held.far Fb.out.1 (by omega) _, Held.far Fb.out.2.1 (by omega) _, HSet.out _ hrow, (Chg.of Fb.out.2.2 gl).set _ _⟩)
    clear hcl hgn
    go_simp
    refine hK.out _ _ (by exact ⟨(NB.cells (n := ⟨0, d, f, (i : Int) + 1, (i : Int) + 1 + sx⟩) G4.out.2.1).2.1, (NB.cells (n := ⟨0, d, f, (i : Int) + 1, (i : Int) + 1 + sx⟩) G4.out.2.1).2.2.1, (NB.cells (n := ⟨0, d, f, (i : Int) + 1, (i : Int) + 1 + sx⟩) G4.out.2.1).2.2.2.1⟩) (fun hH5 => ?_)
    clear hK K
    try simp only [Act.put, List.setIfInBounds_toArray, List.set_cons_zero, List.set_cons_succ]
    refine wpAnyH_done (by kernel_rfl) ?_ _
    clear hH0 hH1 hH2 hH3 hH4 hH5
    go_upto_region 5 with fail
    refine wp_world (fun wq => RB wq w.heap.size ⟨X, Y, W, H⟩ ∧ NB wq (w.heap.size + 1) ⟨0, d, f, (i : Int) + 1, (i : Int) + 1 + sx⟩ ∧ Row wq g l1 ∧ Chg g w wq) G4.out ?_
    clear G4
    rintro wq ⟨k0, k1, kr, kc⟩
    have kl : w.heap.size + 1 < wq.heap.size := Held.lt k1
    have kg := kr.lt
    have KR := Lib.hid (And.intro k0 (And.intro k1 (And.intro kr kc)))
    clear k0 k1 kr kc
    go_cut [8, 9, 10, 11] from 45 (fun s8 s9 s10 s11 wc => ∃ A B : Nat, s8 = .pointer (some ⟨A, 0, none⟩) ∧ s10 = .pointer (some ⟨B, 0, none⟩) ∧ wq.heap.size ≤ A ∧ wq.heap.size ≤ B ∧ RB wc A ra ∧ RB wc B rb ∧ Below wq.heap.size wq wc)
    case first =>
      have KRd := Lib.hid (show RB wq.drew w.heap.size ⟨X, Y, W, H⟩ ∧ NB wq.drew (w.heap.size + 1) ⟨0, d, f, (i : Int) + 1, (i : Int) + 1 + sx⟩ ∧ Row wq.drew g l1 from ⟨KR.out.1, KR.out.2.1, KR.out.2.2.1⟩)
      have KQ := Lib.hid ((Below.refl wq.heap.size wq).drew)
      refine wp_region_held_drew (S := fun wv => Below wq.heap.size wq.drew wv) (by kernel_rfl) (by exact Below.refl _ _) (fun hH0 => ?_)
      have kz : wq.heap.size ≤ wq.drew.heap.size ∧ wq.drew.heap.size ≤ wq.heap.size := ⟨Nat.le_refl _, Nat.le_refl _⟩
      generalize wq.drew = wy at *
      obtain ⟨r0, r1, r2, r3, rf⟩ := RB.cells (r := ⟨X, Y, W, H⟩) KRd.out.1
      obtain ⟨_, n1, _, _, _⟩ := NB.cells (n := ⟨0, d, f, (i : Int) + 1, (i : Int) + 1 + sx⟩) KRd.out.2.1
      obtain ⟨_, _, g2, _, _, _⟩ := KRd.out.2.2.cell i _ HN1.out
      dsimp only at r0 r1 r2 r3 n1 g2
      refine wpAnyH_take (i := 0) (oi := _) (v := .agg #[.int .i64 X, .int .i64 Y, .int .i64 W, .int .i64 H]) rfl (by kernel_rfl) (by kernel_rfl) (by kernel_rfl) (fun _ _ _ h => h) (Or.inl ⟨by rfl, ?_⟩) hH0 ?_
      · intro wv hSw
        replace hSw : Below wq.heap.size wy wv := hSw
        have z0 := (hSw.cell (p := ⟨w.heap.size, 0, none⟩) (by simp; omega)).trans r0
        have z1 := (hSw.cell (p := ⟨w.heap.size, 1, none⟩) (by simp; omega)).trans r1
        have z2 := (hSw.cell (p := ⟨w.heap.size, 2, none⟩) (by simp; omega)).trans r2
        have z3 := (hSw.cell (p := ⟨w.heap.size, 3, none⟩) (by simp; omega)).trans r3
        go_simp
      change wpAnyH _ _ _ _ _ _ _ (Act.put _ (some 46) (.agg #[.int .i64 X, .int .i64 Y, .int .i64 W, .int .i64 H])) _
      simp only [Act.put, List.setIfInBounds_toArray, List.set_cons_zero, List.set_cons_succ]
      refine wpAnyH_take (i := 1) (oi := _) (v := .pointer (some ⟨w.heap.size + 1, 1, none⟩)) rfl (by kernel_rfl) (by kernel_rfl) (by kernel_rfl) (fun _ _ _ h => h) (Or.inl ⟨by rfl, ?_⟩) hH0 ?_
      · intro wv hSw
        go_simp
      change wpAnyH _ _ _ _ _ _ _ (Act.put _ (some 47) (.pointer (some ⟨w.heap.size + 1, 1, none⟩))) _
      simp only [Act.put, List.setIfInBounds_toArray, List.set_cons_zero, List.set_cons_succ]
      refine wpAnyH_take (i := 2) (oi := _) (v := .int .i64 d) rfl (by kernel_rfl) (by kernel_rfl) (by kernel_rfl) (fun _ _ _ h => h) (Or.inl ⟨by rfl, ?_⟩) hH0 ?_
      · intro wv hSw
        replace hSw : Below wq.heap.size wy wv := hSw
        have z := (hSw.cell (p := ⟨w.heap.size + 1, 1, none⟩) (by simp; omega)).trans n1
        go_simp
      change wpAnyH _ _ _ _ _ _ _ (Act.put _ (some 48) (.int .i64 d)) _
      simp only [Act.put, List.setIfInBounds_toArray, List.set_cons_zero, List.set_cons_succ]
      refine wpAnyH_take (i := 3) (oi := _) (v := .slice (some ⟨g, 0, none⟩) l.length c) rfl (by kernel_rfl) (by kernel_rfl) (by kernel_rfl) (fun _ _ _ h => h) (Or.inl ⟨by rfl, ?_⟩) hH0 ?_
      · intro wv hSw
        go_simp
      change wpAnyH _ _ _ _ _ _ _ (Act.put _ (some 49) (.slice (some ⟨g, 0, none⟩) l.length c)) _
      simp only [Act.put, List.setIfInBounds_toArray, List.set_cons_zero, List.set_cons_succ]
      refine wpAnyH_take (i := 4) (oi := _) (v := .int .i64 (i : Int)) rfl (by kernel_rfl) (by kernel_rfl) (by kernel_rfl) (fun _ _ _ h => h) (Or.inl ⟨by rfl, ?_⟩) hH0 ?_
      · intro wv hSw
        go_simp
      change wpAnyH _ _ _ _ _ _ _ (Act.put _ (some 50) (.int .i64 (i : Int))) _
      simp only [Act.put, List.setIfInBounds_toArray, List.set_cons_zero, List.set_cons_succ]
      refine wpAnyH_take (i := 5) (oi := _) (v := .pointer (some ⟨g, i * 5, none⟩)) rfl (by kernel_rfl) (by kernel_rfl) (by kernel_rfl) (fun _ _ _ h => h) (Or.inl ⟨by rfl, ?_⟩) hH0 ?_
      · intro wv hSw
        go_simp
      change wpAnyH _ _ _ _ _ _ _ (Act.put _ (some 51) (.pointer (some ⟨g, i * 5, none⟩))) _
      simp only [Act.put, List.setIfInBounds_toArray, List.set_cons_zero, List.set_cons_succ]
      refine wpAnyH_take (i := 6) (oi := _) (v := .pointer (some ⟨g, i * 5 + 2, none⟩)) rfl (by kernel_rfl) (by kernel_rfl) (by kernel_rfl) (fun _ _ _ h => h) (Or.inl ⟨by rfl, ?_⟩) hH0 ?_
      · intro wv hSw
        go_simp
      change wpAnyH _ _ _ _ _ _ _ (Act.put _ (some 52) (.pointer (some ⟨g, i * 5 + 2, none⟩))) _
      simp only [Act.put, List.setIfInBounds_toArray, List.set_cons_zero, List.set_cons_succ]
      refine wpAnyH_take (i := 7) (oi := _) (v := .int .i64 gg) rfl (by kernel_rfl) (by kernel_rfl) (by kernel_rfl) (fun _ _ _ h => h) (Or.inl ⟨by rfl, ?_⟩) hH0 ?_
      · intro wv hSw
        replace hSw : Below wq.heap.size wy wv := hSw
        have z := (hSw.cell (p := ⟨g, i * 5 + 2, none⟩) (by simp; omega)).trans g2
        go_simp
      change wpAnyH _ _ _ _ _ _ _ (Act.put _ (some 53) (.int .i64 gg)) _
      simp only [Act.put, List.setIfInBounds_toArray, List.set_cons_zero, List.set_cons_succ]
      clear r0 r1 r2 r3 rf n1 g2 KRd
      have b0 : Below wq.heap.size wy wy := Below.refl _ _
      refine wpAnyH_ready (rs := [8, 14, 15, 16]) (by kernel_rfl) (by simp) ?_
      refine AllReadyH.cons (o := _) rfl (fun K hK => ?_) (AllReadyH.cons (o := _) rfl (fun K hK => ?_) (AllReadyH.cons (o := _) rfl (fun K hK => ?_) (AllReadyH.cons (o := _) rfl (fun K hK => ?_) AllReadyH.nil)))
      · go_simp
        refine (HC.out _).mono ?_
        rintro e u1 ⟨rfl, hb⟩
        have b1 := b0.trans (hb.mono (Nat.le_trans KQ.out.size b0.size))
        refine hK.out _ _ (by exact b1) (fun hT1 => ?_)
        clear hK K hb
        try simp only [Act.put, List.setIfInBounds_toArray, List.set_cons_zero, List.set_cons_succ]
        refine wpAnyH_take (i := 9) (oi := _) (v := .tuple #[.agg #[.int .i64 ra.X, .int .i64 ra.Y, .int .i64 ra.W, .int .i64 ra.H], .agg #[.int .i64 rm.X, .int .i64 rm.Y, .int .i64 rm.W, .int .i64 rm.H], .agg #[.int .i64 rb.X, .int .i64 rb.Y, .int .i64 rb.W, .int .i64 rb.H], .bool true]) rfl (by kernel_rfl) (by kernel_rfl) (by kernel_rfl) (fun _ _ _ h => h) (Or.inl ⟨by rfl, ?_⟩) hT1 ?_
        · intro wv hSw
          go_simp
        change wpAnyH _ _ _ _ _ _ _ (Act.put _ (some 45) (.tuple #[.agg #[.int .i64 ra.X, .int .i64 ra.Y, .int .i64 ra.W, .int .i64 ra.H], .agg #[.int .i64 rm.X, .int .i64 rm.Y, .int .i64 rm.W, .int .i64 rm.H], .agg #[.int .i64 rb.X, .int .i64 rb.Y, .int .i64 rb.W, .int .i64 rb.H], .bool true])) _
        simp only [Act.put, List.setIfInBounds_toArray, List.set_cons_zero, List.set_cons_succ]
        refine wpAnyH_take (i := 10) (oi := _) (v := .agg #[.int .i64 ra.X, .int .i64 ra.Y, .int .i64 ra.W, .int .i64 ra.H]) rfl (by kernel_rfl) (by kernel_rfl) (by kernel_rfl) (fun _ _ _ h => h) (Or.inl ⟨by rfl, ?_⟩) hT1 ?_
        · intro wv hSw
          go_simp
        change wpAnyH _ _ _ _ _ _ _ (Act.put _ (some 55) (.agg #[.int .i64 ra.X, .int .i64 ra.Y, .int .i64 ra.W, .int .i64 ra.H])) _
        simp only [Act.put, List.setIfInBounds_toArray, List.set_cons_zero, List.set_cons_succ]
        refine wpAnyH_take (i := 11) (oi := _) (v := .agg #[.int .i64 rm.X, .int .i64 rm.Y, .int .i64 rm.W, .int .i64 rm.H]) rfl (by kernel_rfl) (by kernel_rfl) (by kernel_rfl) (fun _ _ _ h => h) (Or.inl ⟨by rfl, ?_⟩) hT1 ?_
        · intro wv hSw
          go_simp
        change wpAnyH _ _ _ _ _ _ _ (Act.put _ (some 56) (.agg #[.int .i64 rm.X, .int .i64 rm.Y, .int .i64 rm.W, .int .i64 rm.H])) _
        simp only [Act.put, List.setIfInBounds_toArray, List.set_cons_zero, List.set_cons_succ]
        refine wpAnyH_take (i := 12) (oi := _) (v := .agg #[.int .i64 rb.X, .int .i64 rb.Y, .int .i64 rb.W, .int .i64 rb.H]) rfl (by kernel_rfl) (by kernel_rfl) (by kernel_rfl) (fun _ _ _ h => h) (Or.inl ⟨by rfl, ?_⟩) hT1 ?_
        · intro wv hSw
          go_simp
        change wpAnyH _ _ _ _ _ _ _ (Act.put _ (some 57) (.agg #[.int .i64 rb.X, .int .i64 rb.Y, .int .i64 rb.W, .int .i64 rb.H])) _
        simp only [Act.put, List.setIfInBounds_toArray, List.set_cons_zero, List.set_cons_succ]
        refine wpAnyH_take (i := 13) (oi := _) (v := .bool true) rfl (by kernel_rfl) (by kernel_rfl) (by kernel_rfl) (fun _ _ _ h => h) (Or.inl ⟨by rfl, ?_⟩) hT1 ?_
        · intro wv hSw
          go_simp
        change wpAnyH _ _ _ _ _ _ _ (Act.put _ (some 58) (.bool true)) _
        simp only [Act.put, List.setIfInBounds_toArray, List.set_cons_zero, List.set_cons_succ]
        refine wpAnyH_ready (rs := [14, 15, 16]) (by kernel_rfl) (by simp) ?_
        refine AllReadyH.cons (o := _) rfl (fun K hK => ?_) (AllReadyH.cons (o := _) rfl (fun K hK => ?_) (AllReadyH.cons (o := _) rfl (fun K hK => ?_) AllReadyH.nil))
        · go_simp
          have gz := below_new u1 (.cells #[.int .i64 0, .int .i64 0, .int .i64 0, .int .i64 0] 48)
          have b2 := b1.trans (gz.mono (Nat.le_trans KQ.out.size b1.size))
          have fA2 := RB.new u1 ⟨0, 0, 0, 0⟩
          have s2 := b1.size
          refine hK.out _ _ (by exact b2) (fun hT2 => ?_)
          clear hK K gz
          try simp only [Act.put, List.setIfInBounds_toArray, List.set_cons_zero, List.set_cons_succ]
          generalize (u1.alloc (.cells #[.int .i64 0, .int .i64 0, .int .i64 0, .int .i64 0] 48)) = u2 at *
          generalize u1.heap.size = gA2 at *
          refine wpAnyH_ready (rs := [15, 16]) (by kernel_rfl) (by simp) ?_
          refine AllReadyH.cons (o := _) rfl (fun K hK => ?_) (AllReadyH.cons (o := _) rfl (fun K hK => ?_) AllReadyH.nil)
          · go_simp
            have gz := below_new u2 (.cells #[.int .i64 0, .int .i64 0, .int .i64 0, .int .i64 0] 48)
            have b3 := b2.trans (gz.mono (Nat.le_trans KQ.out.size b2.size))
            have fA3 := RB.alloc fA2 (.cells #[.int .i64 0, .int .i64 0, .int .i64 0, .int .i64 0] 48)
            have oA3 := RB.lt fA2
            have fM3 := RB.new u2 ⟨0, 0, 0, 0⟩
            have s3 := b2.size
            refine hK.out _ _ (by exact b3) (fun hT3 => ?_)
            clear hK K gz
            try simp only [Act.put, List.setIfInBounds_toArray, List.set_cons_zero, List.set_cons_succ]
            generalize (u2.alloc (.cells #[.int .i64 0, .int .i64 0, .int .i64 0, .int .i64 0] 48)) = u3 at *
            generalize u2.heap.size = gM3 at *
            refine wpAnyH_ready (rs := [16]) (by kernel_rfl) (by simp) ?_
            refine AllReadyH.cons (o := _) rfl (fun K hK => ?_) AllReadyH.nil
            go_simp
            have gz := below_new u3 (.cells #[.int .i64 0, .int .i64 0, .int .i64 0, .int .i64 0] 48)
            have b4 := b3.trans (gz.mono (Nat.le_trans KQ.out.size b3.size))
            have fA4 := RB.alloc fA3 (.cells #[.int .i64 0, .int .i64 0, .int .i64 0, .int .i64 0] 48)
            have oA4 := RB.lt fA3
            have fM4 := RB.alloc fM3 (.cells #[.int .i64 0, .int .i64 0, .int .i64 0, .int .i64 0] 48)
            have oM4 := RB.lt fM3
            have fB4 := RB.new u3 ⟨0, 0, 0, 0⟩
            have s4 := b3.size
            refine hK.out _ _ (by exact b4) (fun hT4 => ?_)
            clear hK K gz
            try simp only [Act.put, List.setIfInBounds_toArray, List.set_cons_zero, List.set_cons_succ]
            generalize (u3.alloc (.cells #[.int .i64 0, .int .i64 0, .int .i64 0, .int .i64 0] 48)) = u4 at *
            generalize u3.heap.size = gB4 at *
            refine wpAnyH_ready (rs := [17]) (by kernel_rfl) (by simp) ?_
            refine AllReadyH.cons (o := _) rfl (fun K hK => ?_) AllReadyH.nil
            obtain ⟨z0, z1, z2, z3, zf⟩ := rb0 fA4
            have fM5 := rb_far fM4 (show gM3 ≠ gA2 by omega) ra
            have fB5 := rb_far fB4 (show gB4 ≠ gA2 by omega) ra
            have fA5 := rb_put fA4 ra
            have b5 := rb_bel b4 (show wq.heap.size ≤ gA2 by omega) ra
            go_simp
            refine hK.out _ _ (by exact b5) (fun hT5 => ?_)
            clear hK K z0 z1 z2 z3 zf
            try simp only [Act.put, List.setIfInBounds_toArray, List.set_cons_zero, List.set_cons_succ]
            generalize ((((u4.setCell ⟨gA2, 0, none⟩ (.int .i64 ra.X)).setCell ⟨gA2, 1, none⟩ (.int .i64 ra.Y)).setCell ⟨gA2, 2, none⟩ (.int .i64 ra.W)).setCell ⟨gA2, 3, none⟩ (.int .i64 ra.H)) = u5 at *
            refine wpAnyH_ready (rs := [18]) (by kernel_rfl) (by simp) ?_
            refine AllReadyH.cons (o := _) rfl (fun K hK => ?_) AllReadyH.nil
            obtain ⟨z0, z1, z2, z3, zf⟩ := rb0 fM5
            have fB6 := rb_far fB5 (show gB4 ≠ gM3 by omega) rm
            have fA6 := rb_far fA5 (show gA2 ≠ gM3 by omega) rm
            have b6 := rb_bel b5 (show wq.heap.size ≤ gM3 by omega) rm
            go_simp
            refine hK.out _ _ (by exact b6) (fun hT6 => ?_)
            clear hK K z0 z1 z2 z3 zf
            try simp only [Act.put, List.setIfInBounds_toArray, List.set_cons_zero, List.set_cons_succ]
            generalize ((((u5.setCell ⟨gM3, 0, none⟩ (.int .i64 rm.X)).setCell ⟨gM3, 1, none⟩ (.int .i64 rm.Y)).setCell ⟨gM3, 2, none⟩ (.int .i64 rm.W)).setCell ⟨gM3, 3, none⟩ (.int .i64 rm.H)) = u6 at *
            refine wpAnyH_ready (rs := [19]) (by kernel_rfl) (by simp) ?_
            refine AllReadyH.cons (o := _) rfl (fun K hK => ?_) AllReadyH.nil
            obtain ⟨z0, z1, z2, z3, zf⟩ := rb0 fB6
            have fA7 := rb_far fA6 (show gA2 ≠ gB4 by omega) rb
            have fB7 := rb_put fB6 rb
            have b7 := rb_bel b6 (show wq.heap.size ≤ gB4 by omega) rb
            go_simp
            refine hK.out _ _ (by exact b7) (fun hT7 => ?_)
            clear hK K z0 z1 z2 z3 zf
            try simp only [Act.put, List.setIfInBounds_toArray, List.set_cons_zero, List.set_cons_succ]
            refine wpAnyH_take (i := 20) (oi := _) (v := .bool true) rfl (by kernel_rfl) (by kernel_rfl) (by kernel_rfl) (fun _ _ _ h => h) (Or.inl ⟨by rfl, ?_⟩) hT7 ?_
            · intro wv hSw
              go_simp
            change wpAnyH _ _ _ _ _ _ _ (Act.put _ (some 11) (.bool true)) _
            simp only [Act.put, List.setIfInBounds_toArray, List.set_cons_zero, List.set_cons_succ]
            refine wpAnyH_done (by kernel_rfl) ?_ _
            go_wp2_with fail
            go_meet
            exact ⟨gA2, gB4, rfl, rfl, by omega, by omega, fA7, fB7, KQ.out.trans b7⟩
          go_simp
          have gz := below_new u2 (.cells #[.int .i64 0, .int .i64 0, .int .i64 0, .int .i64 0] 48)
          have b8 := b2.trans (gz.mono (Nat.le_trans KQ.out.size b2.size))
          have fA8 := RB.alloc fA2 (.cells #[.int .i64 0, .int .i64 0, .int .i64 0, .int .i64 0] 48)
          have oA8 := RB.lt fA2
          have fB8 := RB.new u2 ⟨0, 0, 0, 0⟩
          have s8 := b2.size
          refine hK.out _ _ (by exact b8) (fun hT8 => ?_)
          clear hK K gz
          try simp only [Act.put, List.setIfInBounds_toArray, List.set_cons_zero, List.set_cons_succ]
          generalize (u2.alloc (.cells #[.int .i64 0, .int .i64 0, .int .i64 0, .int .i64 0] 48)) = u8 at *
          generalize u2.heap.size = gB8 at *
          refine wpAnyH_ready (rs := [15]) (by kernel_rfl) (by simp) ?_
          refine AllReadyH.cons (o := _) rfl (fun K hK => ?_) AllReadyH.nil
          go_simp
          have gz := below_new u8 (.cells #[.int .i64 0, .int .i64 0, .int .i64 0, .int .i64 0] 48)
          have b9 := b8.trans (gz.mono (Nat.le_trans KQ.out.size b8.size))
          have fA9 := RB.alloc fA8 (.cells #[.int .i64 0, .int .i64 0, .int .i64 0, .int .i64 0] 48)
          have oA9 := RB.lt fA8
          have fB9 := RB.alloc fB8 (.cells #[.int .i64 0, .int .i64 0, .int .i64 0, .int .i64 0] 48)
          have oB9 := RB.lt fB8
          have fM9 := RB.new u8 ⟨0, 0, 0, 0⟩
          have s9 := b8.size
          refine hK.out _ _ (by exact b9) (fun hT9 => ?_)
          clear hK K gz
          try simp only [Act.put, List.setIfInBounds_toArray, List.set_cons_zero, List.set_cons_succ]
          generalize (u8.alloc (.cells #[.int .i64 0, .int .i64 0, .int .i64 0, .int .i64 0] 48)) = u9 at *
          generalize u8.heap.size = gM9 at *
          refine wpAnyH_ready (rs := [17]) (by kernel_rfl) (by simp) ?_
          refine AllReadyH.cons (o := _) rfl (fun K hK => ?_) AllReadyH.nil
          obtain ⟨z0, z1, z2, z3, zf⟩ := rb0 fA9
          have fB10 := rb_far fB9 (show gB8 ≠ gA2 by omega) ra
          have fM10 := rb_far fM9 (show gM9 ≠ gA2 by omega) ra
          have fA10 := rb_put fA9 ra
          have b10 := rb_bel b9 (show wq.heap.size ≤ gA2 by omega) ra
          go_simp
          refine hK.out _ _ (by exact b10) (fun hT10 => ?_)
          clear hK K z0 z1 z2 z3 zf
          try simp only [Act.put, List.setIfInBounds_toArray, List.set_cons_zero, List.set_cons_succ]
          generalize ((((u9.setCell ⟨gA2, 0, none⟩ (.int .i64 ra.X)).setCell ⟨gA2, 1, none⟩ (.int .i64 ra.Y)).setCell ⟨gA2, 2, none⟩ (.int .i64 ra.W)).setCell ⟨gA2, 3, none⟩ (.int .i64 ra.H)) = u10 at *
          refine wpAnyH_ready (rs := [18]) (by kernel_rfl) (by simp) ?_
          refine AllReadyH.cons (o := _) rfl (fun K hK => ?_) AllReadyH.nil
          obtain ⟨z0, z1, z2, z3, zf⟩ := rb0 fM10
          have fB11 := rb_far fB10 (show gB8 ≠ gM9 by omega) rm
          have fA11 := rb_far fA10 (show gA2 ≠ gM9 by omega) rm
          have b11 := rb_bel b10 (show wq.heap.size ≤ gM9 by omega) rm
          go_simp
          refine hK.out _ _ (by exact b11) (fun hT11 => ?_)
          clear hK K z0 z1 z2 z3 zf
          try simp only [Act.put, List.setIfInBounds_toArray, List.set_cons_zero, List.set_cons_succ]
          generalize ((((u10.setCell ⟨gM9, 0, none⟩ (.int .i64 rm.X)).setCell ⟨gM9, 1, none⟩ (.int .i64 rm.Y)).setCell ⟨gM9, 2, none⟩ (.int .i64 rm.W)).setCell ⟨gM9, 3, none⟩ (.int .i64 rm.H)) = u11 at *
          refine wpAnyH_ready (rs := [19]) (by kernel_rfl) (by simp) ?_
          refine AllReadyH.cons (o := _) rfl (fun K hK => ?_) AllReadyH.nil
          obtain ⟨z0, z1, z2, z3, zf⟩ := rb0 fB11
          have fA12 := rb_far fA11 (show gA2 ≠ gB8 by omega) rb
          have fB12 := rb_put fB11 rb
          have b12 := rb_bel b11 (show wq.heap.size ≤ gB8 by omega) rb
          go_simp
          refine hK.out _ _ (by exact b12) (fun hT12 => ?_)
          clear hK K z0 z1 z2 z3 zf
          try simp only [Act.put, List.setIfInBounds_toArray, List.set_cons_zero, List.set_cons_succ]
          refine wpAnyH_take (i := 20) (oi := _) (v := .bool true) rfl (by kernel_rfl) (by kernel_rfl) (by kernel_rfl) (fun _ _ _ h => h) (Or.inl ⟨by rfl, ?_⟩) hT12 ?_
          · intro wv hSw
            go_simp
          change wpAnyH _ _ _ _ _ _ _ (Act.put _ (some 11) (.bool true)) _
          simp only [Act.put, List.setIfInBounds_toArray, List.set_cons_zero, List.set_cons_succ]
          refine wpAnyH_done (by kernel_rfl) ?_ _
          go_wp2_with fail
          go_meet
          exact ⟨gA2, gB8, rfl, rfl, by omega, by omega, fA12, fB12, KQ.out.trans b12⟩
        · go_simp
          have gz := below_new u1 (.cells #[.int .i64 0, .int .i64 0, .int .i64 0, .int .i64 0] 48)
          have b13 := b1.trans (gz.mono (Nat.le_trans KQ.out.size b1.size))
          have fM13 := RB.new u1 ⟨0, 0, 0, 0⟩
          have s13 := b1.size
          refine hK.out _ _ (by exact b13) (fun hT13 => ?_)
          clear hK K gz
          try simp only [Act.put, List.setIfInBounds_toArray, List.set_cons_zero, List.set_cons_succ]
          generalize (u1.alloc (.cells #[.int .i64 0, .int .i64 0, .int .i64 0, .int .i64 0] 48)) = u13 at *
          generalize u1.heap.size = gM13 at *
          refine wpAnyH_ready (rs := [14, 16]) (by kernel_rfl) (by simp) ?_
          refine AllReadyH.cons (o := _) rfl (fun K hK => ?_) (AllReadyH.cons (o := _) rfl (fun K hK => ?_) AllReadyH.nil)
          · go_simp
            have gz := below_new u13 (.cells #[.int .i64 0, .int .i64 0, .int .i64 0, .int .i64 0] 48)
            have b14 := b13.trans (gz.mono (Nat.le_trans KQ.out.size b13.size))
            have fM14 := RB.alloc fM13 (.cells #[.int .i64 0, .int .i64 0, .int .i64 0, .int .i64 0] 48)
            have oM14 := RB.lt fM13
            have fA14 := RB.new u13 ⟨0, 0, 0, 0⟩
            have s14 := b13.size
            refine hK.out _ _ (by exact b14) (fun hT14 => ?_)
            clear hK K gz
            try simp only [Act.put, List.setIfInBounds_toArray, List.set_cons_zero, List.set_cons_succ]
            generalize (u13.alloc (.cells #[.int .i64 0, .int .i64 0, .int .i64 0, .int .i64 0] 48)) = u14 at *
            generalize u13.heap.size = gA14 at *
            refine wpAnyH_ready (rs := [16]) (by kernel_rfl) (by simp) ?_
            refine AllReadyH.cons (o := _) rfl (fun K hK => ?_) AllReadyH.nil
            go_simp
            have gz := below_new u14 (.cells #[.int .i64 0, .int .i64 0, .int .i64 0, .int .i64 0] 48)
            have b15 := b14.trans (gz.mono (Nat.le_trans KQ.out.size b14.size))
            have fM15 := RB.alloc fM14 (.cells #[.int .i64 0, .int .i64 0, .int .i64 0, .int .i64 0] 48)
            have oM15 := RB.lt fM14
            have fA15 := RB.alloc fA14 (.cells #[.int .i64 0, .int .i64 0, .int .i64 0, .int .i64 0] 48)
            have oA15 := RB.lt fA14
            have fB15 := RB.new u14 ⟨0, 0, 0, 0⟩
            have s15 := b14.size
            refine hK.out _ _ (by exact b15) (fun hT15 => ?_)
            clear hK K gz
            try simp only [Act.put, List.setIfInBounds_toArray, List.set_cons_zero, List.set_cons_succ]
            generalize (u14.alloc (.cells #[.int .i64 0, .int .i64 0, .int .i64 0, .int .i64 0] 48)) = u15 at *
            generalize u14.heap.size = gB15 at *
            refine wpAnyH_ready (rs := [17]) (by kernel_rfl) (by simp) ?_
            refine AllReadyH.cons (o := _) rfl (fun K hK => ?_) AllReadyH.nil
            obtain ⟨z0, z1, z2, z3, zf⟩ := rb0 fA15
            have fM16 := rb_far fM15 (show gM13 ≠ gA14 by omega) ra
            have fB16 := rb_far fB15 (show gB15 ≠ gA14 by omega) ra
            have fA16 := rb_put fA15 ra
            have b16 := rb_bel b15 (show wq.heap.size ≤ gA14 by omega) ra
            go_simp
            refine hK.out _ _ (by exact b16) (fun hT16 => ?_)
            clear hK K z0 z1 z2 z3 zf
            try simp only [Act.put, List.setIfInBounds_toArray, List.set_cons_zero, List.set_cons_succ]
            generalize ((((u15.setCell ⟨gA14, 0, none⟩ (.int .i64 ra.X)).setCell ⟨gA14, 1, none⟩ (.int .i64 ra.Y)).setCell ⟨gA14, 2, none⟩ (.int .i64 ra.W)).setCell ⟨gA14, 3, none⟩ (.int .i64 ra.H)) = u16 at *
            refine wpAnyH_ready (rs := [18]) (by kernel_rfl) (by simp) ?_
            refine AllReadyH.cons (o := _) rfl (fun K hK => ?_) AllReadyH.nil
            obtain ⟨z0, z1, z2, z3, zf⟩ := rb0 fM16
            have fB17 := rb_far fB16 (show gB15 ≠ gM13 by omega) rm
            have fA17 := rb_far fA16 (show gA14 ≠ gM13 by omega) rm
            have b17 := rb_bel b16 (show wq.heap.size ≤ gM13 by omega) rm
            go_simp
            refine hK.out _ _ (by exact b17) (fun hT17 => ?_)
            clear hK K z0 z1 z2 z3 zf
            try simp only [Act.put, List.setIfInBounds_toArray, List.set_cons_zero, List.set_cons_succ]
            generalize ((((u16.setCell ⟨gM13, 0, none⟩ (.int .i64 rm.X)).setCell ⟨gM13, 1, none⟩ (.int .i64 rm.Y)).setCell ⟨gM13, 2, none⟩ (.int .i64 rm.W)).setCell ⟨gM13, 3, none⟩ (.int .i64 rm.H)) = u17 at *
            refine wpAnyH_ready (rs := [19]) (by kernel_rfl) (by simp) ?_
            refine AllReadyH.cons (o := _) rfl (fun K hK => ?_) AllReadyH.nil
            obtain ⟨z0, z1, z2, z3, zf⟩ := rb0 fB17
            have fA18 := rb_far fA17 (show gA14 ≠ gB15 by omega) rb
            have fB18 := rb_put fB17 rb
            have b18 := rb_bel b17 (show wq.heap.size ≤ gB15 by omega) rb
            go_simp
            refine hK.out _ _ (by exact b18) (fun hT18 => ?_)
            clear hK K z0 z1 z2 z3 zf
            try simp only [Act.put, List.setIfInBounds_toArray, List.set_cons_zero, List.set_cons_succ]
            refine wpAnyH_take (i := 20) (oi := _) (v := .bool true) rfl (by kernel_rfl) (by kernel_rfl) (by kernel_rfl) (fun _ _ _ h => h) (Or.inl ⟨by rfl, ?_⟩) hT18 ?_
            · intro wv hSw
              go_simp
            change wpAnyH _ _ _ _ _ _ _ (Act.put _ (some 11) (.bool true)) _
            simp only [Act.put, List.setIfInBounds_toArray, List.set_cons_zero, List.set_cons_succ]
            refine wpAnyH_done (by kernel_rfl) ?_ _
            go_wp2_with fail
            go_meet
            exact ⟨gA14, gB15, rfl, rfl, by omega, by omega, fA18, fB18, KQ.out.trans b18⟩
          go_simp
          have gz := below_new u13 (.cells #[.int .i64 0, .int .i64 0, .int .i64 0, .int .i64 0] 48)
          have b19 := b13.trans (gz.mono (Nat.le_trans KQ.out.size b13.size))
          have fM19 := RB.alloc fM13 (.cells #[.int .i64 0, .int .i64 0, .int .i64 0, .int .i64 0] 48)
          have oM19 := RB.lt fM13
          have fB19 := RB.new u13 ⟨0, 0, 0, 0⟩
          have s19 := b13.size
          refine hK.out _ _ (by exact b19) (fun hT19 => ?_)
          clear hK K gz
          try simp only [Act.put, List.setIfInBounds_toArray, List.set_cons_zero, List.set_cons_succ]
          generalize (u13.alloc (.cells #[.int .i64 0, .int .i64 0, .int .i64 0, .int .i64 0] 48)) = u19 at *
          generalize u13.heap.size = gB19 at *
          refine wpAnyH_ready (rs := [14]) (by kernel_rfl) (by simp) ?_
          refine AllReadyH.cons (o := _) rfl (fun K hK => ?_) AllReadyH.nil
          go_simp
          have gz := below_new u19 (.cells #[.int .i64 0, .int .i64 0, .int .i64 0, .int .i64 0] 48)
          have b20 := b19.trans (gz.mono (Nat.le_trans KQ.out.size b19.size))
          have fM20 := RB.alloc fM19 (.cells #[.int .i64 0, .int .i64 0, .int .i64 0, .int .i64 0] 48)
          have oM20 := RB.lt fM19
          have fB20 := RB.alloc fB19 (.cells #[.int .i64 0, .int .i64 0, .int .i64 0, .int .i64 0] 48)
          have oB20 := RB.lt fB19
          have fA20 := RB.new u19 ⟨0, 0, 0, 0⟩
          have s20 := b19.size
          refine hK.out _ _ (by exact b20) (fun hT20 => ?_)
          clear hK K gz
          try simp only [Act.put, List.setIfInBounds_toArray, List.set_cons_zero, List.set_cons_succ]
          generalize (u19.alloc (.cells #[.int .i64 0, .int .i64 0, .int .i64 0, .int .i64 0] 48)) = u20 at *
          generalize u19.heap.size = gA20 at *
          refine wpAnyH_ready (rs := [17]) (by kernel_rfl) (by simp) ?_
          refine AllReadyH.cons (o := _) rfl (fun K hK => ?_) AllReadyH.nil
          obtain ⟨z0, z1, z2, z3, zf⟩ := rb0 fA20
          have fM21 := rb_far fM20 (show gM13 ≠ gA20 by omega) ra
          have fB21 := rb_far fB20 (show gB19 ≠ gA20 by omega) ra
          have fA21 := rb_put fA20 ra
          have b21 := rb_bel b20 (show wq.heap.size ≤ gA20 by omega) ra
          go_simp
          refine hK.out _ _ (by exact b21) (fun hT21 => ?_)
          clear hK K z0 z1 z2 z3 zf
          try simp only [Act.put, List.setIfInBounds_toArray, List.set_cons_zero, List.set_cons_succ]
          generalize ((((u20.setCell ⟨gA20, 0, none⟩ (.int .i64 ra.X)).setCell ⟨gA20, 1, none⟩ (.int .i64 ra.Y)).setCell ⟨gA20, 2, none⟩ (.int .i64 ra.W)).setCell ⟨gA20, 3, none⟩ (.int .i64 ra.H)) = u21 at *
          refine wpAnyH_ready (rs := [18]) (by kernel_rfl) (by simp) ?_
          refine AllReadyH.cons (o := _) rfl (fun K hK => ?_) AllReadyH.nil
          obtain ⟨z0, z1, z2, z3, zf⟩ := rb0 fM21
          have fB22 := rb_far fB21 (show gB19 ≠ gM13 by omega) rm
          have fA22 := rb_far fA21 (show gA20 ≠ gM13 by omega) rm
          have b22 := rb_bel b21 (show wq.heap.size ≤ gM13 by omega) rm
          go_simp
          refine hK.out _ _ (by exact b22) (fun hT22 => ?_)
          clear hK K z0 z1 z2 z3 zf
          try simp only [Act.put, List.setIfInBounds_toArray, List.set_cons_zero, List.set_cons_succ]
          generalize ((((u21.setCell ⟨gM13, 0, none⟩ (.int .i64 rm.X)).setCell ⟨gM13, 1, none⟩ (.int .i64 rm.Y)).setCell ⟨gM13, 2, none⟩ (.int .i64 rm.W)).setCell ⟨gM13, 3, none⟩ (.int .i64 rm.H)) = u22 at *
          refine wpAnyH_ready (rs := [19]) (by kernel_rfl) (by simp) ?_
          refine AllReadyH.cons (o := _) rfl (fun K hK => ?_) AllReadyH.nil
          obtain ⟨z0, z1, z2, z3, zf⟩ := rb0 fB22
          have fA23 := rb_far fA22 (show gA20 ≠ gB19 by omega) rb
          have fB23 := rb_put fB22 rb
          have b23 := rb_bel b22 (show wq.heap.size ≤ gB19 by omega) rb
          go_simp
          refine hK.out _ _ (by exact b23) (fun hT23 => ?_)
          clear hK K z0 z1 z2 z3 zf
          try simp only [Act.put, List.setIfInBounds_toArray, List.set_cons_zero, List.set_cons_succ]
          refine wpAnyH_take (i := 20) (oi := _) (v := .bool true) rfl (by kernel_rfl) (by kernel_rfl) (by kernel_rfl) (fun _ _ _ h => h) (Or.inl ⟨by rfl, ?_⟩) hT23 ?_
          · intro wv hSw
            go_simp
          change wpAnyH _ _ _ _ _ _ _ (Act.put _ (some 11) (.bool true)) _
          simp only [Act.put, List.setIfInBounds_toArray, List.set_cons_zero, List.set_cons_succ]
          refine wpAnyH_done (by kernel_rfl) ?_ _
          go_wp2_with fail
          go_meet
          exact ⟨gA20, gB19, rfl, rfl, by omega, by omega, fA23, fB23, KQ.out.trans b23⟩
        go_simp
        have gz := below_new u1 (.cells #[.int .i64 0, .int .i64 0, .int .i64 0, .int .i64 0] 48)
        have b24 := b1.trans (gz.mono (Nat.le_trans KQ.out.size b1.size))
        have fB24 := RB.new u1 ⟨0, 0, 0, 0⟩
        have s24 := b1.size
        refine hK.out _ _ (by exact b24) (fun hT24 => ?_)
        clear hK K gz
        try simp only [Act.put, List.setIfInBounds_toArray, List.set_cons_zero, List.set_cons_succ]
        generalize (u1.alloc (.cells #[.int .i64 0, .int .i64 0, .int .i64 0, .int .i64 0] 48)) = u24 at *
        generalize u1.heap.size = gB24 at *
        refine wpAnyH_ready (rs := [14, 15]) (by kernel_rfl) (by simp) ?_
        refine AllReadyH.cons (o := _) rfl (fun K hK => ?_) (AllReadyH.cons (o := _) rfl (fun K hK => ?_) AllReadyH.nil)
        · go_simp
          have gz := below_new u24 (.cells #[.int .i64 0, .int .i64 0, .int .i64 0, .int .i64 0] 48)
          have b25 := b24.trans (gz.mono (Nat.le_trans KQ.out.size b24.size))
          have fB25 := RB.alloc fB24 (.cells #[.int .i64 0, .int .i64 0, .int .i64 0, .int .i64 0] 48)
          have oB25 := RB.lt fB24
          have fA25 := RB.new u24 ⟨0, 0, 0, 0⟩
          have s25 := b24.size
          refine hK.out _ _ (by exact b25) (fun hT25 => ?_)
          clear hK K gz
          try simp only [Act.put, List.setIfInBounds_toArray, List.set_cons_zero, List.set_cons_succ]
          generalize (u24.alloc (.cells #[.int .i64 0, .int .i64 0, .int .i64 0, .int .i64 0] 48)) = u25 at *
          generalize u24.heap.size = gA25 at *
          refine wpAnyH_ready (rs := [15]) (by kernel_rfl) (by simp) ?_
          refine AllReadyH.cons (o := _) rfl (fun K hK => ?_) AllReadyH.nil
          go_simp
          have gz := below_new u25 (.cells #[.int .i64 0, .int .i64 0, .int .i64 0, .int .i64 0] 48)
          have b26 := b25.trans (gz.mono (Nat.le_trans KQ.out.size b25.size))
          have fB26 := RB.alloc fB25 (.cells #[.int .i64 0, .int .i64 0, .int .i64 0, .int .i64 0] 48)
          have oB26 := RB.lt fB25
          have fA26 := RB.alloc fA25 (.cells #[.int .i64 0, .int .i64 0, .int .i64 0, .int .i64 0] 48)
          have oA26 := RB.lt fA25
          have fM26 := RB.new u25 ⟨0, 0, 0, 0⟩
          have s26 := b25.size
          refine hK.out _ _ (by exact b26) (fun hT26 => ?_)
          clear hK K gz
          try simp only [Act.put, List.setIfInBounds_toArray, List.set_cons_zero, List.set_cons_succ]
          generalize (u25.alloc (.cells #[.int .i64 0, .int .i64 0, .int .i64 0, .int .i64 0] 48)) = u26 at *
          generalize u25.heap.size = gM26 at *
          refine wpAnyH_ready (rs := [17]) (by kernel_rfl) (by simp) ?_
          refine AllReadyH.cons (o := _) rfl (fun K hK => ?_) AllReadyH.nil
          obtain ⟨z0, z1, z2, z3, zf⟩ := rb0 fA26
          have fB27 := rb_far fB26 (show gB24 ≠ gA25 by omega) ra
          have fM27 := rb_far fM26 (show gM26 ≠ gA25 by omega) ra
          have fA27 := rb_put fA26 ra
          have b27 := rb_bel b26 (show wq.heap.size ≤ gA25 by omega) ra
          go_simp
          refine hK.out _ _ (by exact b27) (fun hT27 => ?_)
          clear hK K z0 z1 z2 z3 zf
          try simp only [Act.put, List.setIfInBounds_toArray, List.set_cons_zero, List.set_cons_succ]
          generalize ((((u26.setCell ⟨gA25, 0, none⟩ (.int .i64 ra.X)).setCell ⟨gA25, 1, none⟩ (.int .i64 ra.Y)).setCell ⟨gA25, 2, none⟩ (.int .i64 ra.W)).setCell ⟨gA25, 3, none⟩ (.int .i64 ra.H)) = u27 at *
          refine wpAnyH_ready (rs := [18]) (by kernel_rfl) (by simp) ?_
          refine AllReadyH.cons (o := _) rfl (fun K hK => ?_) AllReadyH.nil
          obtain ⟨z0, z1, z2, z3, zf⟩ := rb0 fM27
          have fB28 := rb_far fB27 (show gB24 ≠ gM26 by omega) rm
          have fA28 := rb_far fA27 (show gA25 ≠ gM26 by omega) rm
          have b28 := rb_bel b27 (show wq.heap.size ≤ gM26 by omega) rm
          go_simp
          refine hK.out _ _ (by exact b28) (fun hT28 => ?_)
          clear hK K z0 z1 z2 z3 zf
          try simp only [Act.put, List.setIfInBounds_toArray, List.set_cons_zero, List.set_cons_succ]
          generalize ((((u27.setCell ⟨gM26, 0, none⟩ (.int .i64 rm.X)).setCell ⟨gM26, 1, none⟩ (.int .i64 rm.Y)).setCell ⟨gM26, 2, none⟩ (.int .i64 rm.W)).setCell ⟨gM26, 3, none⟩ (.int .i64 rm.H)) = u28 at *
          refine wpAnyH_ready (rs := [19]) (by kernel_rfl) (by simp) ?_
          refine AllReadyH.cons (o := _) rfl (fun K hK => ?_) AllReadyH.nil
          obtain ⟨z0, z1, z2, z3, zf⟩ := rb0 fB28
          have fA29 := rb_far fA28 (show gA25 ≠ gB24 by omega) rb
          have fB29 := rb_put fB28 rb
          have b29 := rb_bel b28 (show wq.heap.size ≤ gB24 by omega) rb
          go_simp
          refine hK.out _ _ (by exact b29) (fun hT29 => ?_)
          clear hK K z0 z1 z2 z3 zf
          try simp only [Act.put, List.setIfInBounds_toArray, List.set_cons_zero, List.set_cons_succ]
          refine wpAnyH_take (i := 20) (oi := _) (v := .bool true) rfl (by kernel_rfl) (by kernel_rfl) (by kernel_rfl) (fun _ _ _ h => h) (Or.inl ⟨by rfl, ?_⟩) hT29 ?_
          · intro wv hSw
            go_simp
          change wpAnyH _ _ _ _ _ _ _ (Act.put _ (some 11) (.bool true)) _
          simp only [Act.put, List.setIfInBounds_toArray, List.set_cons_zero, List.set_cons_succ]
          refine wpAnyH_done (by kernel_rfl) ?_ _
          go_wp2_with fail
          go_meet
          exact ⟨gA25, gB24, rfl, rfl, by omega, by omega, fA29, fB29, KQ.out.trans b29⟩
        go_simp
        have gz := below_new u24 (.cells #[.int .i64 0, .int .i64 0, .int .i64 0, .int .i64 0] 48)
        have b30 := b24.trans (gz.mono (Nat.le_trans KQ.out.size b24.size))
        have fB30 := RB.alloc fB24 (.cells #[.int .i64 0, .int .i64 0, .int .i64 0, .int .i64 0] 48)
        have oB30 := RB.lt fB24
        have fM30 := RB.new u24 ⟨0, 0, 0, 0⟩
        have s30 := b24.size
        refine hK.out _ _ (by exact b30) (fun hT30 => ?_)
        clear hK K gz
        try simp only [Act.put, List.setIfInBounds_toArray, List.set_cons_zero, List.set_cons_succ]
        generalize (u24.alloc (.cells #[.int .i64 0, .int .i64 0, .int .i64 0, .int .i64 0] 48)) = u30 at *
        generalize u24.heap.size = gM30 at *
        refine wpAnyH_ready (rs := [14]) (by kernel_rfl) (by simp) ?_
        refine AllReadyH.cons (o := _) rfl (fun K hK => ?_) AllReadyH.nil
        go_simp
        have gz := below_new u30 (.cells #[.int .i64 0, .int .i64 0, .int .i64 0, .int .i64 0] 48)
        have b31 := b30.trans (gz.mono (Nat.le_trans KQ.out.size b30.size))
        have fB31 := RB.alloc fB30 (.cells #[.int .i64 0, .int .i64 0, .int .i64 0, .int .i64 0] 48)
        have oB31 := RB.lt fB30
        have fM31 := RB.alloc fM30 (.cells #[.int .i64 0, .int .i64 0, .int .i64 0, .int .i64 0] 48)
        have oM31 := RB.lt fM30
        have fA31 := RB.new u30 ⟨0, 0, 0, 0⟩
        have s31 := b30.size
        refine hK.out _ _ (by exact b31) (fun hT31 => ?_)
        clear hK K gz
        try simp only [Act.put, List.setIfInBounds_toArray, List.set_cons_zero, List.set_cons_succ]
        generalize (u30.alloc (.cells #[.int .i64 0, .int .i64 0, .int .i64 0, .int .i64 0] 48)) = u31 at *
        generalize u30.heap.size = gA31 at *
        refine wpAnyH_ready (rs := [17]) (by kernel_rfl) (by simp) ?_
        refine AllReadyH.cons (o := _) rfl (fun K hK => ?_) AllReadyH.nil
        obtain ⟨z0, z1, z2, z3, zf⟩ := rb0 fA31
        have fB32 := rb_far fB31 (show gB24 ≠ gA31 by omega) ra
        have fM32 := rb_far fM31 (show gM30 ≠ gA31 by omega) ra
        have fA32 := rb_put fA31 ra
        have b32 := rb_bel b31 (show wq.heap.size ≤ gA31 by omega) ra
        go_simp
        refine hK.out _ _ (by exact b32) (fun hT32 => ?_)
        clear hK K z0 z1 z2 z3 zf
        try simp only [Act.put, List.setIfInBounds_toArray, List.set_cons_zero, List.set_cons_succ]
        generalize ((((u31.setCell ⟨gA31, 0, none⟩ (.int .i64 ra.X)).setCell ⟨gA31, 1, none⟩ (.int .i64 ra.Y)).setCell ⟨gA31, 2, none⟩ (.int .i64 ra.W)).setCell ⟨gA31, 3, none⟩ (.int .i64 ra.H)) = u32 at *
        refine wpAnyH_ready (rs := [18]) (by kernel_rfl) (by simp) ?_
        refine AllReadyH.cons (o := _) rfl (fun K hK => ?_) AllReadyH.nil
        obtain ⟨z0, z1, z2, z3, zf⟩ := rb0 fM32
        have fB33 := rb_far fB32 (show gB24 ≠ gM30 by omega) rm
        have fA33 := rb_far fA32 (show gA31 ≠ gM30 by omega) rm
        have b33 := rb_bel b32 (show wq.heap.size ≤ gM30 by omega) rm
        go_simp
        refine hK.out _ _ (by exact b33) (fun hT33 => ?_)
        clear hK K z0 z1 z2 z3 zf
        try simp only [Act.put, List.setIfInBounds_toArray, List.set_cons_zero, List.set_cons_succ]
        generalize ((((u32.setCell ⟨gM30, 0, none⟩ (.int .i64 rm.X)).setCell ⟨gM30, 1, none⟩ (.int .i64 rm.Y)).setCell ⟨gM30, 2, none⟩ (.int .i64 rm.W)).setCell ⟨gM30, 3, none⟩ (.int .i64 rm.H)) = u33 at *
        refine wpAnyH_ready (rs := [19]) (by kernel_rfl) (by simp) ?_
        refine AllReadyH.cons (o := _) rfl (fun K hK => ?_) AllReadyH.nil
        obtain ⟨z0, z1, z2, z3, zf⟩ := rb0 fB33
        have fA34 := rb_far fA33 (show gA31 ≠ gB24 by omega) rb
        have fB34 := rb_put fB33 rb
        have b34 := rb_bel b33 (show wq.heap.size ≤ gB24 by omega) rb
        go_simp
        refine hK.out _ _ (by exact b34) (fun hT34 => ?_)
        clear hK K z0 z1 z2 z3 zf
        try simp only [Act.put, List.setIfInBounds_toArray, List.set_cons_zero, List.set_cons_succ]
        refine wpAnyH_take (i := 20) (oi := _) (v := .bool true) rfl (by kernel_rfl) (by kernel_rfl) (by kernel_rfl) (fun _ _ _ h => h) (Or.inl ⟨by rfl, ?_⟩) hT34 ?_
        · intro wv hSw
          go_simp
        change wpAnyH _ _ _ _ _ _ _ (Act.put _ (some 11) (.bool true)) _
        simp only [Act.put, List.setIfInBounds_toArray, List.set_cons_zero, List.set_cons_succ]
        refine wpAnyH_done (by kernel_rfl) ?_ _
        go_wp2_with fail
        go_meet
        exact ⟨gA31, gB24, rfl, rfl, by omega, by omega, fA34, fB34, KQ.out.trans b34⟩
      · go_simp
        have gz := below_new wy (.cells #[.int .i64 0, .int .i64 0, .int .i64 0, .int .i64 0] 48)
        have b35 := b0.trans (gz.mono (Nat.le_trans KQ.out.size b0.size))
        have fA35 := RB.new wy ⟨0, 0, 0, 0⟩
        have s35 := b0.size
        refine hK.out _ _ (by exact b35) (fun hT35 => ?_)
        clear hK K gz
        try simp only [Act.put, List.setIfInBounds_toArray, List.set_cons_zero, List.set_cons_succ]
        generalize (wy.alloc (.cells #[.int .i64 0, .int .i64 0, .int .i64 0, .int .i64 0] 48)) = u35 at *
        generalize wy.heap.size = gA35 at *
        refine wpAnyH_ready (rs := [8, 15, 16]) (by kernel_rfl) (by simp) ?_
        refine AllReadyH.cons (o := _) rfl (fun K hK => ?_) (AllReadyH.cons (o := _) rfl (fun K hK => ?_) (AllReadyH.cons (o := _) rfl (fun K hK => ?_) AllReadyH.nil))
        · go_simp
          refine (HC.out _).mono ?_
          rintro e u36 ⟨rfl, hb⟩
          have b36 := b35.trans (hb.mono (Nat.le_trans KQ.out.size b35.size))
          have fA36 := RB.below fA35 hb (RB.lt fA35)
          refine hK.out _ _ (by exact b36) (fun hT36 => ?_)
          clear hK K hb
          try simp only [Act.put, List.setIfInBounds_toArray, List.set_cons_zero, List.set_cons_succ]
          refine wpAnyH_take (i := 9) (oi := _) (v := .tuple #[.agg #[.int .i64 ra.X, .int .i64 ra.Y, .int .i64 ra.W, .int .i64 ra.H], .agg #[.int .i64 rm.X, .int .i64 rm.Y, .int .i64 rm.W, .int .i64 rm.H], .agg #[.int .i64 rb.X, .int .i64 rb.Y, .int .i64 rb.W, .int .i64 rb.H], .bool true]) rfl (by kernel_rfl) (by kernel_rfl) (by kernel_rfl) (fun _ _ _ h => h) (Or.inl ⟨by rfl, ?_⟩) hT36 ?_
          · intro wv hSw
            go_simp
          change wpAnyH _ _ _ _ _ _ _ (Act.put _ (some 45) (.tuple #[.agg #[.int .i64 ra.X, .int .i64 ra.Y, .int .i64 ra.W, .int .i64 ra.H], .agg #[.int .i64 rm.X, .int .i64 rm.Y, .int .i64 rm.W, .int .i64 rm.H], .agg #[.int .i64 rb.X, .int .i64 rb.Y, .int .i64 rb.W, .int .i64 rb.H], .bool true])) _
          simp only [Act.put, List.setIfInBounds_toArray, List.set_cons_zero, List.set_cons_succ]
          refine wpAnyH_take (i := 10) (oi := _) (v := .agg #[.int .i64 ra.X, .int .i64 ra.Y, .int .i64 ra.W, .int .i64 ra.H]) rfl (by kernel_rfl) (by kernel_rfl) (by kernel_rfl) (fun _ _ _ h => h) (Or.inl ⟨by rfl, ?_⟩) hT36 ?_
          · intro wv hSw
            go_simp
          change wpAnyH _ _ _ _ _ _ _ (Act.put _ (some 55) (.agg #[.int .i64 ra.X, .int .i64 ra.Y, .int .i64 ra.W, .int .i64 ra.H])) _
          simp only [Act.put, List.setIfInBounds_toArray, List.set_cons_zero, List.set_cons_succ]
          refine wpAnyH_take (i := 11) (oi := _) (v := .agg #[.int .i64 rm.X, .int .i64 rm.Y, .int .i64 rm.W, .int .i64 rm.H]) rfl (by kernel_rfl) (by kernel_rfl) (by kernel_rfl) (fun _ _ _ h => h) (Or.inl ⟨by rfl, ?_⟩) hT36 ?_
          · intro wv hSw
            go_simp
          change wpAnyH _ _ _ _ _ _ _ (Act.put _ (some 56) (.agg #[.int .i64 rm.X, .int .i64 rm.Y, .int .i64 rm.W, .int .i64 rm.H])) _
          simp only [Act.put, List.setIfInBounds_toArray, List.set_cons_zero, List.set_cons_succ]
          refine wpAnyH_take (i := 12) (oi := _) (v := .agg #[.int .i64 rb.X, .int .i64 rb.Y, .int .i64 rb.W, .int .i64 rb.H]) rfl (by kernel_rfl) (by kernel_rfl) (by kernel_rfl) (fun _ _ _ h => h) (Or.inl ⟨by rfl, ?_⟩) hT36 ?_
          · intro wv hSw
            go_simp
          change wpAnyH _ _ _ _ _ _ _ (Act.put _ (some 57) (.agg #[.int .i64 rb.X, .int .i64 rb.Y, .int .i64 rb.W, .int .i64 rb.H])) _
          simp only [Act.put, List.setIfInBounds_toArray, List.set_cons_zero, List.set_cons_succ]
          refine wpAnyH_take (i := 13) (oi := _) (v := .bool true) rfl (by kernel_rfl) (by kernel_rfl) (by kernel_rfl) (fun _ _ _ h => h) (Or.inl ⟨by rfl, ?_⟩) hT36 ?_
          · intro wv hSw
            go_simp
          change wpAnyH _ _ _ _ _ _ _ (Act.put _ (some 58) (.bool true)) _
          simp only [Act.put, List.setIfInBounds_toArray, List.set_cons_zero, List.set_cons_succ]
          refine wpAnyH_ready (rs := [15, 16]) (by kernel_rfl) (by simp) ?_
          refine AllReadyH.cons (o := _) rfl (fun K hK => ?_) (AllReadyH.cons (o := _) rfl (fun K hK => ?_) AllReadyH.nil)
          · go_simp
            have gz := below_new u36 (.cells #[.int .i64 0, .int .i64 0, .int .i64 0, .int .i64 0] 48)
            have b37 := b36.trans (gz.mono (Nat.le_trans KQ.out.size b36.size))
            have fA37 := RB.alloc fA36 (.cells #[.int .i64 0, .int .i64 0, .int .i64 0, .int .i64 0] 48)
            have oA37 := RB.lt fA36
            have fM37 := RB.new u36 ⟨0, 0, 0, 0⟩
            have s37 := b36.size
            refine hK.out _ _ (by exact b37) (fun hT37 => ?_)
            clear hK K gz
            try simp only [Act.put, List.setIfInBounds_toArray, List.set_cons_zero, List.set_cons_succ]
            generalize (u36.alloc (.cells #[.int .i64 0, .int .i64 0, .int .i64 0, .int .i64 0] 48)) = u37 at *
            generalize u36.heap.size = gM37 at *
            refine wpAnyH_ready (rs := [16]) (by kernel_rfl) (by simp) ?_
            refine AllReadyH.cons (o := _) rfl (fun K hK => ?_) AllReadyH.nil
            go_simp
            have gz := below_new u37 (.cells #[.int .i64 0, .int .i64 0, .int .i64 0, .int .i64 0] 48)
            have b38 := b37.trans (gz.mono (Nat.le_trans KQ.out.size b37.size))
            have fA38 := RB.alloc fA37 (.cells #[.int .i64 0, .int .i64 0, .int .i64 0, .int .i64 0] 48)
            have oA38 := RB.lt fA37
            have fM38 := RB.alloc fM37 (.cells #[.int .i64 0, .int .i64 0, .int .i64 0, .int .i64 0] 48)
            have oM38 := RB.lt fM37
            have fB38 := RB.new u37 ⟨0, 0, 0, 0⟩
            have s38 := b37.size
            refine hK.out _ _ (by exact b38) (fun hT38 => ?_)
            clear hK K gz
            try simp only [Act.put, List.setIfInBounds_toArray, List.set_cons_zero, List.set_cons_succ]
            generalize (u37.alloc (.cells #[.int .i64 0, .int .i64 0, .int .i64 0, .int .i64 0] 48)) = u38 at *
            generalize u37.heap.size = gB38 at *
            refine wpAnyH_ready (rs := [17]) (by kernel_rfl) (by simp) ?_
            refine AllReadyH.cons (o := _) rfl (fun K hK => ?_) AllReadyH.nil
            obtain ⟨z0, z1, z2, z3, zf⟩ := rb0 fA38
            have fM39 := rb_far fM38 (show gM37 ≠ gA35 by omega) ra
            have fB39 := rb_far fB38 (show gB38 ≠ gA35 by omega) ra
            have fA39 := rb_put fA38 ra
            have b39 := rb_bel b38 (show wq.heap.size ≤ gA35 by omega) ra
            go_simp
            refine hK.out _ _ (by exact b39) (fun hT39 => ?_)
            clear hK K z0 z1 z2 z3 zf
            try simp only [Act.put, List.setIfInBounds_toArray, List.set_cons_zero, List.set_cons_succ]
            generalize ((((u38.setCell ⟨gA35, 0, none⟩ (.int .i64 ra.X)).setCell ⟨gA35, 1, none⟩ (.int .i64 ra.Y)).setCell ⟨gA35, 2, none⟩ (.int .i64 ra.W)).setCell ⟨gA35, 3, none⟩ (.int .i64 ra.H)) = u39 at *
            refine wpAnyH_ready (rs := [18]) (by kernel_rfl) (by simp) ?_
            refine AllReadyH.cons (o := _) rfl (fun K hK => ?_) AllReadyH.nil
            obtain ⟨z0, z1, z2, z3, zf⟩ := rb0 fM39
            have fB40 := rb_far fB39 (show gB38 ≠ gM37 by omega) rm
            have fA40 := rb_far fA39 (show gA35 ≠ gM37 by omega) rm
            have b40 := rb_bel b39 (show wq.heap.size ≤ gM37 by omega) rm
            go_simp
            refine hK.out _ _ (by exact b40) (fun hT40 => ?_)
            clear hK K z0 z1 z2 z3 zf
            try simp only [Act.put, List.setIfInBounds_toArray, List.set_cons_zero, List.set_cons_succ]
            generalize ((((u39.setCell ⟨gM37, 0, none⟩ (.int .i64 rm.X)).setCell ⟨gM37, 1, none⟩ (.int .i64 rm.Y)).setCell ⟨gM37, 2, none⟩ (.int .i64 rm.W)).setCell ⟨gM37, 3, none⟩ (.int .i64 rm.H)) = u40 at *
            refine wpAnyH_ready (rs := [19]) (by kernel_rfl) (by simp) ?_
            refine AllReadyH.cons (o := _) rfl (fun K hK => ?_) AllReadyH.nil
            obtain ⟨z0, z1, z2, z3, zf⟩ := rb0 fB40
            have fA41 := rb_far fA40 (show gA35 ≠ gB38 by omega) rb
            have fB41 := rb_put fB40 rb
            have b41 := rb_bel b40 (show wq.heap.size ≤ gB38 by omega) rb
            go_simp
            refine hK.out _ _ (by exact b41) (fun hT41 => ?_)
            clear hK K z0 z1 z2 z3 zf
            try simp only [Act.put, List.setIfInBounds_toArray, List.set_cons_zero, List.set_cons_succ]
            refine wpAnyH_take (i := 20) (oi := _) (v := .bool true) rfl (by kernel_rfl) (by kernel_rfl) (by kernel_rfl) (fun _ _ _ h => h) (Or.inl ⟨by rfl, ?_⟩) hT41 ?_
            · intro wv hSw
              go_simp
            change wpAnyH _ _ _ _ _ _ _ (Act.put _ (some 11) (.bool true)) _
            simp only [Act.put, List.setIfInBounds_toArray, List.set_cons_zero, List.set_cons_succ]
            refine wpAnyH_done (by kernel_rfl) ?_ _
            go_wp2_with fail
            go_meet
            exact ⟨gA35, gB38, rfl, rfl, by omega, by omega, fA41, fB41, KQ.out.trans b41⟩
          go_simp
          have gz := below_new u36 (.cells #[.int .i64 0, .int .i64 0, .int .i64 0, .int .i64 0] 48)
          have b42 := b36.trans (gz.mono (Nat.le_trans KQ.out.size b36.size))
          have fA42 := RB.alloc fA36 (.cells #[.int .i64 0, .int .i64 0, .int .i64 0, .int .i64 0] 48)
          have oA42 := RB.lt fA36
          have fB42 := RB.new u36 ⟨0, 0, 0, 0⟩
          have s42 := b36.size
          refine hK.out _ _ (by exact b42) (fun hT42 => ?_)
          clear hK K gz
          try simp only [Act.put, List.setIfInBounds_toArray, List.set_cons_zero, List.set_cons_succ]
          generalize (u36.alloc (.cells #[.int .i64 0, .int .i64 0, .int .i64 0, .int .i64 0] 48)) = u42 at *
          generalize u36.heap.size = gB42 at *
          refine wpAnyH_ready (rs := [15]) (by kernel_rfl) (by simp) ?_
          refine AllReadyH.cons (o := _) rfl (fun K hK => ?_) AllReadyH.nil
          go_simp
          have gz := below_new u42 (.cells #[.int .i64 0, .int .i64 0, .int .i64 0, .int .i64 0] 48)
          have b43 := b42.trans (gz.mono (Nat.le_trans KQ.out.size b42.size))
          have fA43 := RB.alloc fA42 (.cells #[.int .i64 0, .int .i64 0, .int .i64 0, .int .i64 0] 48)
          have oA43 := RB.lt fA42
          have fB43 := RB.alloc fB42 (.cells #[.int .i64 0, .int .i64 0, .int .i64 0, .int .i64 0] 48)
          have oB43 := RB.lt fB42
          have fM43 := RB.new u42 ⟨0, 0, 0, 0⟩
          have s43 := b42.size
          refine hK.out _ _ (by exact b43) (fun hT43 => ?_)
          clear hK K gz
          try simp only [Act.put, List.setIfInBounds_toArray, List.set_cons_zero, List.set_cons_succ]
          generalize (u42.alloc (.cells #[.int .i64 0, .int .i64 0, .int .i64 0, .int .i64 0] 48)) = u43 at *
          generalize u42.heap.size = gM43 at *
          refine wpAnyH_ready (rs := [17]) (by kernel_rfl) (by simp) ?_
          refine AllReadyH.cons (o := _) rfl (fun K hK => ?_) AllReadyH.nil
          obtain ⟨z0, z1, z2, z3, zf⟩ := rb0 fA43
          have fB44 := rb_far fB43 (show gB42 ≠ gA35 by omega) ra
          have fM44 := rb_far fM43 (show gM43 ≠ gA35 by omega) ra
          have fA44 := rb_put fA43 ra
          have b44 := rb_bel b43 (show wq.heap.size ≤ gA35 by omega) ra
          go_simp
          refine hK.out _ _ (by exact b44) (fun hT44 => ?_)
          clear hK K z0 z1 z2 z3 zf
          try simp only [Act.put, List.setIfInBounds_toArray, List.set_cons_zero, List.set_cons_succ]
          generalize ((((u43.setCell ⟨gA35, 0, none⟩ (.int .i64 ra.X)).setCell ⟨gA35, 1, none⟩ (.int .i64 ra.Y)).setCell ⟨gA35, 2, none⟩ (.int .i64 ra.W)).setCell ⟨gA35, 3, none⟩ (.int .i64 ra.H)) = u44 at *
          refine wpAnyH_ready (rs := [18]) (by kernel_rfl) (by simp) ?_
          refine AllReadyH.cons (o := _) rfl (fun K hK => ?_) AllReadyH.nil
          obtain ⟨z0, z1, z2, z3, zf⟩ := rb0 fM44
          have fB45 := rb_far fB44 (show gB42 ≠ gM43 by omega) rm
          have fA45 := rb_far fA44 (show gA35 ≠ gM43 by omega) rm
          have b45 := rb_bel b44 (show wq.heap.size ≤ gM43 by omega) rm
          go_simp
          refine hK.out _ _ (by exact b45) (fun hT45 => ?_)
          clear hK K z0 z1 z2 z3 zf
          try simp only [Act.put, List.setIfInBounds_toArray, List.set_cons_zero, List.set_cons_succ]
          generalize ((((u44.setCell ⟨gM43, 0, none⟩ (.int .i64 rm.X)).setCell ⟨gM43, 1, none⟩ (.int .i64 rm.Y)).setCell ⟨gM43, 2, none⟩ (.int .i64 rm.W)).setCell ⟨gM43, 3, none⟩ (.int .i64 rm.H)) = u45 at *
          refine wpAnyH_ready (rs := [19]) (by kernel_rfl) (by simp) ?_
          refine AllReadyH.cons (o := _) rfl (fun K hK => ?_) AllReadyH.nil
          obtain ⟨z0, z1, z2, z3, zf⟩ := rb0 fB45
          have fA46 := rb_far fA45 (show gA35 ≠ gB42 by omega) rb
          have fB46 := rb_put fB45 rb
          have b46 := rb_bel b45 (show wq.heap.size ≤ gB42 by omega) rb
          go_simp
          refine hK.out _ _ (by exact b46) (fun hT46 => ?_)
          clear hK K z0 z1 z2 z3 zf
          try simp only [Act.put, List.setIfInBounds_toArray, List.set_cons_zero, List.set_cons_succ]
          refine wpAnyH_take (i := 20) (oi := _) (v := .bool true) rfl (by kernel_rfl) (by kernel_rfl) (by kernel_rfl) (fun _ _ _ h => h) (Or.inl ⟨by rfl, ?_⟩) hT46 ?_
          · intro wv hSw
            go_simp
          change wpAnyH _ _ _ _ _ _ _ (Act.put _ (some 11) (.bool true)) _
          simp only [Act.put, List.setIfInBounds_toArray, List.set_cons_zero, List.set_cons_succ]
          refine wpAnyH_done (by kernel_rfl) ?_ _
          go_wp2_with fail
          go_meet
          exact ⟨gA35, gB42, rfl, rfl, by omega, by omega, fA46, fB46, KQ.out.trans b46⟩
        · go_simp
          have gz := below_new u35 (.cells #[.int .i64 0, .int .i64 0, .int .i64 0, .int .i64 0] 48)
          have b47 := b35.trans (gz.mono (Nat.le_trans KQ.out.size b35.size))
          have fA47 := RB.alloc fA35 (.cells #[.int .i64 0, .int .i64 0, .int .i64 0, .int .i64 0] 48)
          have oA47 := RB.lt fA35
          have fM47 := RB.new u35 ⟨0, 0, 0, 0⟩
          have s47 := b35.size
          refine hK.out _ _ (by exact b47) (fun hT47 => ?_)
          clear hK K gz
          try simp only [Act.put, List.setIfInBounds_toArray, List.set_cons_zero, List.set_cons_succ]
          generalize (u35.alloc (.cells #[.int .i64 0, .int .i64 0, .int .i64 0, .int .i64 0] 48)) = u47 at *
          generalize u35.heap.size = gM47 at *
          refine wpAnyH_ready (rs := [8, 16]) (by kernel_rfl) (by simp) ?_
          refine AllReadyH.cons (o := _) rfl (fun K hK => ?_) (AllReadyH.cons (o := _) rfl (fun K hK => ?_) AllReadyH.nil)
          · go_simp
            refine (HC.out _).mono ?_
            rintro e u48 ⟨rfl, hb⟩
            have b48 := b47.trans (hb.mono (Nat.le_trans KQ.out.size b47.size))
            have fA48 := RB.below fA47 hb (RB.lt fA47)
            have fM48 := RB.below fM47 hb (RB.lt fM47)
            refine hK.out _ _ (by exact b48) (fun hT48 => ?_)
            clear hK K hb
            try simp only [Act.put, List.setIfInBounds_toArray, List.set_cons_zero, List.set_cons_succ]
            refine wpAnyH_take (i := 9) (oi := _) (v := .tuple #[.agg #[.int .i64 ra.X, .int .i64 ra.Y, .int .i64 ra.W, .int .i64 ra.H], .agg #[.int .i64 rm.X, .int .i64 rm.Y, .int .i64 rm.W, .int .i64 rm.H], .agg #[.int .i64 rb.X, .int .i64 rb.Y, .int .i64 rb.W, .int .i64 rb.H], .bool true]) rfl (by kernel_rfl) (by kernel_rfl) (by kernel_rfl) (fun _ _ _ h => h) (Or.inl ⟨by rfl, ?_⟩) hT48 ?_
            · intro wv hSw
              go_simp
            change wpAnyH _ _ _ _ _ _ _ (Act.put _ (some 45) (.tuple #[.agg #[.int .i64 ra.X, .int .i64 ra.Y, .int .i64 ra.W, .int .i64 ra.H], .agg #[.int .i64 rm.X, .int .i64 rm.Y, .int .i64 rm.W, .int .i64 rm.H], .agg #[.int .i64 rb.X, .int .i64 rb.Y, .int .i64 rb.W, .int .i64 rb.H], .bool true])) _
            simp only [Act.put, List.setIfInBounds_toArray, List.set_cons_zero, List.set_cons_succ]
            refine wpAnyH_take (i := 10) (oi := _) (v := .agg #[.int .i64 ra.X, .int .i64 ra.Y, .int .i64 ra.W, .int .i64 ra.H]) rfl (by kernel_rfl) (by kernel_rfl) (by kernel_rfl) (fun _ _ _ h => h) (Or.inl ⟨by rfl, ?_⟩) hT48 ?_
            · intro wv hSw
              go_simp
            change wpAnyH _ _ _ _ _ _ _ (Act.put _ (some 55) (.agg #[.int .i64 ra.X, .int .i64 ra.Y, .int .i64 ra.W, .int .i64 ra.H])) _
            simp only [Act.put, List.setIfInBounds_toArray, List.set_cons_zero, List.set_cons_succ]
            refine wpAnyH_take (i := 11) (oi := _) (v := .agg #[.int .i64 rm.X, .int .i64 rm.Y, .int .i64 rm.W, .int .i64 rm.H]) rfl (by kernel_rfl) (by kernel_rfl) (by kernel_rfl) (fun _ _ _ h => h) (Or.inl ⟨by rfl, ?_⟩) hT48 ?_
            · intro wv hSw
              go_simp
            change wpAnyH _ _ _ _ _ _ _ (Act.put _ (some 56) (.agg #[.int .i64 rm.X, .int .i64 rm.Y, .int .i64 rm.W, .int .i64 rm.H])) _
            simp only [Act.put, List.setIfInBounds_toArray, List.set_cons_zero, List.set_cons_succ]
            refine wpAnyH_take (i := 12) (oi := _) (v := .agg #[.int .i64 rb.X, .int .i64 rb.Y, .int .i64 rb.W, .int .i64 rb.H]) rfl (by kernel_rfl) (by kernel_rfl) (by kernel_rfl) (fun _ _ _ h => h) (Or.inl ⟨by rfl, ?_⟩) hT48 ?_
            · intro wv hSw
              go_simp
            change wpAnyH _ _ _ _ _ _ _ (Act.put _ (some 57) (.agg #[.int .i64 rb.X, .int .i64 rb.Y, .int .i64 rb.W, .int .i64 rb.H])) _
            simp only [Act.put, List.setIfInBounds_toArray, List.set_cons_zero, List.set_cons_succ]
            refine wpAnyH_take (i := 13) (oi := _) (v := .bool true) rfl (by kernel_rfl) (by kernel_rfl) (by kernel_rfl) (fun _ _ _ h => h) (Or.inl ⟨by rfl, ?_⟩) hT48 ?_
            · intro wv hSw
              go_simp
            change wpAnyH _ _ _ _ _ _ _ (Act.put _ (some 58) (.bool true)) _
            simp only [Act.put, List.setIfInBounds_toArray, List.set_cons_zero, List.set_cons_succ]
            refine wpAnyH_ready (rs := [16]) (by kernel_rfl) (by simp) ?_
            refine AllReadyH.cons (o := _) rfl (fun K hK => ?_) AllReadyH.nil
            go_simp
            have gz := below_new u48 (.cells #[.int .i64 0, .int .i64 0, .int .i64 0, .int .i64 0] 48)
            have b49 := b48.trans (gz.mono (Nat.le_trans KQ.out.size b48.size))
            have fA49 := RB.alloc fA48 (.cells #[.int .i64 0, .int .i64 0, .int .i64 0, .int .i64 0] 48)
            have oA49 := RB.lt fA48
            have fM49 := RB.alloc fM48 (.cells #[.int .i64 0, .int .i64 0, .int .i64 0, .int .i64 0] 48)
            have oM49 := RB.lt fM48
            have fB49 := RB.new u48 ⟨0, 0, 0, 0⟩
            have s49 := b48.size
            refine hK.out _ _ (by exact b49) (fun hT49 => ?_)
            clear hK K gz
            try simp only [Act.put, List.setIfInBounds_toArray, List.set_cons_zero, List.set_cons_succ]
            generalize (u48.alloc (.cells #[.int .i64 0, .int .i64 0, .int .i64 0, .int .i64 0] 48)) = u49 at *
            generalize u48.heap.size = gB49 at *
            refine wpAnyH_ready (rs := [17]) (by kernel_rfl) (by simp) ?_
            refine AllReadyH.cons (o := _) rfl (fun K hK => ?_) AllReadyH.nil
            obtain ⟨z0, z1, z2, z3, zf⟩ := rb0 fA49
            have fM50 := rb_far fM49 (show gM47 ≠ gA35 by omega) ra
            have fB50 := rb_far fB49 (show gB49 ≠ gA35 by omega) ra
            have fA50 := rb_put fA49 ra
            have b50 := rb_bel b49 (show wq.heap.size ≤ gA35 by omega) ra
            go_simp
            refine hK.out _ _ (by exact b50) (fun hT50 => ?_)
            clear hK K z0 z1 z2 z3 zf
            try simp only [Act.put, List.setIfInBounds_toArray, List.set_cons_zero, List.set_cons_succ]
            generalize ((((u49.setCell ⟨gA35, 0, none⟩ (.int .i64 ra.X)).setCell ⟨gA35, 1, none⟩ (.int .i64 ra.Y)).setCell ⟨gA35, 2, none⟩ (.int .i64 ra.W)).setCell ⟨gA35, 3, none⟩ (.int .i64 ra.H)) = u50 at *
            refine wpAnyH_ready (rs := [18]) (by kernel_rfl) (by simp) ?_
            refine AllReadyH.cons (o := _) rfl (fun K hK => ?_) AllReadyH.nil
            obtain ⟨z0, z1, z2, z3, zf⟩ := rb0 fM50
            have fB51 := rb_far fB50 (show gB49 ≠ gM47 by omega) rm
            have fA51 := rb_far fA50 (show gA35 ≠ gM47 by omega) rm
            have b51 := rb_bel b50 (show wq.heap.size ≤ gM47 by omega) rm
            go_simp
            refine hK.out _ _ (by exact b51) (fun hT51 => ?_)
            clear hK K z0 z1 z2 z3 zf
            try simp only [Act.put, List.setIfInBounds_toArray, List.set_cons_zero, List.set_cons_succ]
            generalize ((((u50.setCell ⟨gM47, 0, none⟩ (.int .i64 rm.X)).setCell ⟨gM47, 1, none⟩ (.int .i64 rm.Y)).setCell ⟨gM47, 2, none⟩ (.int .i64 rm.W)).setCell ⟨gM47, 3, none⟩ (.int .i64 rm.H)) = u51 at *
            refine wpAnyH_ready (rs := [19]) (by kernel_rfl) (by simp) ?_
            refine AllReadyH.cons (o := _) rfl (fun K hK => ?_) AllReadyH.nil
            obtain ⟨z0, z1, z2, z3, zf⟩ := rb0 fB51
            have fA52 := rb_far fA51 (show gA35 ≠ gB49 by omega) rb
            have fB52 := rb_put fB51 rb
            have b52 := rb_bel b51 (show wq.heap.size ≤ gB49 by omega) rb
            go_simp
            refine hK.out _ _ (by exact b52) (fun hT52 => ?_)
            clear hK K z0 z1 z2 z3 zf
            try simp only [Act.put, List.setIfInBounds_toArray, List.set_cons_zero, List.set_cons_succ]
            refine wpAnyH_take (i := 20) (oi := _) (v := .bool true) rfl (by kernel_rfl) (by kernel_rfl) (by kernel_rfl) (fun _ _ _ h => h) (Or.inl ⟨by rfl, ?_⟩) hT52 ?_
            · intro wv hSw
              go_simp
            change wpAnyH _ _ _ _ _ _ _ (Act.put _ (some 11) (.bool true)) _
            simp only [Act.put, List.setIfInBounds_toArray, List.set_cons_zero, List.set_cons_succ]
            refine wpAnyH_done (by kernel_rfl) ?_ _
            go_wp2_with fail
            go_meet
            exact ⟨gA35, gB49, rfl, rfl, by omega, by omega, fA52, fB52, KQ.out.trans b52⟩
          go_simp
          have gz := below_new u47 (.cells #[.int .i64 0, .int .i64 0, .int .i64 0, .int .i64 0] 48)
          have b53 := b47.trans (gz.mono (Nat.le_trans KQ.out.size b47.size))
          have fA53 := RB.alloc fA47 (.cells #[.int .i64 0, .int .i64 0, .int .i64 0, .int .i64 0] 48)
          have oA53 := RB.lt fA47
          have fM53 := RB.alloc fM47 (.cells #[.int .i64 0, .int .i64 0, .int .i64 0, .int .i64 0] 48)
          have oM53 := RB.lt fM47
          have fB53 := RB.new u47 ⟨0, 0, 0, 0⟩
          have s53 := b47.size
          refine hK.out _ _ (by exact b53) (fun hT53 => ?_)
          clear hK K gz
          try simp only [Act.put, List.setIfInBounds_toArray, List.set_cons_zero, List.set_cons_succ]
          generalize (u47.alloc (.cells #[.int .i64 0, .int .i64 0, .int .i64 0, .int .i64 0] 48)) = u53 at *
          generalize u47.heap.size = gB53 at *
          refine wpAnyH_ready (rs := [8]) (by kernel_rfl) (by simp) ?_
          refine AllReadyH.cons (o := _) rfl (fun K hK => ?_) AllReadyH.nil
          go_simp
          refine (HC.out _).mono ?_
          rintro e u54 ⟨rfl, hb⟩
          have b54 := b53.trans (hb.mono (Nat.le_trans KQ.out.size b53.size))
          have fA54 := RB.below fA53 hb (RB.lt fA53)
          have fM54 := RB.below fM53 hb (RB.lt fM53)
          have fB54 := RB.below fB53 hb (RB.lt fB53)
          refine hK.out _ _ (by exact b54) (fun hT54 => ?_)
          clear hK K hb
          try simp only [Act.put, List.setIfInBounds_toArray, List.set_cons_zero, List.set_cons_succ]
          refine wpAnyH_take (i := 9) (oi := _) (v := .tuple #[.agg #[.int .i64 ra.X, .int .i64 ra.Y, .int .i64 ra.W, .int .i64 ra.H], .agg #[.int .i64 rm.X, .int .i64 rm.Y, .int .i64 rm.W, .int .i64 rm.H], .agg #[.int .i64 rb.X, .int .i64 rb.Y, .int .i64 rb.W, .int .i64 rb.H], .bool true]) rfl (by kernel_rfl) (by kernel_rfl) (by kernel_rfl) (fun _ _ _ h => h) (Or.inl ⟨by rfl, ?_⟩) hT54 ?_
          · intro wv hSw
            go_simp
          change wpAnyH _ _ _ _ _ _ _ (Act.put _ (some 45) (.tuple #[.agg #[.int .i64 ra.X, .int .i64 ra.Y, .int .i64 ra.W, .int .i64 ra.H], .agg #[.int .i64 rm.X, .int .i64 rm.Y, .int .i64 rm.W, .int .i64 rm.H], .agg #[.int .i64 rb.X, .int .i64 rb.Y, .int .i64 rb.W, .int .i64 rb.H], .bool true])) _
          simp only [Act.put, List.setIfInBounds_toArray, List.set_cons_zero, List.set_cons_succ]
          refine wpAnyH_take (i := 10) (oi := _) (v := .agg #[.int .i64 ra.X, .int .i64 ra.Y, .int .i64 ra.W, .int .i64 ra.H]) rfl (by kernel_rfl) (by kernel_rfl) (by kernel_rfl) (fun _ _ _ h => h) (Or.inl ⟨by rfl, ?_⟩) hT54 ?_
          · intro wv hSw
            go_simp
          change wpAnyH _ _ _ _ _ _ _ (Act.put _ (some 55) (.agg #[.int .i64 ra.X, .int .i64 ra.Y, .int .i64 ra.W, .int .i64 ra.H])) _
          simp only [Act.put, List.setIfInBounds_toArray, List.set_cons_zero, List.set_cons_succ]
          refine wpAnyH_take (i := 11) (oi := _) (v := .agg #[.int .i64 rm.X, .int .i64 rm.Y, .int .i64 rm.W, .int .i64 rm.H]) rfl (by kernel_rfl) (by kernel_rfl) (by kernel_rfl) (fun _ _ _ h => h) (Or.inl ⟨by rfl, ?_⟩) hT54 ?_
          · intro wv hSw
            go_simp
          change wpAnyH _ _ _ _ _ _ _ (Act.put _ (some 56) (.agg #[.int .i64 rm.X, .int .i64 rm.Y, .int .i64 rm.W, .int .i64 rm.H])) _
          simp only [Act.put, List.setIfInBounds_toArray, List.set_cons_zero, List.set_cons_succ]
          refine wpAnyH_take (i := 12) (oi := _) (v := .agg #[.int .i64 rb.X, .int .i64 rb.Y, .int .i64 rb.W, .int .i64 rb.H]) rfl (by kernel_rfl) (by kernel_rfl) (by kernel_rfl) (fun _ _ _ h => h) (Or.inl ⟨by rfl, ?_⟩) hT54 ?_
          · intro wv hSw
            go_simp
          change wpAnyH _ _ _ _ _ _ _ (Act.put _ (some 57) (.agg #[.int .i64 rb.X, .int .i64 rb.Y, .int .i64 rb.W, .int .i64 rb.H])) _
          simp only [Act.put, List.setIfInBounds_toArray, List.set_cons_zero, List.set_cons_succ]
          refine wpAnyH_take (i := 13) (oi := _) (v := .bool true) rfl (by kernel_rfl) (by kernel_rfl) (by kernel_rfl) (fun _ _ _ h => h) (Or.inl ⟨by rfl, ?_⟩) hT54 ?_
          · intro wv hSw
            go_simp
          change wpAnyH _ _ _ _ _ _ _ (Act.put _ (some 58) (.bool true)) _
          simp only [Act.put, List.setIfInBounds_toArray, List.set_cons_zero, List.set_cons_succ]
          refine wpAnyH_ready (rs := [17]) (by kernel_rfl) (by simp) ?_
          refine AllReadyH.cons (o := _) rfl (fun K hK => ?_) AllReadyH.nil
          obtain ⟨z0, z1, z2, z3, zf⟩ := rb0 fA54
          have fM55 := rb_far fM54 (show gM47 ≠ gA35 by omega) ra
          have fB55 := rb_far fB54 (show gB53 ≠ gA35 by omega) ra
          have fA55 := rb_put fA54 ra
          have b55 := rb_bel b54 (show wq.heap.size ≤ gA35 by omega) ra
          go_simp
          refine hK.out _ _ (by exact b55) (fun hT55 => ?_)
          clear hK K z0 z1 z2 z3 zf
          try simp only [Act.put, List.setIfInBounds_toArray, List.set_cons_zero, List.set_cons_succ]
          generalize ((((u54.setCell ⟨gA35, 0, none⟩ (.int .i64 ra.X)).setCell ⟨gA35, 1, none⟩ (.int .i64 ra.Y)).setCell ⟨gA35, 2, none⟩ (.int .i64 ra.W)).setCell ⟨gA35, 3, none⟩ (.int .i64 ra.H)) = u55 at *
          refine wpAnyH_ready (rs := [18]) (by kernel_rfl) (by simp) ?_
          refine AllReadyH.cons (o := _) rfl (fun K hK => ?_) AllReadyH.nil
          obtain ⟨z0, z1, z2, z3, zf⟩ := rb0 fM55
          have fB56 := rb_far fB55 (show gB53 ≠ gM47 by omega) rm
          have fA56 := rb_far fA55 (show gA35 ≠ gM47 by omega) rm
          have b56 := rb_bel b55 (show wq.heap.size ≤ gM47 by omega) rm
          go_simp
          refine hK.out _ _ (by exact b56) (fun hT56 => ?_)
          clear hK K z0 z1 z2 z3 zf
          try simp only [Act.put, List.setIfInBounds_toArray, List.set_cons_zero, List.set_cons_succ]
          generalize ((((u55.setCell ⟨gM47, 0, none⟩ (.int .i64 rm.X)).setCell ⟨gM47, 1, none⟩ (.int .i64 rm.Y)).setCell ⟨gM47, 2, none⟩ (.int .i64 rm.W)).setCell ⟨gM47, 3, none⟩ (.int .i64 rm.H)) = u56 at *
          refine wpAnyH_ready (rs := [19]) (by kernel_rfl) (by simp) ?_
          refine AllReadyH.cons (o := _) rfl (fun K hK => ?_) AllReadyH.nil
          obtain ⟨z0, z1, z2, z3, zf⟩ := rb0 fB56
          have fA57 := rb_far fA56 (show gA35 ≠ gB53 by omega) rb
          have fB57 := rb_put fB56 rb
          have b57 := rb_bel b56 (show wq.heap.size ≤ gB53 by omega) rb
          go_simp
          refine hK.out _ _ (by exact b57) (fun hT57 => ?_)
          clear hK K z0 z1 z2 z3 zf
          try simp only [Act.put, List.setIfInBounds_toArray, List.set_cons_zero, List.set_cons_succ]
          refine wpAnyH_take (i := 20) (oi := _) (v := .bool true) rfl (by kernel_rfl) (by kernel_rfl) (by kernel_rfl) (fun _ _ _ h => h) (Or.inl ⟨by rfl, ?_⟩) hT57 ?_
          · intro wv hSw
            go_simp
          change wpAnyH _ _ _ _ _ _ _ (Act.put _ (some 11) (.bool true)) _
          simp only [Act.put, List.setIfInBounds_toArray, List.set_cons_zero, List.set_cons_succ]
          refine wpAnyH_done (by kernel_rfl) ?_ _
          go_wp2_with fail
          go_meet
          exact ⟨gA35, gB53, rfl, rfl, by omega, by omega, fA57, fB57, KQ.out.trans b57⟩
        go_simp
        have gz := below_new u35 (.cells #[.int .i64 0, .int .i64 0, .int .i64 0, .int .i64 0] 48)
        have b58 := b35.trans (gz.mono (Nat.le_trans KQ.out.size b35.size))
        have fA58 := RB.alloc fA35 (.cells #[.int .i64 0, .int .i64 0, .int .i64 0, .int .i64 0] 48)
        have oA58 := RB.lt fA35
        have fB58 := RB.new u35 ⟨0, 0, 0, 0⟩
        have s58 := b35.size
        refine hK.out _ _ (by exact b58) (fun hT58 => ?_)
        clear hK K gz
        try simp only [Act.put, List.setIfInBounds_toArray, List.set_cons_zero, List.set_cons_succ]
        generalize (u35.alloc (.cells #[.int .i64 0, .int .i64 0, .int .i64 0, .int .i64 0] 48)) = u58 at *
        generalize u35.heap.size = gB58 at *
        refine wpAnyH_ready (rs := [8, 15]) (by kernel_rfl) (by simp) ?_
        refine AllReadyH.cons (o := _) rfl (fun K hK => ?_) (AllReadyH.cons (o := _) rfl (fun K hK => ?_) AllReadyH.nil)
        · go_simp
          refine (HC.out _).mono ?_
          rintro e u59 ⟨rfl, hb⟩
          have b59 := b58.trans (hb.mono (Nat.le_trans KQ.out.size b58.size))
          have fA59 := RB.below fA58 hb (RB.lt fA58)
          have fB59 := RB.below fB58 hb (RB.lt fB58)
          refine hK.out _ _ (by exact b59) (fun hT59 => ?_)
          clear hK K hb
          try simp only [Act.put, List.setIfInBounds_toArray, List.set_cons_zero, List.set_cons_succ]
          refine wpAnyH_take (i := 9) (oi := _) (v := .tuple #[.agg #[.int .i64 ra.X, .int .i64 ra.Y, .int .i64 ra.W, .int .i64 ra.H], .agg #[.int .i64 rm.X, .int .i64 rm.Y, .int .i64 rm.W, .int .i64 rm.H], .agg #[.int .i64 rb.X, .int .i64 rb.Y, .int .i64 rb.W, .int .i64 rb.H], .bool true]) rfl (by kernel_rfl) (by kernel_rfl) (by kernel_rfl) (fun _ _ _ h => h) (Or.inl ⟨by rfl, ?_⟩) hT59 ?_
          · intro wv hSw
            go_simp
          change wpAnyH _ _ _ _ _ _ _ (Act.put _ (some 45) (.tuple #[.agg #[.int .i64 ra.X, .int .i64 ra.Y, .int .i64 ra.W, .int .i64 ra.H], .agg #[.int .i64 rm.X, .int .i64 rm.Y, .int .i64 rm.W, .int .i64 rm.H], .agg #[.int .i64 rb.X, .int .i64 rb.Y, .int .i64 rb.W, .int .i64 rb.H], .bool true])) _
          simp only [Act.put, List.setIfInBounds_toArray, List.set_cons_zero, List.set_cons_succ]
          refine wpAnyH_take (i := 10) (oi := _) (v := .agg #[.int .i64 ra.X, .int .i64 ra.Y, .int .i64 ra.W, .int .i64 ra.H]) rfl (by kernel_rfl) (by kernel_rfl) (by kernel_rfl) (fun _ _ _ h => h) (Or.inl ⟨by rfl, ?_⟩) hT59 ?_
          · intro wv hSw
            go_simp
          change wpAnyH _ _ _ _ _ _ _ (Act.put _ (some 55) (.agg #[.int .i64 ra.X, .int .i64 ra.Y, .int .i64 ra.W, .int .i64 ra.H])) _
          simp only [Act.put, List.setIfInBounds_toArray, List.set_cons_zero, List.set_cons_succ]
          refine wpAnyH_take (i := 11) (oi := _) (v := .agg #[.int .i64 rm.X, .int .i64 rm.Y, .int .i64 rm.W, .int .i64 rm.H]) rfl (by kernel_rfl) (by kernel_rfl) (by kernel_rfl) (fun _ _ _ h => h) (Or.inl ⟨by rfl, ?_⟩) hT59 ?_
          · intro wv hSw
            go_simp
          change wpAnyH _ _ _ _ _ _ _ (Act.put _ (some 56) (.agg #[.int .i64 rm.X, .int .i64 rm.Y, .int .i64 rm.W, .int .i64 rm.H])) _
          simp only [Act.put, List.setIfInBounds_toArray, List.set_cons_zero, List.set_cons_succ]
          refine wpAnyH_take (i := 12) (oi := _) (v := .agg #[.int .i64 rb.X, .int .i64 rb.Y, .int .i64 rb.W, .int .i64 rb.H]) rfl (by kernel_rfl) (by kernel_rfl) (by kernel_rfl) (fun _ _ _ h => h) (Or.inl ⟨by rfl, ?_⟩) hT59 ?_
          · intro wv hSw
            go_simp
          change wpAnyH _ _ _ _ _ _ _ (Act.put _ (some 57) (.agg #[.int .i64 rb.X, .int .i64 rb.Y, .int .i64 rb.W, .int .i64 rb.H])) _
          simp only [Act.put, List.setIfInBounds_toArray, List.set_cons_zero, List.set_cons_succ]
          refine wpAnyH_take (i := 13) (oi := _) (v := .bool true) rfl (by kernel_rfl) (by kernel_rfl) (by kernel_rfl) (fun _ _ _ h => h) (Or.inl ⟨by rfl, ?_⟩) hT59 ?_
          · intro wv hSw
            go_simp
          change wpAnyH _ _ _ _ _ _ _ (Act.put _ (some 58) (.bool true)) _
          simp only [Act.put, List.setIfInBounds_toArray, List.set_cons_zero, List.set_cons_succ]
          refine wpAnyH_ready (rs := [15]) (by kernel_rfl) (by simp) ?_
          refine AllReadyH.cons (o := _) rfl (fun K hK => ?_) AllReadyH.nil
          go_simp
          have gz := below_new u59 (.cells #[.int .i64 0, .int .i64 0, .int .i64 0, .int .i64 0] 48)
          have b60 := b59.trans (gz.mono (Nat.le_trans KQ.out.size b59.size))
          have fA60 := RB.alloc fA59 (.cells #[.int .i64 0, .int .i64 0, .int .i64 0, .int .i64 0] 48)
          have oA60 := RB.lt fA59
          have fB60 := RB.alloc fB59 (.cells #[.int .i64 0, .int .i64 0, .int .i64 0, .int .i64 0] 48)
          have oB60 := RB.lt fB59
          have fM60 := RB.new u59 ⟨0, 0, 0, 0⟩
          have s60 := b59.size
          refine hK.out _ _ (by exact b60) (fun hT60 => ?_)
          clear hK K gz
          try simp only [Act.put, List.setIfInBounds_toArray, List.set_cons_zero, List.set_cons_succ]
          generalize (u59.alloc (.cells #[.int .i64 0, .int .i64 0, .int .i64 0, .int .i64 0] 48)) = u60 at *
          generalize u59.heap.size = gM60 at *
          refine wpAnyH_ready (rs := [17]) (by kernel_rfl) (by simp) ?_
          refine AllReadyH.cons (o := _) rfl (fun K hK => ?_) AllReadyH.nil
          obtain ⟨z0, z1, z2, z3, zf⟩ := rb0 fA60
          have fB61 := rb_far fB60 (show gB58 ≠ gA35 by omega) ra
          have fM61 := rb_far fM60 (show gM60 ≠ gA35 by omega) ra
          have fA61 := rb_put fA60 ra
          have b61 := rb_bel b60 (show wq.heap.size ≤ gA35 by omega) ra
          go_simp
          refine hK.out _ _ (by exact b61) (fun hT61 => ?_)
          clear hK K z0 z1 z2 z3 zf
          try simp only [Act.put, List.setIfInBounds_toArray, List.set_cons_zero, List.set_cons_succ]
          generalize ((((u60.setCell ⟨gA35, 0, none⟩ (.int .i64 ra.X)).setCell ⟨gA35, 1, none⟩ (.int .i64 ra.Y)).setCell ⟨gA35, 2, none⟩ (.int .i64 ra.W)).setCell ⟨gA35, 3, none⟩ (.int .i64 ra.H)) = u61 at *
          refine wpAnyH_ready (rs := [18]) (by kernel_rfl) (by simp) ?_
          refine AllReadyH.cons (o := _) rfl (fun K hK => ?_) AllReadyH.nil
          obtain ⟨z0, z1, z2, z3, zf⟩ := rb0 fM61
          have fB62 := rb_far fB61 (show gB58 ≠ gM60 by omega) rm
          have fA62 := rb_far fA61 (show gA35 ≠ gM60 by omega) rm
          have b62 := rb_bel b61 (show wq.heap.size ≤ gM60 by omega) rm
          go_simp
          refine hK.out _ _ (by exact b62) (fun hT62 => ?_)
          clear hK K z0 z1 z2 z3 zf
          try simp only [Act.put, List.setIfInBounds_toArray, List.set_cons_zero, List.set_cons_succ]
          generalize ((((u61.setCell ⟨gM60, 0, none⟩ (.int .i64 rm.X)).setCell ⟨gM60, 1, none⟩ (.int .i64 rm.Y)).setCell ⟨gM60, 2, none⟩ (.int .i64 rm.W)).setCell ⟨gM60, 3, none⟩ (.int .i64 rm.H)) = u62 at *
          refine wpAnyH_ready (rs := [19]) (by kernel_rfl) (by simp) ?_
          refine AllReadyH.cons (o := _) rfl (fun K hK => ?_) AllReadyH.nil
          obtain ⟨z0, z1, z2, z3, zf⟩ := rb0 fB62
          have fA63 := rb_far fA62 (show gA35 ≠ gB58 by omega) rb
          have fB63 := rb_put fB62 rb
          have b63 := rb_bel b62 (show wq.heap.size ≤ gB58 by omega) rb
          go_simp
          refine hK.out _ _ (by exact b63) (fun hT63 => ?_)
          clear hK K z0 z1 z2 z3 zf
          try simp only [Act.put, List.setIfInBounds_toArray, List.set_cons_zero, List.set_cons_succ]
          refine wpAnyH_take (i := 20) (oi := _) (v := .bool true) rfl (by kernel_rfl) (by kernel_rfl) (by kernel_rfl) (fun _ _ _ h => h) (Or.inl ⟨by rfl, ?_⟩) hT63 ?_
          · intro wv hSw
            go_simp
          change wpAnyH _ _ _ _ _ _ _ (Act.put _ (some 11) (.bool true)) _
          simp only [Act.put, List.setIfInBounds_toArray, List.set_cons_zero, List.set_cons_succ]
          refine wpAnyH_done (by kernel_rfl) ?_ _
          go_wp2_with fail
          go_meet
          exact ⟨gA35, gB58, rfl, rfl, by omega, by omega, fA63, fB63, KQ.out.trans b63⟩
        go_simp
        have gz := below_new u58 (.cells #[.int .i64 0, .int .i64 0, .int .i64 0, .int .i64 0] 48)
        have b64 := b58.trans (gz.mono (Nat.le_trans KQ.out.size b58.size))
        have fA64 := RB.alloc fA58 (.cells #[.int .i64 0, .int .i64 0, .int .i64 0, .int .i64 0] 48)
        have oA64 := RB.lt fA58
        have fB64 := RB.alloc fB58 (.cells #[.int .i64 0, .int .i64 0, .int .i64 0, .int .i64 0] 48)
        have oB64 := RB.lt fB58
        have fM64 := RB.new u58 ⟨0, 0, 0, 0⟩
        have s64 := b58.size
        refine hK.out _ _ (by exact b64) (fun hT64 => ?_)
        clear hK K gz
        try simp only [Act.put, List.setIfInBounds_toArray, List.set_cons_zero, List.set_cons_succ]
        generalize (u58.alloc (.cells #[.int .i64 0, .int .i64 0, .int .i64 0, .int .i64 0] 48)) = u64 at *
        generalize u58.heap.size = gM64 at *
        refine wpAnyH_ready (rs := [8]) (by kernel_rfl) (by simp) ?_
        refine AllReadyH.cons (o := _) rfl (fun K hK => ?_) AllReadyH.nil
        go_simp
        refine (HC.out _).mono ?_
        rintro e u65 ⟨rfl, hb⟩
        have b65 := b64.trans (hb.mono (Nat.le_trans KQ.out.size b64.size))
        have fA65 := RB.below fA64 hb (RB.lt fA64)
        have fB65 := RB.below fB64 hb (RB.lt fB64)
        have fM65 := RB.below fM64 hb (RB.lt fM64)
        refine hK.out _ _ (by exact b65) (fun hT65 => ?_)
        clear hK K hb
        try simp only [Act.put, List.setIfInBounds_toArray, List.set_cons_zero, List.set_cons_succ]
        refine wpAnyH_take (i := 9) (oi := _) (v := .tuple #[.agg #[.int .i64 ra.X, .int .i64 ra.Y, .int .i64 ra.W, .int .i64 ra.H], .agg #[.int .i64 rm.X, .int .i64 rm.Y, .int .i64 rm.W, .int .i64 rm.H], .agg #[.int .i64 rb.X, .int .i64 rb.Y, .int .i64 rb.W, .int .i64 rb.H], .bool true]) rfl (by kernel_rfl) (by kernel_rfl) (by kernel_rfl) (fun _ _ _ h => h) (Or.inl ⟨by rfl, ?_⟩) hT65 ?_
        · intro wv hSw
          go_simp
        change wpAnyH _ _ _ _ _ _ _ (Act.put _ (some 45) (.tuple #[.agg #[.int .i64 ra.X, .int .i64 ra.Y, .int .i64 ra.W, .int .i64 ra.H], .agg #[.int .i64 rm.X, .int .i64 rm.Y, .int .i64 rm.W, .int .i64 rm.H], .agg #[.int .i64 rb.X, .int .i64 rb.Y, .int .i64 rb.W, .int .i64 rb.H], .bool true])) _
        simp only [Act.put, List.setIfInBounds_toArray, List.set_cons_zero, List.set_cons_succ]
        refine wpAnyH_take (i := 10) (oi := _) (v := .agg #[.int .i64 ra.X, .int .i64 ra.Y, .int .i64 ra.W, .int .i64 ra.H]) rfl (by kernel_rfl) (by kernel_rfl) (by kernel_rfl) (fun _ _ _ h => h) (Or.inl ⟨by rfl, ?_⟩) hT65 ?_
        · intro wv hSw
          go_simp
        change wpAnyH _ _ _ _ _ _ _ (Act.put _ (some 55) (.agg #[.int .i64 ra.X, .int .i64 ra.Y, .int .i64 ra.W, .int .i64 ra.H])) _
        simp only [Act.put, List.setIfInBounds_toArray, List.set_cons_zero, List.set_cons_succ]
        refine wpAnyH_take (i := 11) (oi := _) (v := .agg #[.int .i64 rm.X, .int .i64 rm.Y, .int .i64 rm.W, .int .i64 rm.H]) rfl (by kernel_rfl) (by kernel_rfl) (by kernel_rfl) (fun _ _ _ h => h) (Or.inl ⟨by rfl, ?_⟩) hT65 ?_
        · intro wv hSw
          go_simp
        change wpAnyH _ _ _ _ _ _ _ (Act.put _ (some 56) (.agg #[.int .i64 rm.X, .int .i64 rm.Y, .int .i64 rm.W, .int .i64 rm.H])) _
        simp only [Act.put, List.setIfInBounds_toArray, List.set_cons_zero, List.set_cons_succ]
        refine wpAnyH_take (i := 12) (oi := _) (v := .agg #[.int .i64 rb.X, .int .i64 rb.Y, .int .i64 rb.W, .int .i64 rb.H]) rfl (by kernel_rfl) (by kernel_rfl) (by kernel_rfl) (fun _ _ _ h => h) (Or.inl ⟨by rfl, ?_⟩) hT65 ?_
        · intro wv hSw
          go_simp
        change wpAnyH _ _ _ _ _ _ _ (Act.put _ (some 57) (.agg #[.int .i64 rb.X, .int .i64 rb.Y, .int .i64 rb.W, .int .i64 rb.H])) _
        simp only [Act.put, List.setIfInBounds_toArray, List.set_cons_zero, List.set_cons_succ]
        refine wpAnyH_take (i := 13) (oi := _) (v := .bool true) rfl (by kernel_rfl) (by kernel_rfl) (by kernel_rfl) (fun _ _ _ h => h) (Or.inl ⟨by rfl, ?_⟩) hT65 ?_
        · intro wv hSw
          go_simp
        change wpAnyH _ _ _ _ _ _ _ (Act.put _ (some 58) (.bool true)) _
        simp only [Act.put, List.setIfInBounds_toArray, List.set_cons_zero, List.set_cons_succ]
        refine wpAnyH_ready (rs := [17]) (by kernel_rfl) (by simp) ?_
        refine AllReadyH.cons (o := _) rfl (fun K hK => ?_) AllReadyH.nil
        obtain ⟨z0, z1, z2, z3, zf⟩ := rb0 fA65
        have fB66 := rb_far fB65 (show gB58 ≠ gA35 by omega) ra
        have fM66 := rb_far fM65 (show gM64 ≠ gA35 by omega) ra
        have fA66 := rb_put fA65 ra
        have b66 := rb_bel b65 (show wq.heap.size ≤ gA35 by omega) ra
        go_simp
        refine hK.out _ _ (by exact b66) (fun hT66 => ?_)
        clear hK K z0 z1 z2 z3 zf
        try simp only [Act.put, List.setIfInBounds_toArray, List.set_cons_zero, List.set_cons_succ]
        generalize ((((u65.setCell ⟨gA35, 0, none⟩ (.int .i64 ra.X)).setCell ⟨gA35, 1, none⟩ (.int .i64 ra.Y)).setCell ⟨gA35, 2, none⟩ (.int .i64 ra.W)).setCell ⟨gA35, 3, none⟩ (.int .i64 ra.H)) = u66 at *
        refine wpAnyH_ready (rs := [18]) (by kernel_rfl) (by simp) ?_
        refine AllReadyH.cons (o := _) rfl (fun K hK => ?_) AllReadyH.nil
        obtain ⟨z0, z1, z2, z3, zf⟩ := rb0 fM66
        have fB67 := rb_far fB66 (show gB58 ≠ gM64 by omega) rm
        have fA67 := rb_far fA66 (show gA35 ≠ gM64 by omega) rm
        have b67 := rb_bel b66 (show wq.heap.size ≤ gM64 by omega) rm
        go_simp
        refine hK.out _ _ (by exact b67) (fun hT67 => ?_)
        clear hK K z0 z1 z2 z3 zf
        try simp only [Act.put, List.setIfInBounds_toArray, List.set_cons_zero, List.set_cons_succ]
        generalize ((((u66.setCell ⟨gM64, 0, none⟩ (.int .i64 rm.X)).setCell ⟨gM64, 1, none⟩ (.int .i64 rm.Y)).setCell ⟨gM64, 2, none⟩ (.int .i64 rm.W)).setCell ⟨gM64, 3, none⟩ (.int .i64 rm.H)) = u67 at *
        refine wpAnyH_ready (rs := [19]) (by kernel_rfl) (by simp) ?_
        refine AllReadyH.cons (o := _) rfl (fun K hK => ?_) AllReadyH.nil
        obtain ⟨z0, z1, z2, z3, zf⟩ := rb0 fB67
        have fA68 := rb_far fA67 (show gA35 ≠ gB58 by omega) rb
        have fB68 := rb_put fB67 rb
        have b68 := rb_bel b67 (show wq.heap.size ≤ gB58 by omega) rb
        go_simp
        refine hK.out _ _ (by exact b68) (fun hT68 => ?_)
        clear hK K z0 z1 z2 z3 zf
        try simp only [Act.put, List.setIfInBounds_toArray, List.set_cons_zero, List.set_cons_succ]
        refine wpAnyH_take (i := 20) (oi := _) (v := .bool true) rfl (by kernel_rfl) (by kernel_rfl) (by kernel_rfl) (fun _ _ _ h => h) (Or.inl ⟨by rfl, ?_⟩) hT68 ?_
        · intro wv hSw
          go_simp
        change wpAnyH _ _ _ _ _ _ _ (Act.put _ (some 11) (.bool true)) _
        simp only [Act.put, List.setIfInBounds_toArray, List.set_cons_zero, List.set_cons_succ]
        refine wpAnyH_done (by kernel_rfl) ?_ _
        go_wp2_with fail
        go_meet
        exact ⟨gA35, gB58, rfl, rfl, by omega, by omega, fA68, fB68, KQ.out.trans b68⟩
      · go_simp
        have gz := below_new wy (.cells #[.int .i64 0, .int .i64 0, .int .i64 0, .int .i64 0] 48)
        have b69 := b0.trans (gz.mono (Nat.le_trans KQ.out.size b0.size))
        have fM69 := RB.new wy ⟨0, 0, 0, 0⟩
        have s69 := b0.size
        refine hK.out _ _ (by exact b69) (fun hT69 => ?_)
        clear hK K gz
        try simp only [Act.put, List.setIfInBounds_toArray, List.set_cons_zero, List.set_cons_succ]
        generalize (wy.alloc (.cells #[.int .i64 0, .int .i64 0, .int .i64 0, .int .i64 0] 48)) = u69 at *
        generalize wy.heap.size = gM69 at *
        refine wpAnyH_ready (rs := [8, 14, 16]) (by kernel_rfl) (by simp) ?_
        refine AllReadyH.cons (o := _) rfl (fun K hK => ?_) (AllReadyH.cons (o := _) rfl (fun K hK => ?_) (AllReadyH.cons (o := _) rfl (fun K hK => ?_) AllReadyH.nil))
        · go_simp
          refine (HC.out _).mono ?_
          rintro e u70 ⟨rfl, hb⟩
          have b70 := b69.trans (hb.mono (Nat.le_trans KQ.out.size b69.size))
          have fM70 := RB.below fM69 hb (RB.lt fM69)
          refine hK.out _ _ (by exact b70) (fun hT70 => ?_)
          clear hK K hb
          try simp only [Act.put, List.setIfInBounds_toArray, List.set_cons_zero, List.set_cons_succ]
          refine wpAnyH_take (i := 9) (oi := _) (v := .tuple #[.agg #[.int .i64 ra.X, .int .i64 ra.Y, .int .i64 ra.W, .int .i64 ra.H], .agg #[.int .i64 rm.X, .int .i64 rm.Y, .int .i64 rm.W, .int .i64 rm.H], .agg #[.int .i64 rb.X, .int .i64 rb.Y, .int .i64 rb.W, .int .i64 rb.H], .bool true]) rfl (by kernel_rfl) (by kernel_rfl) (by kernel_rfl) (fun _ _ _ h => h) (Or.inl ⟨by rfl, ?_⟩) hT70 ?_
          · intro wv hSw
            go_simp
          change wpAnyH _ _ _ _ _ _ _ (Act.put _ (some 45) (.tuple #[.agg #[.int .i64 ra.X, .int .i64 ra.Y, .int .i64 ra.W, .int .i64 ra.H], .agg #[.int .i64 rm.X, .int .i64 rm.Y, .int .i64 rm.W, .int .i64 rm.H], .agg #[.int .i64 rb.X, .int .i64 rb.Y, .int .i64 rb.W, .int .i64 rb.H], .bool true])) _
          simp only [Act.put, List.setIfInBounds_toArray, List.set_cons_zero, List.set_cons_succ]
          refine wpAnyH_take (i := 10) (oi := _) (v := .agg #[.int .i64 ra.X, .int .i64 ra.Y, .int .i64 ra.W, .int .i64 ra.H]) rfl (by kernel_rfl) (by kernel_rfl) (by kernel_rfl) (fun _ _ _ h => h) (Or.inl ⟨by rfl, ?_⟩) hT70 ?_
          · intro wv hSw
            go_simp
          change wpAnyH _ _ _ _ _ _ _ (Act.put _ (some 55) (.agg #[.int .i64 ra.X, .int .i64 ra.Y, .int .i64 ra.W, .int .i64 ra.H])) _
          simp only [Act.put, List.setIfInBounds_toArray, List.set_cons_zero, List.set_cons_succ]
          refine wpAnyH_take (i := 11) (oi := _) (v := .agg #[.int .i64 rm.X, .int .i64 rm.Y, .int .i64 rm.W, .int .i64 rm.H]) rfl (by kernel_rfl) (by kernel_rfl) (by kernel_rfl) (fun _ _ _ h => h) (Or.inl ⟨by rfl, ?_⟩) hT70 ?_
          · intro wv hSw
            go_simp
          change wpAnyH _ _ _ _ _ _ _ (Act.put _ (some 56) (.agg #[.int .i64 rm.X, .int .i64 rm.Y, .int .i64 rm.W, .int .i64 rm.H])) _
          simp only [Act.put, List.setIfInBounds_toArray, List.set_cons_zero, List.set_cons_succ]
          refine wpAnyH_take (i := 12) (oi := _) (v := .agg #[.int .i64 rb.X, .int .i64 rb.Y, .int .i64 rb.W, .int .i64 rb.H]) rfl (by kernel_rfl) (by kernel_rfl) (by kernel_rfl) (fun _ _ _ h => h) (Or.inl ⟨by rfl, ?_⟩) hT70 ?_
          · intro wv hSw
            go_simp
          change wpAnyH _ _ _ _ _ _ _ (Act.put _ (some 57) (.agg #[.int .i64 rb.X, .int .i64 rb.Y, .int .i64 rb.W, .int .i64 rb.H])) _
          simp only [Act.put, List.setIfInBounds_toArray, List.set_cons_zero, List.set_cons_succ]
          refine wpAnyH_take (i := 13) (oi := _) (v := .bool true) rfl (by kernel_rfl) (by kernel_rfl) (by kernel_rfl) (fun _ _ _ h => h) (Or.inl ⟨by rfl, ?_⟩) hT70 ?_
          · intro wv hSw
            go_simp
          change wpAnyH _ _ _ _ _ _ _ (Act.put _ (some 58) (.bool true)) _
          simp only [Act.put, List.setIfInBounds_toArray, List.set_cons_zero, List.set_cons_succ]
          refine wpAnyH_ready (rs := [14, 16]) (by kernel_rfl) (by simp) ?_
          refine AllReadyH.cons (o := _) rfl (fun K hK => ?_) (AllReadyH.cons (o := _) rfl (fun K hK => ?_) AllReadyH.nil)
          · go_simp
            have gz := below_new u70 (.cells #[.int .i64 0, .int .i64 0, .int .i64 0, .int .i64 0] 48)
            have b71 := b70.trans (gz.mono (Nat.le_trans KQ.out.size b70.size))
            have fM71 := RB.alloc fM70 (.cells #[.int .i64 0, .int .i64 0, .int .i64 0, .int .i64 0] 48)
            have oM71 := RB.lt fM70
            have fA71 := RB.new u70 ⟨0, 0, 0, 0⟩
            have s71 := b70.size
            refine hK.out _ _ (by exact b71) (fun hT71 => ?_)
            clear hK K gz
            try simp only [Act.put, List.setIfInBounds_toArray, List.set_cons_zero, List.set_cons_succ]
            generalize (u70.alloc (.cells #[.int .i64 0, .int .i64 0, .int .i64 0, .int .i64 0] 48)) = u71 at *
            generalize u70.heap.size = gA71 at *
            refine wpAnyH_ready (rs := [16]) (by kernel_rfl) (by simp) ?_
            refine AllReadyH.cons (o := _) rfl (fun K hK => ?_) AllReadyH.nil
            go_simp
            have gz := below_new u71 (.cells #[.int .i64 0, .int .i64 0, .int .i64 0, .int .i64 0] 48)
            have b72 := b71.trans (gz.mono (Nat.le_trans KQ.out.size b71.size))
            have fM72 := RB.alloc fM71 (.cells #[.int .i64 0, .int .i64 0, .int .i64 0, .int .i64 0] 48)
            have oM72 := RB.lt fM71
            have fA72 := RB.alloc fA71 (.cells #[.int .i64 0, .int .i64 0, .int .i64 0, .int .i64 0] 48)
            have oA72 := RB.lt fA71
            have fB72 := RB.new u71 ⟨0, 0, 0, 0⟩
            have s72 := b71.size
            refine hK.out _ _ (by exact b72) (fun hT72 => ?_)
            clear hK K gz
            try simp only [Act.put, List.setIfInBounds_toArray, List.set_cons_zero, List.set_cons_succ]
            generalize (u71.alloc (.cells #[.int .i64 0, .int .i64 0, .int .i64 0, .int .i64 0] 48)) = u72 at *
            generalize u71.heap.size = gB72 at *
            refine wpAnyH_ready (rs := [17]) (by kernel_rfl) (by simp) ?_
            refine AllReadyH.cons (o := _) rfl (fun K hK => ?_) AllReadyH.nil
            obtain ⟨z0, z1, z2, z3, zf⟩ := rb0 fA72
            have fM73 := rb_far fM72 (show gM69 ≠ gA71 by omega) ra
            have fB73 := rb_far fB72 (show gB72 ≠ gA71 by omega) ra
            have fA73 := rb_put fA72 ra
            have b73 := rb_bel b72 (show wq.heap.size ≤ gA71 by omega) ra
            go_simp
            refine hK.out _ _ (by exact b73) (fun hT73 => ?_)
            clear hK K z0 z1 z2 z3 zf
            try simp only [Act.put, List.setIfInBounds_toArray, List.set_cons_zero, List.set_cons_succ]
            generalize ((((u72.setCell ⟨gA71, 0, none⟩ (.int .i64 ra.X)).setCell ⟨gA71, 1, none⟩ (.int .i64 ra.Y)).setCell ⟨gA71, 2, none⟩ (.int .i64 ra.W)).setCell ⟨gA71, 3, none⟩ (.int .i64 ra.H)) = u73 at *
            refine wpAnyH_ready (rs := [18]) (by kernel_rfl) (by simp) ?_
            refine AllReadyH.cons (o := _) rfl (fun K hK => ?_) AllReadyH.nil
            obtain ⟨z0, z1, z2, z3, zf⟩ := rb0 fM73
            have fB74 := rb_far fB73 (show gB72 ≠ gM69 by omega) rm
            have fA74 := rb_far fA73 (show gA71 ≠ gM69 by omega) rm
            have b74 := rb_bel b73 (show wq.heap.size ≤ gM69 by omega) rm
            go_simp
            refine hK.out _ _ (by exact b74) (fun hT74 => ?_)
            clear hK K z0 z1 z2 z3 zf
            try simp only [Act.put, List.setIfInBounds_toArray, List.set_cons_zero, List.set_cons_succ]
            generalize ((((u73.setCell ⟨gM69, 0, none⟩ (.int .i64 rm.X)).setCell ⟨gM69, 1, none⟩ (.int .i64 rm.Y)).setCell ⟨gM69, 2, none⟩ (.int .i64 rm.W)).setCell ⟨gM69, 3, none⟩ (.int .i64 rm.H)) = u74 at *
            refine wpAnyH_ready (rs := [19]) (by kernel_rfl) (by simp) ?_
            refine AllReadyH.cons (o := _) rfl (fun K hK => ?_) AllReadyH.nil
            obtain ⟨z0, z1, z2, z3, zf⟩ := rb0 fB74
            have fA75 := rb_far fA74 (show gA71 ≠ gB72 by omega) rb
            have fB75 := rb_put fB74 rb
            have b75 := rb_bel b74 (show wq.heap.size ≤ gB72 by omega) rb
            go_simp
            refine hK.out _ _ (by exact b75) (fun hT75 => ?_)
            clear hK K z0 z1 z2 z3 zf
            try simp only [Act.put, List.setIfInBounds_toArray, List.set_cons_zero, List.set_cons_succ]
            refine wpAnyH_take (i := 20) (oi := _) (v := .bool true) rfl (by kernel_rfl) (by kernel_rfl) (by kernel_rfl) (fun _ _ _ h => h) (Or.inl ⟨by rfl, ?_⟩) hT75 ?_
            · intro wv hSw
              go_simp
            change wpAnyH _ _ _ _ _ _ _ (Act.put _ (some 11) (.bool true)) _
            simp only [Act.put, List.setIfInBounds_toArray, List.set_cons_zero, List.set_cons_succ]
            refine wpAnyH_done (by kernel_rfl) ?_ _
            go_wp2_with fail
            go_meet
            exact ⟨gA71, gB72, rfl, rfl, by omega, by omega, fA75, fB75, KQ.out.trans b75⟩
          go_simp
          have gz := below_new u70 (.cells #[.int .i64 0, .int .i64 0, .int .i64 0, .int .i64 0] 48)
          have b76 := b70.trans (gz.mono (Nat.le_trans KQ.out.size b70.size))
          have fM76 := RB.alloc fM70 (.cells #[.int .i64 0, .int .i64 0, .int .i64 0, .int .i64 0] 48)
          have oM76 := RB.lt fM70
          have fB76 := RB.new u70 ⟨0, 0, 0, 0⟩
          have s76 := b70.size
          refine hK.out _ _ (by exact b76) (fun hT76 => ?_)
          clear hK K gz
          try simp only [Act.put, List.setIfInBounds_toArray, List.set_cons_zero, List.set_cons_succ]
          generalize (u70.alloc (.cells #[.int .i64 0, .int .i64 0, .int .i64 0, .int .i64 0] 48)) = u76 at *
          generalize u70.heap.size = gB76 at *
          refine wpAnyH_ready (rs := [14]) (by kernel_rfl) (by simp) ?_
          refine AllReadyH.cons (o := _) rfl (fun K hK => ?_) AllReadyH.nil
          go_simp
          have gz := below_new u76 (.cells #[.int .i64 0, .int .i64 0, .int .i64 0, .int .i64 0] 48)
          have b77 := b76.trans (gz.mono (Nat.le_trans KQ.out.size b76.size))
          have fM77 := RB.alloc fM76 (.cells #[.int .i64 0, .int .i64 0, .int .i64 0, .int .i64 0] 48)
          have oM77 := RB.lt fM76
          have fB77 := RB.alloc fB76 (.cells #[.int .i64 0, .int .i64 0, .int .i64 0, .int .i64 0] 48)
          have oB77 := RB.lt fB76
          have fA77 := RB.new u76 ⟨0, 0, 0, 0⟩
          have s77 := b76.size
          refine hK.out _ _ (by exact b77) (fun hT77 => ?_)
          clear hK K gz
          try simp only [Act.put, List.setIfInBounds_toArray, List.set_cons_zero, List.set_cons_succ]
          generalize (u76.alloc (.cells #[.int .i64 0, .int .i64 0, .int .i64 0, .int .i64 0] 48)) = u77 at *
          generalize u76.heap.size = gA77 at *
          refine wpAnyH_ready (rs := [17]) (by kernel_rfl) (by simp) ?_
          refine AllReadyH.cons (o := _) rfl (fun K hK => ?_) AllReadyH.nil
          obtain ⟨z0, z1, z2, z3, zf⟩ := rb0 fA77
          have fM78 := rb_far fM77 (show gM69 ≠ gA77 by omega) ra
          have fB78 := rb_far fB77 (show gB76 ≠ gA77 by omega) ra
          have fA78 := rb_put fA77 ra
          have b78 := rb_bel b77 (show wq.heap.size ≤ gA77 by omega) ra
          go_simp
          refine hK.out _ _ (by exact b78) (fun hT78 => ?_)
          clear hK K z0 z1 z2 z3 zf
          try simp only [Act.put, List.setIfInBounds_toArray, List.set_cons_zero, List.set_cons_succ]
          generalize ((((u77.setCell ⟨gA77, 0, none⟩ (.int .i64 ra.X)).setCell ⟨gA77, 1, none⟩ (.int .i64 ra.Y)).setCell ⟨gA77, 2, none⟩ (.int .i64 ra.W)).setCell ⟨gA77, 3, none⟩ (.int .i64 ra.H)) = u78 at *
          refine wpAnyH_ready (rs := [18]) (by kernel_rfl) (by simp) ?_
          refine AllReadyH.cons (o := _) rfl (fun K hK => ?_) AllReadyH.nil
          obtain ⟨z0, z1, z2, z3, zf⟩ := rb0 fM78
          have fB79 := rb_far fB78 (show gB76 ≠ gM69 by omega) rm
          have fA79 := rb_far fA78 (show gA77 ≠ gM69 by omega) rm
          have b79 := rb_bel b78 (show wq.heap.size ≤ gM69 by omega) rm
          go_simp
          refine hK.out _ _ (by exact b79) (fun hT79 => ?_)
          clear hK K z0 z1 z2 z3 zf
          try simp only [Act.put, List.setIfInBounds_toArray, List.set_cons_zero, List.set_cons_succ]
          generalize ((((u78.setCell ⟨gM69, 0, none⟩ (.int .i64 rm.X)).setCell ⟨gM69, 1, none⟩ (.int .i64 rm.Y)).setCell ⟨gM69, 2, none⟩ (.int .i64 rm.W)).setCell ⟨gM69, 3, none⟩ (.int .i64 rm.H)) = u79 at *
          refine wpAnyH_ready (rs := [19]) (by kernel_rfl) (by simp) ?_
          refine AllReadyH.cons (o := _) rfl (fun K hK => ?_) AllReadyH.nil
          obtain ⟨z0, z1, z2, z3, zf⟩ := rb0 fB79
          have fA80 := rb_far fA79 (show gA77 ≠ gB76 by omega) rb
          have fB80 := rb_put fB79 rb
          have b80 := rb_bel b79 (show wq.heap.size ≤ gB76 by omega) rb
          go_simp
          refine hK.out _ _ (by exact b80) (fun hT80 => ?_)
          clear hK K z0 z1 z2 z3 zf
          try simp only [Act.put, List.setIfInBounds_toArray, List.set_cons_zero, List.set_cons_succ]
          refine wpAnyH_take (i := 20) (oi := _) (v := .bool true) rfl (by kernel_rfl) (by kernel_rfl) (by kernel_rfl) (fun _ _ _ h => h) (Or.inl ⟨by rfl, ?_⟩) hT80 ?_
          · intro wv hSw
            go_simp
          change wpAnyH _ _ _ _ _ _ _ (Act.put _ (some 11) (.bool true)) _
          simp only [Act.put, List.setIfInBounds_toArray, List.set_cons_zero, List.set_cons_succ]
          refine wpAnyH_done (by kernel_rfl) ?_ _
          go_wp2_with fail
          go_meet
          exact ⟨gA77, gB76, rfl, rfl, by omega, by omega, fA80, fB80, KQ.out.trans b80⟩
        · go_simp
          have gz := below_new u69 (.cells #[.int .i64 0, .int .i64 0, .int .i64 0, .int .i64 0] 48)
          have b81 := b69.trans (gz.mono (Nat.le_trans KQ.out.size b69.size))
          have fM81 := RB.alloc fM69 (.cells #[.int .i64 0, .int .i64 0, .int .i64 0, .int .i64 0] 48)
          have oM81 := RB.lt fM69
          have fA81 := RB.new u69 ⟨0, 0, 0, 0⟩
          have s81 := b69.size
          refine hK.out _ _ (by exact b81) (fun hT81 => ?_)
          clear hK K gz
          try simp only [Act.put, List.setIfInBounds_toArray, List.set_cons_zero, List.set_cons_succ]
          generalize (u69.alloc (.cells #[.int .i64 0, .int .i64 0, .int .i64 0, .int .i64 0] 48)) = u81 at *
          generalize u69.heap.size = gA81 at *
          refine wpAnyH_ready (rs := [8, 16]) (by kernel_rfl) (by simp) ?_
          refine AllReadyH.cons (o := _) rfl (fun K hK => ?_) (AllReadyH.cons (o := _) rfl (fun K hK => ?_) AllReadyH.nil)
          · go_simp
            refine (HC.out _).mono ?_
            rintro e u82 ⟨rfl, hb⟩
            have b82 := b81.trans (hb.mono (Nat.le_trans KQ.out.size b81.size))
            have fM82 := RB.below fM81 hb (RB.lt fM81)
            have fA82 := RB.below fA81 hb (RB.lt fA81)
            refine hK.out _ _ (by exact b82) (fun hT82 => ?_)
            clear hK K hb
            try simp only [Act.put, List.setIfInBounds_toArray, List.set_cons_zero, List.set_cons_succ]
            refine wpAnyH_take (i := 9) (oi := _) (v := .tuple #[.agg #[.int .i64 ra.X, .int .i64 ra.Y, .int .i64 ra.W, .int .i64 ra.H], .agg #[.int .i64 rm.X, .int .i64 rm.Y, .int .i64 rm.W, .int .i64 rm.H], .agg #[.int .i64 rb.X, .int .i64 rb.Y, .int .i64 rb.W, .int .i64 rb.H], .bool true]) rfl (by kernel_rfl) (by kernel_rfl) (by kernel_rfl) (fun _ _ _ h => h) (Or.inl ⟨by rfl, ?_⟩) hT82 ?_
            · intro wv hSw
              go_simp
            change wpAnyH _ _ _ _ _ _ _ (Act.put _ (some 45) (.tuple #[.agg #[.int .i64 ra.X, .int .i64 ra.Y, .int .i64 ra.W, .int .i64 ra.H], .agg #[.int .i64 rm.X, .int .i64 rm.Y, .int .i64 rm.W, .int .i64 rm.H], .agg #[.int .i64 rb.X, .int .i64 rb.Y, .int .i64 rb.W, .int .i64 rb.H], .bool true])) _
            simp only [Act.put, List.setIfInBounds_toArray, List.set_cons_zero, List.set_cons_succ]
            refine wpAnyH_take (i := 10) (oi := _) (v := .agg #[.int .i64 ra.X, .int .i64 ra.Y, .int .i64 ra.W, .int .i64 ra.H]) rfl (by kernel_rfl) (by kernel_rfl) (by kernel_rfl) (fun _ _ _ h => h) (Or.inl ⟨by rfl, ?_⟩) hT82 ?_
            · intro wv hSw
              go_simp
            change wpAnyH _ _ _ _ _ _ _ (Act.put _ (some 55) (.agg #[.int .i64 ra.X, .int .i64 ra.Y, .int .i64 ra.W, .int .i64 ra.H])) _
            simp only [Act.put, List.setIfInBounds_toArray, List.set_cons_zero, List.set_cons_succ]
            refine wpAnyH_take (i := 11) (oi := _) (v := .agg #[.int .i64 rm.X, .int .i64 rm.Y, .int .i64 rm.W, .int .i64 rm.H]) rfl (by kernel_rfl) (by kernel_rfl) (by kernel_rfl) (fun _ _ _ h => h) (Or.inl ⟨by rfl, ?_⟩) hT82 ?_
            · intro wv hSw
              go_simp
            change wpAnyH _ _ _ _ _ _ _ (Act.put _ (some 56) (.agg #[.int .i64 rm.X, .int .i64 rm.Y, .int .i64 rm.W, .int .i64 rm.H])) _
            simp only [Act.put, List.setIfInBounds_toArray, List.set_cons_zero, List.set_cons_succ]
            refine wpAnyH_take (i := 12) (oi := _) (v := .agg #[.int .i64 rb.X, .int .i64 rb.Y, .int .i64 rb.W, .int .i64 rb.H]) rfl (by kernel_rfl) (by kernel_rfl) (by kernel_rfl) (fun _ _ _ h => h) (Or.inl ⟨by rfl, ?_⟩) hT82 ?_
            · intro wv hSw
              go_simp
            change wpAnyH _ _ _ _ _ _ _ (Act.put _ (some 57) (.agg #[.int .i64 rb.X, .int .i64 rb.Y, .int .i64 rb.W, .int .i64 rb.H])) _
            simp only [Act.put, List.setIfInBounds_toArray, List.set_cons_zero, List.set_cons_succ]
            refine wpAnyH_take (i := 13) (oi := _) (v := .bool true) rfl (by kernel_rfl) (by kernel_rfl) (by kernel_rfl) (fun _ _ _ h => h) (Or.inl ⟨by rfl, ?_⟩) hT82 ?_
            · intro wv hSw
              go_simp
            change wpAnyH _ _ _ _ _ _ _ (Act.put _ (some 58) (.bool true)) _
            simp only [Act.put, List.setIfInBounds_toArray, List.set_cons_zero, List.set_cons_succ]
            refine wpAnyH_ready (rs := [16]) (by kernel_rfl) (by simp) ?_
            refine AllReadyH.cons (o := _) rfl (fun K hK => ?_) AllReadyH.nil
            go_simp
            have gz := below_new u82 (.cells #[.int .i64 0, .int .i64 0, .int .i64 0, .int .i64 0] 48)
            have b83 := b82.trans (gz.mono (Nat.le_trans KQ.out.size b82.size))
            have fM83 := RB.alloc fM82 (.cells #[.int .i64 0, .int .i64 0, .int .i64 0, .int .i64 0] 48)
            have oM83 := RB.lt fM82
            have fA83 := RB.alloc fA82 (.cells #[.int .i64 0, .int .i64 0, .int .i64 0, .int .i64 0] 48)
            have oA83 := RB.lt fA82
            have fB83 := RB.new u82 ⟨0, 0, 0, 0⟩
            have s83 := b82.size
            refine hK.out _ _ (by exact b83) (fun hT83 => ?_)
            clear hK K gz
            try simp only [Act.put, List.setIfInBounds_toArray, List.set_cons_zero, List.set_cons_succ]
            generalize (u82.alloc (.cells #[.int .i64 0, .int .i64 0, .int .i64 0, .int .i64 0] 48)) = u83 at *
            generalize u82.heap.size = gB83 at *
            refine wpAnyH_ready (rs := [17]) (by kernel_rfl) (by simp) ?_
            refine AllReadyH.cons (o := _) rfl (fun K hK => ?_) AllReadyH.nil
            obtain ⟨z0, z1, z2, z3, zf⟩ := rb0 fA83
            have fM84 := rb_far fM83 (show gM69 ≠ gA81 by omega) ra
            have fB84 := rb_far fB83 (show gB83 ≠ gA81 by omega) ra
            have fA84 := rb_put fA83 ra
            have b84 := rb_bel b83 (show wq.heap.size ≤ gA81 by omega) ra
            go_simp
            refine hK.out _ _ (by exact b84) (fun hT84 => ?_)
            clear hK K z0 z1 z2 z3 zf
            try simp only [Act.put, List.setIfInBounds_toArray, List.set_cons_zero, List.set_cons_succ]
            generalize ((((u83.setCell ⟨gA81, 0, none⟩ (.int .i64 ra.X)).setCell ⟨gA81, 1, none⟩ (.int .i64 ra.Y)).setCell ⟨gA81, 2, none⟩ (.int .i64 ra.W)).setCell ⟨gA81, 3, none⟩ (.int .i64 ra.H)) = u84 at *
            refine wpAnyH_ready (rs := [18]) (by kernel_rfl) (by simp) ?_
            refine AllReadyH.cons (o := _) rfl (fun K hK => ?_) AllReadyH.nil
            obtain ⟨z0, z1, z2, z3, zf⟩ := rb0 fM84
            have fB85 := rb_far fB84 (show gB83 ≠ gM69 by omega) rm
            have fA85 := rb_far fA84 (show gA81 ≠ gM69 by omega) rm
            have b85 := rb_bel b84 (show wq.heap.size ≤ gM69 by omega) rm
            go_simp
            refine hK.out _ _ (by exact b85) (fun hT85 => ?_)
            clear hK K z0 z1 z2 z3 zf
            try simp only [Act.put, List.setIfInBounds_toArray, List.set_cons_zero, List.set_cons_succ]
            generalize ((((u84.setCell ⟨gM69, 0, none⟩ (.int .i64 rm.X)).setCell ⟨gM69, 1, none⟩ (.int .i64 rm.Y)).setCell ⟨gM69, 2, none⟩ (.int .i64 rm.W)).setCell ⟨gM69, 3, none⟩ (.int .i64 rm.H)) = u85 at *
            refine wpAnyH_ready (rs := [19]) (by kernel_rfl) (by simp) ?_
            refine AllReadyH.cons (o := _) rfl (fun K hK => ?_) AllReadyH.nil
            obtain ⟨z0, z1, z2, z3, zf⟩ := rb0 fB85
            have fA86 := rb_far fA85 (show gA81 ≠ gB83 by omega) rb
            have fB86 := rb_put fB85 rb
            have b86 := rb_bel b85 (show wq.heap.size ≤ gB83 by omega) rb
            go_simp
            refine hK.out _ _ (by exact b86) (fun hT86 => ?_)
            clear hK K z0 z1 z2 z3 zf
            try simp only [Act.put, List.setIfInBounds_toArray, List.set_cons_zero, List.set_cons_succ]
            refine wpAnyH_take (i := 20) (oi := _) (v := .bool true) rfl (by kernel_rfl) (by kernel_rfl) (by kernel_rfl) (fun _ _ _ h => h) (Or.inl ⟨by rfl, ?_⟩) hT86 ?_
            · intro wv hSw
              go_simp
            change wpAnyH _ _ _ _ _ _ _ (Act.put _ (some 11) (.bool true)) _
            simp only [Act.put, List.setIfInBounds_toArray, List.set_cons_zero, List.set_cons_succ]
            refine wpAnyH_done (by kernel_rfl) ?_ _
            go_wp2_with fail
            go_meet
            exact ⟨gA81, gB83, rfl, rfl, by omega, by omega, fA86, fB86, KQ.out.trans b86⟩
          go_simp
          have gz := below_new u81 (.cells #[.int .i64 0, .int .i64 0, .int .i64 0, .int .i64 0] 48)
          have b87 := b81.trans (gz.mono (Nat.le_trans KQ.out.size b81.size))
          have fM87 := RB.alloc fM81 (.cells #[.int .i64 0, .int .i64 0, .int .i64 0, .int .i64 0] 48)
          have oM87 := RB.lt fM81
          have fA87 := RB.alloc fA81 (.cells #[.int .i64 0, .int .i64 0, .int .i64 0, .int .i64 0] 48)
          have oA87 := RB.lt fA81
          have fB87 := RB.new u81 ⟨0, 0, 0, 0⟩
          have s87 := b81.size
          refine hK.out _ _ (by exact b87) (fun hT87 => ?_)
          clear hK K gz
          try simp only [Act.put, List.setIfInBounds_toArray, List.set_cons_zero, List.set_cons_succ]
          generalize (u81.alloc (.cells #[.int .i64 0, .int .i64 0, .int .i64 0, .int .i64 0] 48)) = u87 at *
          generalize u81.heap.size = gB87 at *
          refine wpAnyH_ready (rs := [8]) (by kernel_rfl) (by simp) ?_
          refine AllReadyH.cons (o := _) rfl (fun K hK => ?_) AllReadyH.nil
          go_simp
          refine (HC.out _).mono ?_
          rintro e u88 ⟨rfl, hb⟩
          have b88 := b87.trans (hb.mono (Nat.le_trans KQ.out.size b87.size))
          have fM88 := RB.below fM87 hb (RB.lt fM87)
          have fA88 := RB.below fA87 hb (RB.lt fA87)
          have fB88 := RB.below fB87 hb (RB.lt fB87)
          refine hK.out _ _ (by exact b88) (fun hT88 => ?_)
          clear hK K hb
          try simp only [Act.put, List.setIfInBounds_toArray, List.set_cons_zero, List.set_cons_succ]
          refine wpAnyH_take (i := 9) (oi := _) (v := .tuple #[.agg #[.int .i64 ra.X, .int .i64 ra.Y, .int .i64 ra.W, .int .i64 ra.H], .agg #[.int .i64 rm.X, .int .i64 rm.Y, .int .i64 rm.W, .int .i64 rm.H], .agg #[.int .i64 rb.X, .int .i64 rb.Y, .int .i64 rb.W, .int .i64 rb.H], .bool true]) rfl (by kernel_rfl) (by kernel_rfl) (by kernel_rfl) (fun _ _ _ h => h) (Or.inl ⟨by rfl, ?_⟩) hT88 ?_
          · intro wv hSw
            go_simp
          change wpAnyH _ _ _ _ _ _ _ (Act.put _ (some 45) (.tuple #[.agg #[.int .i64 ra.X, .int .i64 ra.Y, .int .i64 ra.W, .int .i64 ra.H], .agg #[.int .i64 rm.X, .int .i64 rm.Y, .int .i64 rm.W, .int .i64 rm.H], .agg #[.int .i64 rb.X, .int .i64 rb.Y, .int .i64 rb.W, .int .i64 rb.H], .bool true])) _
          simp only [Act.put, List.setIfInBounds_toArray, List.set_cons_zero, List.set_cons_succ]
          refine wpAnyH_take (i := 10) (oi := _) (v := .agg #[.int .i64 ra.X, .int .i64 ra.Y, .int .i64 ra.W, .int .i64 ra.H]) rfl (by kernel_rfl) (by kernel_rfl) (by kernel_rfl) (fun _ _ _ h => h) (Or.inl ⟨by rfl, ?_⟩) hT88 ?_
          · intro wv hSw
            go_simp
          change wpAnyH _ _ _ _ _ _ _ (Act.put _ (some 55) (.agg #[.int .i64 ra.X, .int .i64 ra.Y, .int .i64 ra.W, .int .i64 ra.H])) _
          simp only [Act.put, List.setIfInBounds_toArray, List.set_cons_zero, List.set_cons_succ]
          refine wpAnyH_take (i := 11) (oi := _) (v := .agg #[.int .i64 rm.X, .int .i64 rm.Y, .int .i64 rm.W, .int .i64 rm.H]) rfl (by kernel_rfl) (by kernel_rfl) (by kernel_rfl) (fun _ _ _ h => h) (Or.inl ⟨by rfl, ?_⟩) hT88 ?_
          · intro wv hSw
            go_simp
          change wpAnyH _ _ _ _ _ _ _ (Act.put _ (some 56) (.agg #[.int .i64 rm.X, .int .i64 rm.Y, .int .i64 rm.W, .int .i64 rm.H])) _
          simp only [Act.put, List.setIfInBounds_toArray, List.set_cons_zero, List.set_cons_succ]
          refine wpAnyH_take (i := 12) (oi := _) (v := .agg #[.int .i64 rb.X, .int .i64 rb.Y, .int .i64 rb.W, .int .i64 rb.H]) rfl (by kernel_rfl) (by kernel_rfl) (by kernel_rfl) (fun _ _ _ h => h) (Or.inl ⟨by rfl, ?_⟩) hT88 ?_
          · intro wv hSw
            go_simp
          change wpAnyH _ _ _ _ _ _ _ (Act.put _ (some 57) (.agg #[.int .i64 rb.X, .int .i64 rb.Y, .int .i64 rb.W, .int .i64 rb.H])) _
          simp only [Act.put, List.setIfInBounds_toArray, List.set_cons_zero, List.set_cons_succ]
          refine wpAnyH_take (i := 13) (oi := _) (v := .bool true) rfl (by kernel_rfl) (by kernel_rfl) (by kernel_rfl) (fun _ _ _ h => h) (Or.inl ⟨by rfl, ?_⟩) hT88 ?_
          · intro wv hSw
            go_simp
          change wpAnyH _ _ _ _ _ _ _ (Act.put _ (some 58) (.bool true)) _
          simp only [Act.put, List.setIfInBounds_toArray, List.set_cons_zero, List.set_cons_succ]
          refine wpAnyH_ready (rs := [17]) (by kernel_rfl) (by simp) ?_
          refine AllReadyH.cons (o := _) rfl (fun K hK => ?_) AllReadyH.nil
          obtain ⟨z0, z1, z2, z3, zf⟩ := rb0 fA88
          have fM89 := rb_far fM88 (show gM69 ≠ gA81 by omega) ra
          have fB89 := rb_far fB88 (show gB87 ≠ gA81 by omega) ra
          have fA89 := rb_put fA88 ra
          have b89 := rb_bel b88 (show wq.heap.size ≤ gA81 by omega) ra
          go_simp
          refine hK.out _ _ (by exact b89) (fun hT89 => ?_)
          clear hK K z0 z1 z2 z3 zf
          try simp only [Act.put, List.setIfInBounds_toArray, List.set_cons_zero, List.set_cons_succ]
          generalize ((((u88.setCell ⟨gA81, 0, none⟩ (.int .i64 ra.X)).setCell ⟨gA81, 1, none⟩ (.int .i64 ra.Y)).setCell ⟨gA81, 2, none⟩ (.int .i64 ra.W)).setCell ⟨gA81, 3, none⟩ (.int .i64 ra.H)) = u89 at *
          refine wpAnyH_ready (rs := [18]) (by kernel_rfl) (by simp) ?_
          refine AllReadyH.cons (o := _) rfl (fun K hK => ?_) AllReadyH.nil
          obtain ⟨z0, z1, z2, z3, zf⟩ := rb0 fM89
          have fB90 := rb_far fB89 (show gB87 ≠ gM69 by omega) rm
          have fA90 := rb_far fA89 (show gA81 ≠ gM69 by omega) rm
          have b90 := rb_bel b89 (show wq.heap.size ≤ gM69 by omega) rm
          go_simp
          refine hK.out _ _ (by exact b90) (fun hT90 => ?_)
          clear hK K z0 z1 z2 z3 zf
          try simp only [Act.put, List.setIfInBounds_toArray, List.set_cons_zero, List.set_cons_succ]
          generalize ((((u89.setCell ⟨gM69, 0, none⟩ (.int .i64 rm.X)).setCell ⟨gM69, 1, none⟩ (.int .i64 rm.Y)).setCell ⟨gM69, 2, none⟩ (.int .i64 rm.W)).setCell ⟨gM69, 3, none⟩ (.int .i64 rm.H)) = u90 at *
          refine wpAnyH_ready (rs := [19]) (by kernel_rfl) (by simp) ?_
          refine AllReadyH.cons (o := _) rfl (fun K hK => ?_) AllReadyH.nil
          obtain ⟨z0, z1, z2, z3, zf⟩ := rb0 fB90
          have fA91 := rb_far fA90 (show gA81 ≠ gB87 by omega) rb
          have fB91 := rb_put fB90 rb
          have b91 := rb_bel b90 (show wq.heap.size ≤ gB87 by omega) rb
          go_simp
          refine hK.out _ _ (by exact b91) (fun hT91 => ?_)
          clear hK K z0 z1 z2 z3 zf
          try simp only [Act.put, List.setIfInBounds_toArray, List.set_cons_zero, List.set_cons_succ]
          refine wpAnyH_take (i := 20) (oi := _) (v := .bool true) rfl (by kernel_rfl) (by kernel_rfl) (by kernel_rfl) (fun _ _ _ h => h) (Or.inl ⟨by rfl, ?_⟩) hT91 ?_
          · intro wv hSw
            go_simp
          change wpAnyH _ _ _ _ _ _ _ (Act.put _ (some 11) (.bool true)) _
          simp only [Act.put, List.setIfInBounds_toArray, List.set_cons_zero, List.set_cons_succ]
          refine wpAnyH_done (by kernel_rfl) ?_ _
          go_wp2_with fail
          go_meet
          exact ⟨gA81, gB87, rfl, rfl, by omega, by omega, fA91, fB91, KQ.out.trans b91⟩
        go_simp
        have gz := below_new u69 (.cells #[.int .i64 0, .int .i64 0, .int .i64 0, .int .i64 0] 48)
        have b92 := b69.trans (gz.mono (Nat.le_trans KQ.out.size b69.size))
        have fM92 := RB.alloc fM69 (.cells #[.int .i64 0, .int .i64 0, .int .i64 0, .int .i64 0] 48)
        have oM92 := RB.lt fM69
        have fB92 := RB.new u69 ⟨0, 0, 0, 0⟩
        have s92 := b69.size
        refine hK.out _ _ (by exact b92) (fun hT92 => ?_)
        clear hK K gz
        try simp only [Act.put, List.setIfInBounds_toArray, List.set_cons_zero, List.set_cons_succ]
        generalize (u69.alloc (.cells #[.int .i64 0, .int .i64 0, .int .i64 0, .int .i64 0] 48)) = u92 at *
        generalize u69.heap.size = gB92 at *
        refine wpAnyH_ready (rs := [8, 14]) (by kernel_rfl) (by simp) ?_
        refine AllReadyH.cons (o := _) rfl (fun K hK => ?_) (AllReadyH.cons (o := _) rfl (fun K hK => ?_) AllReadyH.nil)
        · go_simp
          refine (HC.out _).mono ?_
          rintro e u93 ⟨rfl, hb⟩
          have b93 := b92.trans (hb.mono (Nat.le_trans KQ.out.size b92.size))
          have fM93 := RB.below fM92 hb (RB.lt fM92)
          have fB93 := RB.below fB92 hb (RB.lt fB92)
          refine hK.out _ _ (by exact b93) (fun hT93 => ?_)
          clear hK K hb
          try simp only [Act.put, List.setIfInBounds_toArray, List.set_cons_zero, List.set_cons_succ]
          refine wpAnyH_take (i := 9) (oi := _) (v := .tuple #[.agg #[.int .i64 ra.X, .int .i64 ra.Y, .int .i64 ra.W, .int .i64 ra.H], .agg #[.int .i64 rm.X, .int .i64 rm.Y, .int .i64 rm.W, .int .i64 rm.H], .agg #[.int .i64 rb.X, .int .i64 rb.Y, .int .i64 rb.W, .int .i64 rb.H], .bool true]) rfl (by kernel_rfl) (by kernel_rfl) (by kernel_rfl) (fun _ _ _ h => h) (Or.inl ⟨by rfl, ?_⟩) hT93 ?_
          · intro wv hSw
            go_simp
          change wpAnyH _ _ _ _ _ _ _ (Act.put _ (some 45) (.tuple #[.agg #[.int .i64 ra.X, .int .i64 ra.Y, .int .i64 ra.W, .int .i64 ra.H], .agg #[.int .i64 rm.X, .int .i64 rm.Y, .int .i64 rm.W, .int .i64 rm.H], .agg #[.int .i64 rb.X, .int .i64 rb.Y, .int .i64 rb.W, .int .i64 rb.H], .bool true])) _
          simp only [Act.put, List.setIfInBounds_toArray, List.set_cons_zero, List.set_cons_succ]
          refine wpAnyH_take (i := 10) (oi := _) (v := .agg #[.int .i64 ra.X, .int .i64 ra.Y, .int .i64 ra.W, .int .i64 ra.H]) rfl (by kernel_rfl) (by kernel_rfl) (by kernel_rfl) (fun _ _ _ h => h) (Or.inl ⟨by rfl, ?_⟩) hT93 ?_
          · intro wv hSw
            go_simp
          change wpAnyH _ _ _ _ _ _ _ (Act.put _ (some 55) (.agg #[.int .i64 ra.X, .int .i64 ra.Y, .int .i64 ra.W, .int .i64 ra.H])) _
          simp only [Act.put, List.setIfInBounds_toArray, List.set_cons_zero, List.set_cons_succ]
          refine wpAnyH_take (i := 11) (oi := _) (v := .agg #[.int .i64 rm.X, .int .i64 rm.Y, .int .i64 rm.W, .int .i64 rm.H]) rfl (by kernel_rfl) (by kernel_rfl) (by kernel_rfl) (fun _ _ _ h => h) (Or.inl ⟨by rfl, ?_⟩) hT93 ?_
          · intro wv hSw
            go_simp
          change wpAnyH _ _ _ _ _ _ _ (Act.put _ (some 56) (.agg #[.int .i64 rm.X, .int .i64 rm.Y, .int .i64 rm.W, .int .i64 rm.H])) _
          simp only [Act.put, List.setIfInBounds_toArray, List.set_cons_zero, List.set_cons_succ]
          refine wpAnyH_take (i := 12) (oi := _) (v := .agg #[.int .i64 rb.X, .int .i64 rb.Y, .int .i64 rb.W, .int .i64 rb.H]) rfl (by kernel_rfl) (by kernel_rfl) (by kernel_rfl) (fun _ _ _ h => h) (Or.inl ⟨by rfl, ?_⟩) hT93 ?_
          · intro wv hSw
            go_simp
          change wpAnyH _ _ _ _ _ _ _ (Act.put _ (some 57) (.agg #[.int .i64 rb.X, .int .i64 rb.Y, .int .i64 rb.W, .int .i64 rb.H])) _
          simp only [Act.put, List.setIfInBounds_toArray, List.set_cons_zero, List.set_cons_succ]
          refine wpAnyH_take (i := 13) (oi := _) (v := .bool true) rfl (by kernel_rfl) (by kernel_rfl) (by kernel_rfl) (fun _ _ _ h => h) (Or.inl ⟨by rfl, ?_⟩) hT93 ?_
          · intro wv hSw
            go_simp
          change wpAnyH _ _ _ _ _ _ _ (Act.put _ (some 58) (.bool true)) _
          simp only [Act.put, List.setIfInBounds_toArray, List.set_cons_zero, List.set_cons_succ]
          refine wpAnyH_ready (rs := [14]) (by kernel_rfl) (by simp) ?_
          refine AllReadyH.cons (o := _) rfl (fun K hK => ?_) AllReadyH.nil
          go_simp
          have gz := below_new u93 (.cells #[.int .i64 0, .int .i64 0, .int .i64 0, .int .i64 0] 48)
          have b94 := b93.trans (gz.mono (Nat.le_trans KQ.out.size b93.size))
          have fM94 := RB.alloc fM93 (.cells #[.int .i64 0, .int .i64 0, .int .i64 0, .int .i64 0] 48)
          have oM94 := RB.lt fM93
          have fB94 := RB.alloc fB93 (.cells #[.int .i64 0, .int .i64 0, .int .i64 0, .int .i64 0] 48)
          have oB94 := RB.lt fB93
          have fA94 := RB.new u93 ⟨0, 0, 0, 0⟩
          have s94 := b93.size
          refine hK.out _ _ (by exact b94) (fun hT94 => ?_)
          clear hK K gz
          try simp only [Act.put, List.setIfInBounds_toArray, List.set_cons_zero, List.set_cons_succ]
          generalize (u93.alloc (.cells #[.int .i64 0, .int .i64 0, .int .i64 0, .int .i64 0] 48)) = u94 at *
          generalize u93.heap.size = gA94 at *
          refine wpAnyH_ready (rs := [17]) (by kernel_rfl) (by simp) ?_
          refine AllReadyH.cons (o := _) rfl (fun K hK => ?_) AllReadyH.nil
          obtain ⟨z0, z1, z2, z3, zf⟩ := rb0 fA94
          have fM95 := rb_far fM94 (show gM69 ≠ gA94 by omega) ra
          have fB95 := rb_far fB94 (show gB92 ≠ gA94 by omega) ra
          have fA95 := rb_put fA94 ra
          have b95 := rb_bel b94 (show wq.heap.size ≤ gA94 by omega) ra
          go_simp
          refine hK.out _ _ (by exact b95) (fun hT95 => ?_)
          clear hK K z0 z1 z2 z3 zf
          try simp only [Act.put, List.setIfInBounds_toArray, List.set_cons_zero, List.set_cons_succ]
          generalize ((((u94.setCell ⟨gA94, 0, none⟩ (.int .i64 ra.X)).setCell ⟨gA94, 1, none⟩ (.int .i64 ra.Y)).setCell ⟨gA94, 2, none⟩ (.int .i64 ra.W)).setCell ⟨gA94, 3, none⟩ (.int .i64 ra.H)) = u95 at *
          refine wpAnyH_ready (rs := [18]) (by kernel_rfl) (by simp) ?_
          refine AllReadyH.cons (o := _) rfl (fun K hK => ?_) AllReadyH.nil
          obtain ⟨z0, z1, z2, z3, zf⟩ := rb0 fM95
          have fB96 := rb_far fB95 (show gB92 ≠ gM69 by omega) rm
          have fA96 := rb_far fA95 (show gA94 ≠ gM69 by omega) rm
          have b96 := rb_bel b95 (show wq.heap.size ≤ gM69 by omega) rm
          go_simp
          refine hK.out _ _ (by exact b96) (fun hT96 => ?_)
          clear hK K z0 z1 z2 z3 zf
          try simp only [Act.put, List.setIfInBounds_toArray, List.set_cons_zero, List.set_cons_succ]
          generalize ((((u95.setCell ⟨gM69, 0, none⟩ (.int .i64 rm.X)).setCell ⟨gM69, 1, none⟩ (.int .i64 rm.Y)).setCell ⟨gM69, 2, none⟩ (.int .i64 rm.W)).setCell ⟨gM69, 3, none⟩ (.int .i64 rm.H)) = u96 at *
          refine wpAnyH_ready (rs := [19]) (by kernel_rfl) (by simp) ?_
          refine AllReadyH.cons (o := _) rfl (fun K hK => ?_) AllReadyH.nil
          obtain ⟨z0, z1, z2, z3, zf⟩ := rb0 fB96
          have fA97 := rb_far fA96 (show gA94 ≠ gB92 by omega) rb
          have fB97 := rb_put fB96 rb
          have b97 := rb_bel b96 (show wq.heap.size ≤ gB92 by omega) rb
          go_simp
          refine hK.out _ _ (by exact b97) (fun hT97 => ?_)
          clear hK K z0 z1 z2 z3 zf
          try simp only [Act.put, List.setIfInBounds_toArray, List.set_cons_zero, List.set_cons_succ]
          refine wpAnyH_take (i := 20) (oi := _) (v := .bool true) rfl (by kernel_rfl) (by kernel_rfl) (by kernel_rfl) (fun _ _ _ h => h) (Or.inl ⟨by rfl, ?_⟩) hT97 ?_
          · intro wv hSw
            go_simp
          change wpAnyH _ _ _ _ _ _ _ (Act.put _ (some 11) (.bool true)) _
          simp only [Act.put, List.setIfInBounds_toArray, List.set_cons_zero, List.set_cons_succ]
          refine wpAnyH_done (by kernel_rfl) ?_ _
          go_wp2_with fail
          go_meet
          exact ⟨gA94, gB92, rfl, rfl, by omega, by omega, fA97, fB97, KQ.out.trans b97⟩
        go_simp
        have gz := below_new u92 (.cells #[.int .i64 0, .int .i64 0, .int .i64 0, .int .i64 0] 48)
        have b98 := b92.trans (gz.mono (Nat.le_trans KQ.out.size b92.size))
        have fM98 := RB.alloc fM92 (.cells #[.int .i64 0, .int .i64 0, .int .i64 0, .int .i64 0] 48)
        have oM98 := RB.lt fM92
        have fB98 := RB.alloc fB92 (.cells #[.int .i64 0, .int .i64 0, .int .i64 0, .int .i64 0] 48)
        have oB98 := RB.lt fB92
        have fA98 := RB.new u92 ⟨0, 0, 0, 0⟩
        have s98 := b92.size
        refine hK.out _ _ (by exact b98) (fun hT98 => ?_)
        clear hK K gz
        try simp only [Act.put, List.setIfInBounds_toArray, List.set_cons_zero, List.set_cons_succ]
        generalize (u92.alloc (.cells #[.int .i64 0, .int .i64 0, .int .i64 0, .int .i64 0] 48)) = u98 at *
        generalize u92.heap.size = gA98 at *
        refine wpAnyH_ready (rs := [8]) (by kernel_rfl) (by simp) ?_
        refine AllReadyH.cons (o := _) rfl (fun K hK => ?_) AllReadyH.nil
        go_simp
        refine (HC.out _).mono ?_
        rintro e u99 ⟨rfl, hb⟩
        have b99 := b98.trans (hb.mono (Nat.le_trans KQ.out.size b98.size))
        have fM99 := RB.below fM98 hb (RB.lt fM98)
        have fB99 := RB.below fB98 hb (RB.lt fB98)
        have fA99 := RB.below fA98 hb (RB.lt fA98)
        refine hK.out _ _ (by exact b99) (fun hT99 => ?_)
        clear hK K hb
        try simp only [Act.put, List.setIfInBounds_toArray, List.set_cons_zero, List.set_cons_succ]
        refine wpAnyH_take (i := 9) (oi := _) (v := .tuple #[.agg #[.int .i64 ra.X, .int .i64 ra.Y, .int .i64 ra.W, .int .i64 ra.H], .agg #[.int .i64 rm.X, .int .i64 rm.Y, .int .i64 rm.W, .int .i64 rm.H], .agg #[.int .i64 rb.X, .int .i64 rb.Y, .int .i64 rb.W, .int .i64 rb.H], .bool true]) rfl (by kernel_rfl) (by kernel_rfl) (by kernel_rfl) (fun _ _ _ h => h) (Or.inl ⟨by rfl, ?_⟩) hT99 ?_
        · intro wv hSw
          go_simp
        change wpAnyH _ _ _ _ _ _ _ (Act.put _ (some 45) (.tuple #[.agg #[.int .i64 ra.X, .int .i64 ra.Y, .int .i64 ra.W, .int .i64 ra.H], .agg #[.int .i64 rm.X, .int .i64 rm.Y, .int .i64 rm.W, .int .i64 rm.H], .agg #[.int .i64 rb.X, .int .i64 rb.Y, .int .i64 rb.W, .int .i64 rb.H], .bool true])) _
        simp only [Act.put, List.setIfInBounds_toArray, List.set_cons_zero, List.set_cons_succ]
        refine wpAnyH_take (i := 10) (oi := _) (v := .agg #[.int .i64 ra.X, .int .i64 ra.Y, .int .i64 ra.W, .int .i64 ra.H]) rfl (by kernel_rfl) (by kernel_rfl) (by kernel_rfl) (fun _ _ _ h => h) (Or.inl ⟨by rfl, ?_⟩) hT99 ?_
        · intro wv hSw
          go_simp
        change wpAnyH _ _ _ _ _ _ _ (Act.put _ (some 55) (.agg #[.int .i64 ra.X, .int .i64 ra.Y, .int .i64 ra.W, .int .i64 ra.H])) _
        simp only [Act.put, List.setIfInBounds_toArray, List.set_cons_zero, List.set_cons_succ]
        refine wpAnyH_take (i := 11) (oi := _) (v := .agg #[.int .i64 rm.X, .int .i64 rm.Y, .int .i64 rm.W, .int .i64 rm.H]) rfl (by kernel_rfl) (by kernel_rfl) (by kernel_rfl) (fun _ _ _ h => h) (Or.inl ⟨by rfl, ?_⟩) hT99 ?_
        · intro wv hSw
          go_simp
        change wpAnyH _ _ _ _ _ _ _ (Act.put _ (some 56) (.agg #[.int .i64 rm.X, .int .i64 rm.Y, .int .i64 rm.W, .int .i64 rm.H])) _
        simp only [Act.put, List.setIfInBounds_toArray, List.set_cons_zero, List.set_cons_succ]
        refine wpAnyH_take (i := 12) (oi := _) (v := .agg #[.int .i64 rb.X, .int .i64 rb.Y, .int .i64 rb.W, .int .i64 rb.H]) rfl (by kernel_rfl) (by kernel_rfl) (by kernel_rfl) (fun _ _ _ h => h) (Or.inl ⟨by rfl, ?_⟩) hT99 ?_
        · intro wv hSw
          go_simp
        change wpAnyH _ _ _ _ _ _ _ (Act.put _ (some 57) (.agg #[.int .i64 rb.X, .int .i64 rb.Y, .int .i64 rb.W, .int .i64 rb.H])) _
        simp only [Act.put, List.setIfInBounds_toArray, List.set_cons_zero, List.set_cons_succ]
        refine wpAnyH_take (i := 13) (oi := _) (v := .bool true) rfl (by kernel_rfl) (by kernel_rfl) (by kernel_rfl) (fun _ _ _ h => h) (Or.inl ⟨by rfl, ?_⟩) hT99 ?_
        · intro wv hSw
          go_simp
        change wpAnyH _ _ _ _ _ _ _ (Act.put _ (some 58) (.bool true)) _
        simp only [Act.put, List.setIfInBounds_toArray, List.set_cons_zero, List.set_cons_succ]
        refine wpAnyH_ready (rs := [17]) (by kernel_rfl) (by simp) ?_
        refine AllReadyH.cons (o := _) rfl (fun K hK => ?_) AllReadyH.nil
        obtain ⟨z0, z1, z2, z3, zf⟩ := rb0 fA99
        have fM100 := rb_far fM99 (show gM69 ≠ gA98 by omega) ra
        have fB100 := rb_far fB99 (show gB92 ≠ gA98 by omega) ra
        have fA100 := rb_put fA99 ra
        have b100 := rb_bel b99 (show wq.heap.size ≤ gA98 by omega) ra
        go_simp
        refine hK.out _ _ (by exact b100) (fun hT100 => ?_)
        clear hK K z0 z1 z2 z3 zf
        try simp only [Act.put, List.setIfInBounds_toArray, List.set_cons_zero, List.set_cons_succ]
        generalize ((((u99.setCell ⟨gA98, 0, none⟩ (.int .i64 ra.X)).setCell ⟨gA98, 1, none⟩ (.int .i64 ra.Y)).setCell ⟨gA98, 2, none⟩ (.int .i64 ra.W)).setCell ⟨gA98, 3, none⟩ (.int .i64 ra.H)) = u100 at *
        refine wpAnyH_ready (rs := [18]) (by kernel_rfl) (by simp) ?_
        refine AllReadyH.cons (o := _) rfl (fun K hK => ?_) AllReadyH.nil
        obtain ⟨z0, z1, z2, z3, zf⟩ := rb0 fM100
        have fB101 := rb_far fB100 (show gB92 ≠ gM69 by omega) rm
        have fA101 := rb_far fA100 (show gA98 ≠ gM69 by omega) rm
        have b101 := rb_bel b100 (show wq.heap.size ≤ gM69 by omega) rm
        go_simp
        refine hK.out _ _ (by exact b101) (fun hT101 => ?_)
        clear hK K z0 z1 z2 z3 zf
        try simp only [Act.put, List.setIfInBounds_toArray, List.set_cons_zero, List.set_cons_succ]
        generalize ((((u100.setCell ⟨gM69, 0, none⟩ (.int .i64 rm.X)).setCell ⟨gM69, 1, none⟩ (.int .i64 rm.Y)).setCell ⟨gM69, 2, none⟩ (.int .i64 rm.W)).setCell ⟨gM69, 3, none⟩ (.int .i64 rm.H)) = u101 at *
        refine wpAnyH_ready (rs := [19]) (by kernel_rfl) (by simp) ?_
        refine AllReadyH.cons (o := _) rfl (fun K hK => ?_) AllReadyH.nil
        obtain ⟨z0, z1, z2, z3, zf⟩ := rb0 fB101
        have fA102 := rb_far fA101 (show gA98 ≠ gB92 by omega) rb
        have fB102 := rb_put fB101 rb
        have b102 := rb_bel b101 (show wq.heap.size ≤ gB92 by omega) rb
        go_simp
        refine hK.out _ _ (by exact b102) (fun hT102 => ?_)
        clear hK K z0 z1 z2 z3 zf
        try simp only [Act.put, List.setIfInBounds_toArray, List.set_cons_zero, List.set_cons_succ]
        refine wpAnyH_take (i := 20) (oi := _) (v := .bool true) rfl (by kernel_rfl) (by kernel_rfl) (by kernel_rfl) (fun _ _ _ h => h) (Or.inl ⟨by rfl, ?_⟩) hT102 ?_
        · intro wv hSw
          go_simp
        change wpAnyH _ _ _ _ _ _ _ (Act.put _ (some 11) (.bool true)) _
        simp only [Act.put, List.setIfInBounds_toArray, List.set_cons_zero, List.set_cons_succ]
        refine wpAnyH_done (by kernel_rfl) ?_ _
        go_wp2_with fail
        go_meet
        exact ⟨gA98, gB92, rfl, rfl, by omega, by omega, fA102, fB102, KQ.out.trans b102⟩
      go_simp
      have gz := below_new wy (.cells #[.int .i64 0, .int .i64 0, .int .i64 0, .int .i64 0] 48)
      have b103 := b0.trans (gz.mono (Nat.le_trans KQ.out.size b0.size))
      have fB103 := RB.new wy ⟨0, 0, 0, 0⟩
      have s103 := b0.size
      refine hK.out _ _ (by exact b103) (fun hT103 => ?_)
      clear hK K gz
      try simp only [Act.put, List.setIfInBounds_toArray, List.set_cons_zero, List.set_cons_succ]
      generalize (wy.alloc (.cells #[.int .i64 0, .int .i64 0, .int .i64 0, .int .i64 0] 48)) = u103 at *
      generalize wy.heap.size = gB103 at *
      refine wpAnyH_ready (rs := [8, 14, 15]) (by kernel_rfl) (by simp) ?_
      refine AllReadyH.cons (o := _) rfl (fun K hK => ?_) (AllReadyH.cons (o := _) rfl (fun K hK => ?_) (AllReadyH.cons (o := _) rfl (fun K hK => ?_) AllReadyH.nil))
      · go_simp
        refine (HC.out _).mono ?_
        rintro e u104 ⟨rfl, hb⟩
        have b104 := b103.trans (hb.mono (Nat.le_trans KQ.out.size b103.size))
        have fB104 := RB.below fB103 hb (RB.lt fB103)
        refine hK.out _ _ (by exact b104) (fun hT104 => ?_)
        clear hK K hb
        try simp only [Act.put, List.setIfInBounds_toArray, List.set_cons_zero, List.set_cons_succ]
        refine wpAnyH_take (i := 9) (oi := _) (v := .tuple #[.agg #[.int .i64 ra.X, .int .i64 ra.Y, .int .i64 ra.W, .int .i64 ra.H], .agg #[.int .i64 rm.X, .int .i64 rm.Y, .int .i64 rm.W, .int .i64 rm.H], .agg #[.int .i64 rb.X, .int .i64 rb.Y, .int .i64 rb.W, .int .i64 rb.H], .bool true]) rfl (by kernel_rfl) (by kernel_rfl) (by kernel_rfl) (fun _ _ _ h => h) (Or.inl ⟨by rfl, ?_⟩) hT104 ?_
        · intro wv hSw
          go_simp
        change wpAnyH _ _ _ _ _ _ _ (Act.put _ (some 45) (.tuple #[.agg #[.int .i64 ra.X, .int .i64 ra.Y, .int .i64 ra.W, .int .i64 ra.H], .agg #[.int .i64 rm.X, .int .i64 rm.Y, .int .i64 rm.W, .int .i64 rm.H], .agg #[.int .i64 rb.X, .int .i64 rb.Y, .int .i64 rb.W, .int .i64 rb.H], .bool true])) _
        simp only [Act.put, List.setIfInBounds_toArray, List.set_cons_zero, List.set_cons_succ]
        refine wpAnyH_take (i := 10) (oi := _) (v := .agg #[.int .i64 ra.X, .int .i64 ra.Y, .int .i64 ra.W, .int .i64 ra.H]) rfl (by kernel_rfl) (by kernel_rfl) (by kernel_rfl) (fun _ _ _ h => h) (Or.inl ⟨by rfl, ?_⟩) hT104 ?_
        · intro wv hSw
          go_simp
        change wpAnyH _ _ _ _ _ _ _ (Act.put _ (some 55) (.agg #[.int .i64 ra.X, .int .i64 ra.Y, .int .i64 ra.W, .int .i64 ra.H])) _
        simp only [Act.put, List.setIfInBounds_toArray, List.set_cons_zero, List.set_cons_succ]
        refine wpAnyH_take (i := 11) (oi := _) (v := .agg #[.int .i64 rm.X, .int .i64 rm.Y, .int .i64 rm.W, .int .i64 rm.H]) rfl (by kernel_rfl) (by kernel_rfl) (by kernel_rfl) (fun _ _ _ h => h) (Or.inl ⟨by rfl, ?_⟩) hT104 ?_
        · intro wv hSw
          go_simp
        change wpAnyH _ _ _ _ _ _ _ (Act.put _ (some 56) (.agg #[.int .i64 rm.X, .int .i64 rm.Y, .int .i64 rm.W, .int .i64 rm.H])) _
        simp only [Act.put, List.setIfInBounds_toArray, List.set_cons_zero, List.set_cons_succ]
        refine wpAnyH_take (i := 12) (oi := _) (v := .agg #[.int .i64 rb.X, .int .i64 rb.Y, .int .i64 rb.W, .int .i64 rb.H]) rfl (by kernel_rfl) (by kernel_rfl) (by kernel_rfl) (fun _ _ _ h => h) (Or.inl ⟨by rfl, ?_⟩) hT104 ?_
        · intro wv hSw
          go_simp
        change wpAnyH _ _ _ _ _ _ _ (Act.put _ (some 57) (.agg #[.int .i64 rb.X, .int .i64 rb.Y, .int .i64 rb.W, .int .i64 rb.H])) _
        simp only [Act.put, List.setIfInBounds_toArray, List.set_cons_zero, List.set_cons_succ]
        refine wpAnyH_take (i := 13) (oi := _) (v := .bool true) rfl (by kernel_rfl) (by kernel_rfl) (by kernel_rfl) (fun _ _ _ h => h) (Or.inl ⟨by rfl, ?_⟩) hT104 ?_
        · intro wv hSw
          go_simp
        change wpAnyH _ _ _ _ _ _ _ (Act.put _ (some 58) (.bool true)) _
        simp only [Act.put, List.setIfInBounds_toArray, List.set_cons_zero, List.set_cons_succ]
        refine wpAnyH_ready (rs := [14, 15]) (by kernel_rfl) (by simp) ?_
        refine AllReadyH.cons (o := _) rfl (fun K hK => ?_) (AllReadyH.cons (o := _) rfl (fun K hK => ?_) AllReadyH.nil)
        · go_simp
          have gz := below_new u104 (.cells #[.int .i64 0, .int .i64 0, .int .i64 0, .int .i64 0] 48)
          have b105 := b104.trans (gz.mono (Nat.le_trans KQ.out.size b104.size))
          have fB105 := RB.alloc fB104 (.cells #[.int .i64 0, .int .i64 0, .int .i64 0, .int .i64 0] 48)
          have oB105 := RB.lt fB104
          have fA105 := RB.new u104 ⟨0, 0, 0, 0⟩
          have s105 := b104.size
          refine hK.out _ _ (by exact b105) (fun hT105 => ?_)
          clear hK K gz
          try simp only [Act.put, List.setIfInBounds_toArray, List.set_cons_zero, List.set_cons_succ]
          generalize (u104.alloc (.cells #[.int .i64 0, .int .i64 0, .int .i64 0, .int .i64 0] 48)) = u105 at *
          generalize u104.heap.size = gA105 at *
          refine wpAnyH_ready (rs := [15]) (by kernel_rfl) (by simp) ?_
          refine AllReadyH.cons (o := _) rfl (fun K hK => ?_) AllReadyH.nil
          go_simp
          have gz := below_new u105 (.cells #[.int .i64 0, .int .i64 0, .int .i64 0, .int .i64 0] 48)
          have b106 := b105.trans (gz.mono (Nat.le_trans KQ.out.size b105.size))
          have fB106 := RB.alloc fB105 (.cells #[.int .i64 0, .int .i64 0, .int .i64 0, .int .i64 0] 48)
          have oB106 := RB.lt fB105
          have fA106 := RB.alloc fA105 (.cells #[.int .i64 0, .int .i64 0, .int .i64 0, .int .i64 0] 48)
          have oA106 := RB.lt fA105
          have fM106 := RB.new u105 ⟨0, 0, 0, 0⟩
          have s106 := b105.size
          refine hK.out _ _ (by exact b106) (fun hT106 => ?_)
          clear hK K gz
          try simp only [Act.put, List.setIfInBounds_toArray, List.set_cons_zero, List.set_cons_succ]
          generalize (u105.alloc (.cells #[.int .i64 0, .int .i64 0, .int .i64 0, .int .i64 0] 48)) = u106 at *
          generalize u105.heap.size = gM106 at *
          refine wpAnyH_ready (rs := [17]) (by kernel_rfl) (by simp) ?_
          refine AllReadyH.cons (o := _) rfl (fun K hK => ?_) AllReadyH.nil
          obtain ⟨z0, z1, z2, z3, zf⟩ := rb0 fA106
          have fB107 := rb_far fB106 (show gB103 ≠ gA105 by omega) ra
          have fM107 := rb_far fM106 (show gM106 ≠ gA105 by omega) ra
          have fA107 := rb_put fA106 ra
          have b107 := rb_bel b106 (show wq.heap.size ≤ gA105 by omega) ra
          go_simp
          refine hK.out _ _ (by exact b107) (fun hT107 => ?_)
          clear hK K z0 z1 z2 z3 zf
          try simp only [Act.put, List.setIfInBounds_toArray, List.set_cons_zero, List.set_cons_succ]
          generalize ((((u106.setCell ⟨gA105, 0, none⟩ (.int .i64 ra.X)).setCell ⟨gA105, 1, none⟩ (.int .i64 ra.Y)).setCell ⟨gA105, 2, none⟩ (.int .i64 ra.W)).setCell ⟨gA105, 3, none⟩ (.int .i64 ra.H)) = u107 at *
          refine wpAnyH_ready (rs := [18]) (by kernel_rfl) (by simp) ?_
          refine AllReadyH.cons (o := _) rfl (fun K hK => ?_) AllReadyH.nil
          obtain ⟨z0, z1, z2, z3, zf⟩ := rb0 fM107
          have fB108 := rb_far fB107 (show gB103 ≠ gM106 by omega) rm
          have fA108 := rb_far fA107 (show gA105 ≠ gM106 by omega) rm
          have b108 := rb_bel b107 (show wq.heap.size ≤ gM106 by omega) rm
          go_simp
          refine hK.out _ _ (by exact b108) (fun hT108 => ?_)
          clear hK K z0 z1 z2 z3 zf
          try simp only [Act.put, List.setIfInBounds_toArray, List.set_cons_zero, List.set_cons_succ]
          generalize ((((u107.setCell ⟨gM106, 0, none⟩ (.int .i64 rm.X)).setCell ⟨gM106, 1, none⟩ (.int .i64 rm.Y)).setCell ⟨gM106, 2, none⟩ (.int .i64 rm.W)).setCell ⟨gM106, 3, none⟩ (.int .i64 rm.H)) = u108 at *
          refine wpAnyH_ready (rs := [19]) (by kernel_rfl) (by simp) ?_
          refine AllReadyH.cons (o := _) rfl (fun K hK => ?_) AllReadyH.nil
          obtain ⟨z0, z1, z2, z3, zf⟩ := rb0 fB108
          have fA109 := rb_far fA108 (show gA105 ≠ gB103 by omega) rb
          have fB109 := rb_put fB108 rb
          have b109 := rb_bel b108 (show wq.heap.size ≤ gB103 by omega) rb
          go_simp
          refine hK.out _ _ (by exact b109) (fun hT109 => ?_)
          clear hK K z0 z1 z2 z3 zf
          try simp only [Act.put, List.setIfInBounds_toArray, List.set_cons_zero, List.set_cons_succ]
          refine wpAnyH_take (i := 20) (oi := _) (v := .bool true) rfl (by kernel_rfl) (by kernel_rfl) (by kernel_rfl) (fun _ _ _ h => h) (Or.inl ⟨by rfl, ?_⟩) hT109 ?_
          · intro wv hSw
            go_simp
          change wpAnyH _ _ _ _ _ _ _ (Act.put _ (some 11) (.bool true)) _
          simp only [Act.put, List.setIfInBounds_toArray, List.set_cons_zero, List.set_cons_succ]
          refine wpAnyH_done (by kernel_rfl) ?_ _
          go_wp2_with fail
          go_meet
          exact ⟨gA105, gB103, rfl, rfl, by omega, by omega, fA109, fB109, KQ.out.trans b109⟩
        go_simp
        have gz := below_new u104 (.cells #[.int .i64 0, .int .i64 0, .int .i64 0, .int .i64 0] 48)
        have b110 := b104.trans (gz.mono (Nat.le_trans KQ.out.size b104.size))
        have fB110 := RB.alloc fB104 (.cells #[.int .i64 0, .int .i64 0, .int .i64 0, .int .i64 0] 48)
        have oB110 := RB.lt fB104
        have fM110 := RB.new u104 ⟨0, 0, 0, 0⟩
        have s110 := b104.size
        refine hK.out _ _ (by exact b110) (fun hT110 => ?_)
        clear hK K gz
        try simp only [Act.put, List.setIfInBounds_toArray, List.set_cons_zero, List.set_cons_succ]
        generalize (u104.alloc (.cells #[.int .i64 0, .int .i64 0, .int .i64 0, .int .i64 0] 48)) = u110 at *
        generalize u104.heap.size = gM110 at *
        refine wpAnyH_ready (rs := [14]) (by kernel_rfl) (by simp) ?_
        refine AllReadyH.cons (o := _) rfl (fun K hK => ?_) AllReadyH.nil
        go_simp
        have gz := below_new u110 (.cells #[.int .i64 0, .int .i64 0, .int .i64 0, .int .i64 0] 48)
        have b111 := b110.trans (gz.mono (Nat.le_trans KQ.out.size b110.size))
        have fB111 := RB.alloc fB110 (.cells #[.int .i64 0, .int .i64 0, .int .i64 0, .int .i64 0] 48)
        have oB111 := RB.lt fB110
        have fM111 := RB.alloc fM110 (.cells #[.int .i64 0, .int .i64 0, .int .i64 0, .int .i64 0] 48)
        have oM111 := RB.lt fM110
        have fA111 := RB.new u110 ⟨0, 0, 0, 0⟩
        have s111 := b110.size
        refine hK.out _ _ (by exact b111) (fun hT111 => ?_)
        clear hK K gz
        try simp only [Act.put, List.setIfInBounds_toArray, List.set_cons_zero, List.set_cons_succ]
        generalize (u110.alloc (.cells #[.int .i64 0, .int .i64 0, .int .i64 0, .int .i64 0] 48)) = u111 at *
        generalize u110.heap.size = gA111 at *
        refine wpAnyH_ready (rs := [17]) (by kernel_rfl) (by simp) ?_
        refine AllReadyH.cons (o := _) rfl (fun K hK => ?_) AllReadyH.nil
        obtain ⟨z0, z1, z2, z3, zf⟩ := rb0 fA111
        have fB112 := rb_far fB111 (show gB103 ≠ gA111 by omega) ra
        have fM112 := rb_far fM111 (show gM110 ≠ gA111 by omega) ra
        have fA112 := rb_put fA111 ra
        have b112 := rb_bel b111 (show wq.heap.size ≤ gA111 by omega) ra
        go_simp
        refine hK.out _ _ (by exact b112) (fun hT112 => ?_)
        clear hK K z0 z1 z2 z3 zf
        try simp only [Act.put, List.setIfInBounds_toArray, List.set_cons_zero, List.set_cons_succ]
        generalize ((((u111.setCell ⟨gA111, 0, none⟩ (.int .i64 ra.X)).setCell ⟨gA111, 1, none⟩ (.int .i64 ra.Y)).setCell ⟨gA111, 2, none⟩ (.int .i64 ra.W)).setCell ⟨gA111, 3, none⟩ (.int .i64 ra.H)) = u112 at *
        refine wpAnyH_ready (rs := [18]) (by kernel_rfl) (by simp) ?_
        refine AllReadyH.cons (o := _) rfl (fun K hK => ?_) AllReadyH.nil
        obtain ⟨z0, z1, z2, z3, zf⟩ := rb0 fM112
        have fB113 := rb_far fB112 (show gB103 ≠ gM110 by omega) rm
        have fA113 := rb_far fA112 (show gA111 ≠ gM110 by omega) rm
        have b113 := rb_bel b112 (show wq.heap.size ≤ gM110 by omega) rm
        go_simp
        refine hK.out _ _ (by exact b113) (fun hT113 => ?_)
        clear hK K z0 z1 z2 z3 zf
        try simp only [Act.put, List.setIfInBounds_toArray, List.set_cons_zero, List.set_cons_succ]
        generalize ((((u112.setCell ⟨gM110, 0, none⟩ (.int .i64 rm.X)).setCell ⟨gM110, 1, none⟩ (.int .i64 rm.Y)).setCell ⟨gM110, 2, none⟩ (.int .i64 rm.W)).setCell ⟨gM110, 3, none⟩ (.int .i64 rm.H)) = u113 at *
        refine wpAnyH_ready (rs := [19]) (by kernel_rfl) (by simp) ?_
        refine AllReadyH.cons (o := _) rfl (fun K hK => ?_) AllReadyH.nil
        obtain ⟨z0, z1, z2, z3, zf⟩ := rb0 fB113
        have fA114 := rb_far fA113 (show gA111 ≠ gB103 by omega) rb
        have fB114 := rb_put fB113 rb
        have b114 := rb_bel b113 (show wq.heap.size ≤ gB103 by omega) rb
        go_simp
        refine hK.out _ _ (by exact b114) (fun hT114 => ?_)
        clear hK K z0 z1 z2 z3 zf
        try simp only [Act.put, List.setIfInBounds_toArray, List.set_cons_zero, List.set_cons_succ]
        refine wpAnyH_take (i := 20) (oi := _) (v := .bool true) rfl (by kernel_rfl) (by kernel_rfl) (by kernel_rfl) (fun _ _ _ h => h) (Or.inl ⟨by rfl, ?_⟩) hT114 ?_
        · intro wv hSw
          go_simp
        change wpAnyH _ _ _ _ _ _ _ (Act.put _ (some 11) (.bool true)) _
        simp only [Act.put, List.setIfInBounds_toArray, List.set_cons_zero, List.set_cons_succ]
        refine wpAnyH_done (by kernel_rfl) ?_ _
        go_wp2_with fail
        go_meet
        exact ⟨gA111, gB103, rfl, rfl, by omega, by omega, fA114, fB114, KQ.out.trans b114⟩
      · go_simp
        have gz := below_new u103 (.cells #[.int .i64 0, .int .i64 0, .int .i64 0, .int .i64 0] 48)
        have b115 := b103.trans (gz.mono (Nat.le_trans KQ.out.size b103.size))
        have fB115 := RB.alloc fB103 (.cells #[.int .i64 0, .int .i64 0, .int .i64 0, .int .i64 0] 48)
        have oB115 := RB.lt fB103
        have fA115 := RB.new u103 ⟨0, 0, 0, 0⟩
        have s115 := b103.size
        refine hK.out _ _ (by exact b115) (fun hT115 => ?_)
        clear hK K gz
        try simp only [Act.put, List.setIfInBounds_toArray, List.set_cons_zero, List.set_cons_succ]
        generalize (u103.alloc (.cells #[.int .i64 0, .int .i64 0, .int .i64 0, .int .i64 0] 48)) = u115 at *
        generalize u103.heap.size = gA115 at *
        refine wpAnyH_ready (rs := [8, 15]) (by kernel_rfl) (by simp) ?_
        refine AllReadyH.cons (o := _) rfl (fun K hK => ?_) (AllReadyH.cons (o := _) rfl (fun K hK => ?_) AllReadyH.nil)
        · go_simp
          refine (HC.out _).mono ?_
          rintro e u116 ⟨rfl, hb⟩
          have b116 := b115.trans (hb.mono (Nat.le_trans KQ.out.size b115.size))
          have fB116 := RB.below fB115 hb (RB.lt fB115)
          have fA116 := RB.below fA115 hb (RB.lt fA115)
          refine hK.out _ _ (by exact b116) (fun hT116 => ?_)
          clear hK K hb
          try simp only [Act.put, List.setIfInBounds_toArray, List.set_cons_zero, List.set_cons_succ]
          refine wpAnyH_take (i := 9) (oi := _) (v := .tuple #[.agg #[.int .i64 ra.X, .int .i64 ra.Y, .int .i64 ra.W, .int .i64 ra.H], .agg #[.int .i64 rm.X, .int .i64 rm.Y, .int .i64 rm.W, .int .i64 rm.H], .agg #[.int .i64 rb.X, .int .i64 rb.Y, .int .i64 rb.W, .int .i64 rb.H], .bool true]) rfl (by kernel_rfl) (by kernel_rfl) (by kernel_rfl) (fun _ _ _ h => h) (Or.inl ⟨by rfl, ?_⟩) hT116 ?_
          · intro wv hSw
            go_simp
          change wpAnyH _ _ _ _ _ _ _ (Act.put _ (some 45) (.tuple #[.agg #[.int .i64 ra.X, .int .i64 ra.Y, .int .i64 ra.W, .int .i64 ra.H], .agg #[.int .i64 rm.X, .int .i64 rm.Y, .int .i64 rm.W, .int .i64 rm.H], .agg #[.int .i64 rb.X, .int .i64 rb.Y, .int .i64 rb.W, .int .i64 rb.H], .bool true])) _
          simp only [Act.put, List.setIfInBounds_toArray, List.set_cons_zero, List.set_cons_succ]
          refine wpAnyH_take (i := 10) (oi := _) (v := .agg #[.int .i64 ra.X, .int .i64 ra.Y, .int .i64 ra.W, .int .i64 ra.H]) rfl (by kernel_rfl) (by kernel_rfl) (by kernel_rfl) (fun _ _ _ h => h) (Or.inl ⟨by rfl, ?_⟩) hT116 ?_
          · intro wv hSw
            go_simp
          change wpAnyH _ _ _ _ _ _ _ (Act.put _ (some 55) (.agg #[.int .i64 ra.X, .int .i64 ra.Y, .int .i64 ra.W, .int .i64 ra.H])) _
          simp only [Act.put, List.setIfInBounds_toArray, List.set_cons_zero, List.set_cons_succ]
          refine wpAnyH_take (i := 11) (oi := _) (v := .agg #[.int .i64 rm.X, .int .i64 rm.Y, .int .i64 rm.W, .int .i64 rm.H]) rfl (by kernel_rfl) (by kernel_rfl) (by kernel_rfl) (fun _ _ _ h => h) (Or.inl ⟨by rfl, ?_⟩) hT116 ?_
          · intro wv hSw
            go_simp
          change wpAnyH _ _ _ _ _ _ _ (Act.put _ (some 56) (.agg #[.int .i64 rm.X, .int .i64 rm.Y, .int .i64 rm.W, .int .i64 rm.H])) _
          simp only [Act.put, List.setIfInBounds_toArray, List.set_cons_zero, List.set_cons_succ]
          refine wpAnyH_take (i := 12) (oi := _) (v := .agg #[.int .i64 rb.X, .int .i64 rb.Y, .int .i64 rb.W, .int .i64 rb.H]) rfl (by kernel_rfl) (by kernel_rfl) (by kernel_rfl) (fun _ _ _ h => h) (Or.inl ⟨by rfl, ?_⟩) hT116 ?_
          · intro wv hSw
            go_simp
          change wpAnyH _ _ _ _ _ _ _ (Act.put _ (some 57) (.agg #[.int .i64 rb.X, .int .i64 rb.Y, .int .i64 rb.W, .int .i64 rb.H])) _
          simp only [Act.put, List.setIfInBounds_toArray, List.set_cons_zero, List.set_cons_succ]
          refine wpAnyH_take (i := 13) (oi := _) (v := .bool true) rfl (by kernel_rfl) (by kernel_rfl) (by kernel_rfl) (fun _ _ _ h => h) (Or.inl ⟨by rfl, ?_⟩) hT116 ?_
          · intro wv hSw
            go_simp
          change wpAnyH _ _ _ _ _ _ _ (Act.put _ (some 58) (.bool true)) _
          simp only [Act.put, List.setIfInBounds_toArray, List.set_cons_zero, List.set_cons_succ]
          refine wpAnyH_ready (rs := [15]) (by kernel_rfl) (by simp) ?_
          refine AllReadyH.cons (o := _) rfl (fun K hK => ?_) AllReadyH.nil
          go_simp
          have gz := below_new u116 (.cells #[.int .i64 0, .int .i64 0, .int .i64 0, .int .i64 0] 48)
          have b117 := b116.trans (gz.mono (Nat.le_trans KQ.out.size b116.size))
          have fB117 := RB.alloc fB116 (.cells #[.int .i64 0, .int .i64 0, .int .i64 0, .int .i64 0] 48)
          have oB117 := RB.lt fB116
          have fA117 := RB.alloc fA116 (.cells #[.int .i64 0, .int .i64 0, .int .i64 0, .int .i64 0] 48)
          have oA117 := RB.lt fA116
          have fM117 := RB.new u116 ⟨0, 0, 0, 0⟩
          have s117 := b116.size
          refine hK.out _ _ (by exact b117) (fun hT117 => ?_)
          clear hK K gz
          try simp only [Act.put, List.setIfInBounds_toArray, List.set_cons_zero, List.set_cons_succ]
          generalize (u116.alloc (.cells #[.int .i64 0, .int .i64 0, .int .i64 0, .int .i64 0] 48)) = u117 at *
          generalize u116.heap.size = gM117 at *
          refine wpAnyH_ready (rs := [17]) (by kernel_rfl) (by simp) ?_
          refine AllReadyH.cons (o := _) rfl (fun K hK => ?_) AllReadyH.nil
          obtain ⟨z0, z1, z2, z3, zf⟩ := rb0 fA117
          have fB118 := rb_far fB117 (show gB103 ≠ gA115 by omega) ra
          have fM118 := rb_far fM117 (show gM117 ≠ gA115 by omega) ra
          have fA118 := rb_put fA117 ra
          have b118 := rb_bel b117 (show wq.heap.size ≤ gA115 by omega) ra
          go_simp
          refine hK.out _ _ (by exact b118) (fun hT118 => ?_)
          clear hK K z0 z1 z2 z3 zf
          try simp only [Act.put, List.setIfInBounds_toArray, List.set_cons_zero, List.set_cons_succ]
          generalize ((((u117.setCell ⟨gA115, 0, none⟩ (.int .i64 ra.X)).setCell ⟨gA115, 1, none⟩ (.int .i64 ra.Y)).setCell ⟨gA115, 2, none⟩ (.int .i64 ra.W)).setCell ⟨gA115, 3, none⟩ (.int .i64 ra.H)) = u118 at *
          refine wpAnyH_ready (rs := [18]) (by kernel_rfl) (by simp) ?_
          refine AllReadyH.cons (o := _) rfl (fun K hK => ?_) AllReadyH.nil
          obtain ⟨z0, z1, z2, z3, zf⟩ := rb0 fM118
          have fB119 := rb_far fB118 (show gB103 ≠ gM117 by omega) rm
          have fA119 := rb_far fA118 (show gA115 ≠ gM117 by omega) rm
          have b119 := rb_bel b118 (show wq.heap.size ≤ gM117 by omega) rm
          go_simp
          refine hK.out _ _ (by exact b119) (fun hT119 => ?_)
          clear hK K z0 z1 z2 z3 zf
          try simp only [Act.put, List.setIfInBounds_toArray, List.set_cons_zero, List.set_cons_succ]
          generalize ((((u118.setCell ⟨gM117, 0, none⟩ (.int .i64 rm.X)).setCell ⟨gM117, 1, none⟩ (.int .i64 rm.Y)).setCell ⟨gM117, 2, none⟩ (.int .i64 rm.W)).setCell ⟨gM117, 3, none⟩ (.int .i64 rm.H)) = u119 at *
          refine wpAnyH_ready (rs := [19]) (by kernel_rfl) (by simp) ?_
          refine AllReadyH.cons (o := _) rfl (fun K hK => ?_) AllReadyH.nil
          obtain ⟨z0, z1, z2, z3, zf⟩ := rb0 fB119
          have fA120 := rb_far fA119 (show gA115 ≠ gB103 by omega) rb
          have fB120 := rb_put fB119 rb
          have b120 := rb_bel b119 (show wq.heap.size ≤ gB103 by omega) rb
          go_simp
          refine hK.out _ _ (by exact b120) (fun hT120 => ?_)
          clear hK K z0 z1 z2 z3 zf
          try simp only [Act.put, List.setIfInBounds_toArray, List.set_cons_zero, List.set_cons_succ]
          refine wpAnyH_take (i := 20) (oi := _) (v := .bool true) rfl (by kernel_rfl) (by kernel_rfl) (by kernel_rfl) (fun _ _ _ h => h) (Or.inl ⟨by rfl, ?_⟩) hT120 ?_
          · intro wv hSw
            go_simp
          change wpAnyH _ _ _ _ _ _ _ (Act.put _ (some 11) (.bool true)) _
          simp only [Act.put, List.setIfInBounds_toArray, List.set_cons_zero, List.set_cons_succ]
          refine wpAnyH_done (by kernel_rfl) ?_ _
          go_wp2_with fail
          go_meet
          exact ⟨gA115, gB103, rfl, rfl, by omega, by omega, fA120, fB120, KQ.out.trans b120⟩
        go_simp
        have gz := below_new u115 (.cells #[.int .i64 0, .int .i64 0, .int .i64 0, .int .i64 0] 48)
        have b121 := b115.trans (gz.mono (Nat.le_trans KQ.out.size b115.size))
        have fB121 := RB.alloc fB115 (.cells #[.int .i64 0, .int .i64 0, .int .i64 0, .int .i64 0] 48)
        have oB121 := RB.lt fB115
        have fA121 := RB.alloc fA115 (.cells #[.int .i64 0, .int .i64 0, .int .i64 0, .int .i64 0] 48)
        have oA121 := RB.lt fA115
        have fM121 := RB.new u115 ⟨0, 0, 0, 0⟩
        have s121 := b115.size
        refine hK.out _ _ (by exact b121) (fun hT121 => ?_)
        clear hK K gz
        try simp only [Act.put, List.setIfInBounds_toArray, List.set_cons_zero, List.set_cons_succ]
        generalize (u115.alloc (.cells #[.int .i64 0, .int .i64 0, .int .i64 0, .int .i64 0] 48)) = u121 at *
        generalize u115.heap.size = gM121 at *
        refine wpAnyH_ready (rs := [8]) (by kernel_rfl) (by simp) ?_
        refine AllReadyH.cons (o := _) rfl (fun K hK => ?_) AllReadyH.nil
        go_simp
        refine (HC.out _).mono ?_
        rintro e u122 ⟨rfl, hb⟩
        have b122 := b121.trans (hb.mono (Nat.le_trans KQ.out.size b121.size))
        have fB122 := RB.below fB121 hb (RB.lt fB121)
        have fA122 := RB.below fA121 hb (RB.lt fA121)
        have fM122 := RB.below fM121 hb (RB.lt fM121)
        refine hK.out _ _ (by exact b122) (fun hT122 => ?_)
        clear hK K hb
        try simp only [Act.put, List.setIfInBounds_toArray, List.set_cons_zero, List.set_cons_succ]
        refine wpAnyH_take (i := 9) (oi := _) (v := .tuple #[.agg #[.int .i64 ra.X, .int .i64 ra.Y, .int .i64 ra.W, .int .i64 ra.H], .agg #[.int .i64 rm.X, .int .i64 rm.Y, .int .i64 rm.W, .int .i64 rm.H], .agg #[.int .i64 rb.X, .int .i64 rb.Y, .int .i64 rb.W, .int .i64 rb.H], .bool true]) rfl (by kernel_rfl) (by kernel_rfl) (by kernel_rfl) (fun _ _ _ h => h) (Or.inl ⟨by rfl, ?_⟩) hT122 ?_
        · intro wv hSw
          go_simp
        change wpAnyH _ _ _ _ _ _ _ (Act.put _ (some 45) (.tuple #[.agg #[.int .i64 ra.X, .int .i64 ra.Y, .int .i64 ra.W, .int .i64 ra.H], .agg #[.int .i64 rm.X, .int .i64 rm.Y, .int .i64 rm.W, .int .i64 rm.H], .agg #[.int .i64 rb.X, .int .i64 rb.Y, .int .i64 rb.W, .int .i64 rb.H], .bool true])) _
        simp only [Act.put, List.setIfInBounds_toArray, List.set_cons_zero, List.set_cons_succ]
        refine wpAnyH_take (i := 10) (oi := _) (v := .agg #[.int .i64 ra.X, .int .i64 ra.Y, .int .i64 ra.W, .int .i64 ra.H]) rfl (by kernel_rfl) (by kernel_rfl) (by kernel_rfl) (fun _ _ _ h => h) (Or.inl ⟨by rfl, ?_⟩) hT122 ?_
        · intro wv hSw
          go_simp
        change wpAnyH _ _ _ _ _ _ _ (Act.put _ (some 55) (.agg #[.int .i64 ra.X, .int .i64 ra.Y, .int .i64 ra.W, .int .i64 ra.H])) _
        simp only [Act.put, List.setIfInBounds_toArray, List.set_cons_zero, List.set_cons_succ]
        refine wpAnyH_take (i := 11) (oi := _) (v := .agg #[.int .i64 rm.X, .int .i64 rm.Y, .int .i64 rm.W, .int .i64 rm.H]) rfl (by kernel_rfl) (by kernel_rfl) (by kernel_rfl) (fun _ _ _ h => h) (Or.inl ⟨by rfl, ?_⟩) hT122 ?_
        · intro wv hSw
          go_simp
        change wpAnyH _ _ _ _ _ _ _ (Act.put _ (some 56) (.agg #[.int .i64 rm.X, .int .i64 rm.Y, .int .i64 rm.W, .int .i64 rm.H])) _
        simp only [Act.put, List.setIfInBounds_toArray, List.set_cons_zero, List.set_cons_succ]
        refine wpAnyH_take (i := 12) (oi := _) (v := .agg #[.int .i64 rb.X, .int .i64 rb.Y, .int .i64 rb.W, .int .i64 rb.H]) rfl (by kernel_rfl) (by kernel_rfl) (by kernel_rfl) (fun _ _ _ h => h) (Or.inl ⟨by rfl, ?_⟩) hT122 ?_
        · intro wv hSw
          go_simp
        change wpAnyH _ _ _ _ _ _ _ (Act.put _ (some 57) (.agg #[.int .i64 rb.X, .int .i64 rb.Y, .int .i64 rb.W, .int .i64 rb.H])) _
        simp only [Act.put, List.setIfInBounds_toArray, List.set_cons_zero, List.set_cons_succ]
        refine wpAnyH_take (i := 13) (oi := _) (v := .bool true) rfl (by kernel_rfl) (by kernel_rfl) (by kernel_rfl) (fun _ _ _ h => h) (Or.inl ⟨by rfl, ?_⟩) hT122 ?_
        · intro wv hSw
          go_simp
        change wpAnyH _ _ _ _ _ _ _ (Act.put _ (some 58) (.bool true)) _
        simp only [Act.put, List.setIfInBounds_toArray, List.set_cons_zero, List.set_cons_succ]
        refine wpAnyH_ready (rs := [17]) (by kernel_rfl) (by simp) ?_
        refine AllReadyH.cons (o := _) rfl (fun K hK => ?_) AllReadyH.nil
        obtain ⟨z0, z1, z2, z3, zf⟩ := rb0 fA122
        have fB123 := rb_far fB122 (show gB103 ≠ gA115 by omega) ra
        have fM123 := rb_far fM122 (show gM121 ≠ gA115 by omega) ra
        have fA123 := rb_put fA122 ra
        have b123 := rb_bel b122 (show wq.heap.size ≤ gA115 by omega) ra
        go_simp
        refine hK.out _ _ (by exact b123) (fun hT123 => ?_)
        clear hK K z0 z1 z2 z3 zf
        try simp only [Act.put, List.setIfInBounds_toArray, List.set_cons_zero, List.set_cons_succ]
        generalize ((((u122.setCell ⟨gA115, 0, none⟩ (.int .i64 ra.X)).setCell ⟨gA115, 1, none⟩ (.int .i64 ra.Y)).setCell ⟨gA115, 2, none⟩ (.int .i64 ra.W)).setCell ⟨gA115, 3, none⟩ (.int .i64 ra.H)) = u123 at *
        refine wpAnyH_ready (rs := [18]) (by kernel_rfl) (by simp) ?_
        refine AllReadyH.cons (o := _) rfl (fun K hK => ?_) AllReadyH.nil
        obtain ⟨z0, z1, z2, z3, zf⟩ := rb0 fM123
        have fB124 := rb_far fB123 (show gB103 ≠ gM121 by omega) rm
        have fA124 := rb_far fA123 (show gA115 ≠ gM121 by omega) rm
        have b124 := rb_bel b123 (show wq.heap.size ≤ gM121 by omega) rm
        go_simp
        refine hK.out _ _ (by exact b124) (fun hT124 => ?_)
        clear hK K z0 z1 z2 z3 zf
        try simp only [Act.put, List.setIfInBounds_toArray, List.set_cons_zero, List.set_cons_succ]
        generalize ((((u123.setCell ⟨gM121, 0, none⟩ (.int .i64 rm.X)).setCell ⟨gM121, 1, none⟩ (.int .i64 rm.Y)).setCell ⟨gM121, 2, none⟩ (.int .i64 rm.W)).setCell ⟨gM121, 3, none⟩ (.int .i64 rm.H)) = u124 at *
        refine wpAnyH_ready (rs := [19]) (by kernel_rfl) (by simp) ?_
        refine AllReadyH.cons (o := _) rfl (fun K hK => ?_) AllReadyH.nil
        obtain ⟨z0, z1, z2, z3, zf⟩ := rb0 fB124
        have fA125 := rb_far fA124 (show gA115 ≠ gB103 by omega) rb
        have fB125 := rb_put fB124 rb
        have b125 := rb_bel b124 (show wq.heap.size ≤ gB103 by omega) rb
        go_simp
        refine hK.out _ _ (by exact b125) (fun hT125 => ?_)
        clear hK K z0 z1 z2 z3 zf
        try simp only [Act.put, List.setIfInBounds_toArray, List.set_cons_zero, List.set_cons_succ]
        refine wpAnyH_take (i := 20) (oi := _) (v := .bool true) rfl (by kernel_rfl) (by kernel_rfl) (by kernel_rfl) (fun _ _ _ h => h) (Or.inl ⟨by rfl, ?_⟩) hT125 ?_
        · intro wv hSw
          go_simp
        change wpAnyH _ _ _ _ _ _ _ (Act.put _ (some 11) (.bool true)) _
        simp only [Act.put, List.setIfInBounds_toArray, List.set_cons_zero, List.set_cons_succ]
        refine wpAnyH_done (by kernel_rfl) ?_ _
        go_wp2_with fail
        go_meet
        exact ⟨gA115, gB103, rfl, rfl, by omega, by omega, fA125, fB125, KQ.out.trans b125⟩
      go_simp
      have gz := below_new u103 (.cells #[.int .i64 0, .int .i64 0, .int .i64 0, .int .i64 0] 48)
      have b126 := b103.trans (gz.mono (Nat.le_trans KQ.out.size b103.size))
      have fB126 := RB.alloc fB103 (.cells #[.int .i64 0, .int .i64 0, .int .i64 0, .int .i64 0] 48)
      have oB126 := RB.lt fB103
      have fM126 := RB.new u103 ⟨0, 0, 0, 0⟩
      have s126 := b103.size
      refine hK.out _ _ (by exact b126) (fun hT126 => ?_)
      clear hK K gz
      try simp only [Act.put, List.setIfInBounds_toArray, List.set_cons_zero, List.set_cons_succ]
      generalize (u103.alloc (.cells #[.int .i64 0, .int .i64 0, .int .i64 0, .int .i64 0] 48)) = u126 at *
      generalize u103.heap.size = gM126 at *
      refine wpAnyH_ready (rs := [8, 14]) (by kernel_rfl) (by simp) ?_
      refine AllReadyH.cons (o := _) rfl (fun K hK => ?_) (AllReadyH.cons (o := _) rfl (fun K hK => ?_) AllReadyH.nil)
      · go_simp
        refine (HC.out _).mono ?_
        rintro e u127 ⟨rfl, hb⟩
        have b127 := b126.trans (hb.mono (Nat.le_trans KQ.out.size b126.size))
        have fB127 := RB.below fB126 hb (RB.lt fB126)
        have fM127 := RB.below fM126 hb (RB.lt fM126)
        refine hK.out _ _ (by exact b127) (fun hT127 => ?_)
        clear hK K hb
        try simp only [Act.put, List.setIfInBounds_toArray, List.set_cons_zero, List.set_cons_succ]
        refine wpAnyH_take (i := 9) (oi := _) (v := .tuple #[.agg #[.int .i64 ra.X, .int .i64 ra.Y, .int .i64 ra.W, .int .i64 ra.H], .agg #[.int .i64 rm.X, .int .i64 rm.Y, .int .i64 rm.W, .int .i64 rm.H], .agg #[.int .i64 rb.X, .int .i64 rb.Y, .int .i64 rb.W, .int .i64 rb.H], .bool true]) rfl (by kernel_rfl) (by kernel_rfl) (by kernel_rfl) (fun _ _ _ h => h) (Or.inl ⟨by rfl, ?_⟩) hT127 ?_
        · intro wv hSw
          go_simp
        change wpAnyH _ _ _ _ _ _ _ (Act.put _ (some 45) (.tuple #[.agg #[.int .i64 ra.X, .int .i64 ra.Y, .int .i64 ra.W, .int .i64 ra.H], .agg #[.int .i64 rm.X, .int .i64 rm.Y, .int .i64 rm.W, .int .i64 rm.H], .agg #[.int .i64 rb.X, .int .i64 rb.Y, .int .i64 rb.W, .int .i64 rb.H], .bool true])) _
        simp only [Act.put, List.setIfInBounds_toArray, List.set_cons_zero, List.set_cons_succ]
        refine wpAnyH_take (i := 10) (oi := _) (v := .agg #[.int .i64 ra.X, .int .i64 ra.Y, .int .i64 ra.W, .int .i64 ra.H]) rfl (by kernel_rfl) (by kernel_rfl) (by kernel_rfl) (fun _ _ _ h => h) (Or.inl ⟨by rfl, ?_⟩) hT127 ?_
        · intro wv hSw
          go_simp
        change wpAnyH _ _ _ _ _ _ _ (Act.put _ (some 55) (.agg #[.int .i64 ra.X, .int .i64 ra.Y, .int .i64 ra.W, .int .i64 ra.H])) _
        simp only [Act.put, List.setIfInBounds_toArray, List.set_cons_zero, List.set_cons_succ]
        refine wpAnyH_take (i := 11) (oi := _) (v := .agg #[.int .i64 rm.X, .int .i64 rm.Y, .int .i64 rm.W, .int .i64 rm.H]) rfl (by kernel_rfl) (by kernel_rfl) (by kernel_rfl) (fun _ _ _ h => h) (Or.inl ⟨by rfl, ?_⟩) hT127 ?_
        · intro wv hSw
          go_simp
        change wpAnyH _ _ _ _ _ _ _ (Act.put _ (some 56) (.agg #[.int .i64 rm.X, .int .i64 rm.Y, .int .i64 rm.W, .int .i64 rm.H])) _
        simp only [Act.put, List.setIfInBounds_toArray, List.set_cons_zero, List.set_cons_succ]
        refine wpAnyH_take (i := 12) (oi := _) (v := .agg #[.int .i64 rb.X, .int .i64 rb.Y, .int .i64 rb.W, .int .i64 rb.H]) rfl (by kernel_rfl) (by kernel_rfl) (by kernel_rfl) (fun _ _ _ h => h) (Or.inl ⟨by rfl, ?_⟩) hT127 ?_
        · intro wv hSw
          go_simp
        change wpAnyH _ _ _ _ _ _ _ (Act.put _ (some 57) (.agg #[.int .i64 rb.X, .int .i64 rb.Y, .int .i64 rb.W, .int .i64 rb.H])) _
        simp only [Act.put, List.setIfInBounds_toArray, List.set_cons_zero, List.set_cons_succ]
        refine wpAnyH_take (i := 13) (oi := _) (v := .bool true) rfl (by kernel_rfl) (by kernel_rfl) (by kernel_rfl) (fun _ _ _ h => h) (Or.inl ⟨by rfl, ?_⟩) hT127 ?_
        · intro wv hSw
          go_simp
        change wpAnyH _ _ _ _ _ _ _ (Act.put _ (some 58) (.bool true)) _
        simp only [Act.put, List.setIfInBounds_toArray, List.set_cons_zero, List.set_cons_succ]
        refine wpAnyH_ready (rs := [14]) (by kernel_rfl) (by simp) ?_
        refine AllReadyH.cons (o := _) rfl (fun K hK => ?_) AllReadyH.nil
        go_simp
        have gz := below_new u127 (.cells #[.int .i64 0, .int .i64 0, .int .i64 0, .int .i64 0] 48)
        have b128 := b127.trans (gz.mono (Nat.le_trans KQ.out.size b127.size))
        have fB128 := RB.alloc fB127 (.cells #[.int .i64 0, .int .i64 0, .int .i64 0, .int .i64 0] 48)
        have oB128 := RB.lt fB127
        have fM128 := RB.alloc fM127 (.cells #[.int .i64 0, .int .i64 0, .int .i64 0, .int .i64 0] 48)
        have oM128 := RB.lt fM127
        have fA128 := RB.new u127 ⟨0, 0, 0, 0⟩
        have s128 := b127.size
        refine hK.out _ _ (by exact b128) (fun hT128 => ?_)
        clear hK K gz
        try simp only [Act.put, List.setIfInBounds_toArray, List.set_cons_zero, List.set_cons_succ]
        generalize (u127.alloc (.cells #[.int .i64 0, .int .i64 0, .int .i64 0, .int .i64 0] 48)) = u128 at *
        generalize u127.heap.size = gA128 at *
        refine wpAnyH_ready (rs := [17]) (by kernel_rfl) (by simp) ?_
        refine AllReadyH.cons (o := _) rfl (fun K hK => ?_) AllReadyH.nil
        obtain ⟨z0, z1, z2, z3, zf⟩ := rb0 fA128
        have fB129 := rb_far fB128 (show gB103 ≠ gA128 by omega) ra
        have fM129 := rb_far fM128 (show gM126 ≠ gA128 by omega) ra
        have fA129 := rb_put fA128 ra
        have b129 := rb_bel b128 (show wq.heap.size ≤ gA128 by omega) ra
        go_simp
        refine hK.out _ _ (by exact b129) (fun hT129 => ?_)
        clear hK K z0 z1 z2 z3 zf
        try simp only [Act.put, List.setIfInBounds_toArray, List.set_cons_zero, List.set_cons_succ]
        generalize ((((u128.setCell ⟨gA128, 0, none⟩ (.int .i64 ra.X)).setCell ⟨gA128, 1, none⟩ (.int .i64 ra.Y)).setCell ⟨gA128, 2, none⟩ (.int .i64 ra.W)).setCell ⟨gA128, 3, none⟩ (.int .i64 ra.H)) = u129 at *
        refine wpAnyH_ready (rs := [18]) (by kernel_rfl) (by simp) ?_
        refine AllReadyH.cons (o := _) rfl (fun K hK => ?_) AllReadyH.nil
        obtain ⟨z0, z1, z2, z3, zf⟩ := rb0 fM129
        have fB130 := rb_far fB129 (show gB103 ≠ gM126 by omega) rm
        have fA130 := rb_far fA129 (show gA128 ≠ gM126 by omega) rm
        have b130 := rb_bel b129 (show wq.heap.size ≤ gM126 by omega) rm
        go_simp
        refine hK.out _ _ (by exact b130) (fun hT130 => ?_)
        clear hK K z0 z1 z2 z3 zf
        try simp only [Act.put, List.setIfInBounds_toArray, List.set_cons_zero, List.set_cons_succ]
        generalize ((((u129.setCell ⟨gM126, 0, none⟩ (.int .i64 rm.X)).setCell ⟨gM126, 1, none⟩ (.int .i64 rm.Y)).setCell ⟨gM126, 2, none⟩ (.int .i64 rm.W)).setCell ⟨gM126, 3, none⟩ (.int .i64 rm.H)) = u130 at *
        refine wpAnyH_ready (rs := [19]) (by kernel_rfl) (by simp) ?_
        refine AllReadyH.cons (o := _) rfl (fun K hK => ?_) AllReadyH.nil
        obtain ⟨z0, z1, z2, z3, zf⟩ := rb0 fB130
        have fA131 := rb_far fA130 (show gA128 ≠ gB103 by omega) rb
        have fB131 := rb_put fB130 rb
        have b131 := rb_bel b130 (show wq.heap.size ≤ gB103 by omega) rb
        go_simp
        refine hK.out _ _ (by exact b131) (fun hT131 => ?_)
        clear hK K z0 z1 z2 z3 zf
        try simp only [Act.put, List.setIfInBounds_toArray, List.set_cons_zero, List.set_cons_succ]
        refine wpAnyH_take (i := 20) (oi := _) (v := .bool true) rfl (by kernel_rfl) (by kernel_rfl) (by kernel_rfl) (fun _ _ _ h => h) (Or.inl ⟨by rfl, ?_⟩) hT131 ?_
        · intro wv hSw
          go_simp
        change wpAnyH _ _ _ _ _ _ _ (Act.put _ (some 11) (.bool true)) _
        simp only [Act.put, List.setIfInBounds_toArray, List.set_cons_zero, List.set_cons_succ]
        refine wpAnyH_done (by kernel_rfl) ?_ _
        go_wp2_with fail
        go_meet
        exact ⟨gA128, gB103, rfl, rfl, by omega, by omega, fA131, fB131, KQ.out.trans b131⟩
      go_simp
      have gz := below_new u126 (.cells #[.int .i64 0, .int .i64 0, .int .i64 0, .int .i64 0] 48)
      have b132 := b126.trans (gz.mono (Nat.le_trans KQ.out.size b126.size))
      have fB132 := RB.alloc fB126 (.cells #[.int .i64 0, .int .i64 0, .int .i64 0, .int .i64 0] 48)
      have oB132 := RB.lt fB126
      have fM132 := RB.alloc fM126 (.cells #[.int .i64 0, .int .i64 0, .int .i64 0, .int .i64 0] 48)
      have oM132 := RB.lt fM126
      have fA132 := RB.new u126 ⟨0, 0, 0, 0⟩
      have s132 := b126.size
      refine hK.out _ _ (by exact b132) (fun hT132 => ?_)
      clear hK K gz
      try simp only [Act.put, List.setIfInBounds_toArray, List.set_cons_zero, List.set_cons_succ]
      generalize (u126.alloc (.cells #[.int .i64 0, .int .i64 0, .int .i64 0, .int .i64 0] 48)) = u132 at *
      generalize u126.heap.size = gA132 at *
      refine wpAnyH_ready (rs := [8]) (by kernel_rfl) (by simp) ?_
      refine AllReadyH.cons (o := _) rfl (fun K hK => ?_) AllReadyH.nil
      go_simp
      refine (HC.out _).mono ?_
      rintro e u133 ⟨rfl, hb⟩
      have b133 := b132.trans (hb.mono (Nat.le_trans KQ.out.size b132.size))
      have fB133 := RB.below fB132 hb (RB.lt fB132)
      have fM133 := RB.below fM132 hb (RB.lt fM132)
      have fA133 := RB.below fA132 hb (RB.lt fA132)
      refine hK.out _ _ (by exact b133) (fun hT133 => ?_)
      clear hK K hb
      try simp only [Act.put, List.setIfInBounds_toArray, List.set_cons_zero, List.set_cons_succ]
      refine wpAnyH_take (i := 9) (oi := _) (v := .tuple #[.agg #[.int .i64 ra.X, .int .i64 ra.Y, .int .i64 ra.W, .int .i64 ra.H], .agg #[.int .i64 rm.X, .int .i64 rm.Y, .int .i64 rm.W, .int .i64 rm.H], .agg #[.int .i64 rb.X, .int .i64 rb.Y, .int .i64 rb.W, .int .i64 rb.H], .bool true]) rfl (by kernel_rfl) (by kernel_rfl) (by kernel_rfl) (fun _ _ _ h => h) (Or.inl ⟨by rfl, ?_⟩) hT133 ?_
      · intro wv hSw
        go_simp
      change wpAnyH _ _ _ _ _ _ _ (Act.put _ (some 45) (.tuple #[.agg #[.int .i64 ra.X, .int .i64 ra.Y, .int .i64 ra.W, .int .i64 ra.H], .agg #[.int .i64 rm.X, .int .i64 rm.Y, .int .i64 rm.W, .int .i64 rm.H], .agg #[.int .i64 rb.X, .int .i64 rb.Y, .int .i64 rb.W, .int .i64 rb.H], .bool true])) _
      simp only [Act.put, List.setIfInBounds_toArray, List.set_cons_zero, List.set_cons_succ]
      refine wpAnyH_take (i := 10) (oi := _) (v := .agg #[.int .i64 ra.X, .int .i64 ra.Y, .int .i64 ra.W, .int .i64 ra.H]) rfl (by kernel_rfl) (by kernel_rfl) (by kernel_rfl) (fun _ _ _ h => h) (Or.inl ⟨by rfl, ?_⟩) hT133 ?_
      · intro wv hSw
        go_simp
      change wpAnyH _ _ _ _ _ _ _ (Act.put _ (some 55) (.agg #[.int .i64 ra.X, .int .i64 ra.Y, .int .i64 ra.W, .int .i64 ra.H])) _
      simp only [Act.put, List.setIfInBounds_toArray, List.set_cons_zero, List.set_cons_succ]
      refine wpAnyH_take (i := 11) (oi := _) (v := .agg #[.int .i64 rm.X, .int .i64 rm.Y, .int .i64 rm.W, .int .i64 rm.H]) rfl (by kernel_rfl) (by kernel_rfl) (by kernel_rfl) (fun _ _ _ h => h) (Or.inl ⟨by rfl, ?_⟩) hT133 ?_
      · intro wv hSw
        go_simp
      change wpAnyH _ _ _ _ _ _ _ (Act.put _ (some 56) (.agg #[.int .i64 rm.X, .int .i64 rm.Y, .int .i64 rm.W, .int .i64 rm.H])) _
      simp only [Act.put, List.setIfInBounds_toArray, List.set_cons_zero, List.set_cons_succ]
      refine wpAnyH_take (i := 12) (oi := _) (v := .agg #[.int .i64 rb.X, .int .i64 rb.Y, .int .i64 rb.W, .int .i64 rb.H]) rfl (by kernel_rfl) (by kernel_rfl) (by kernel_rfl) (fun _ _ _ h => h) (Or.inl ⟨by rfl, ?_⟩) hT133 ?_
      · intro wv hSw
        go_simp
      change wpAnyH _ _ _ _ _ _ _ (Act.put _ (some 57) (.agg #[.int .i64 rb.X, .int .i64 rb.Y, .int .i64 rb.W, .int .i64 rb.H])) _
      simp only [Act.put, List.setIfInBounds_toArray, List.set_cons_zero, List.set_cons_succ]
      refine wpAnyH_take (i := 13) (oi := _) (v := .bool true) rfl (by kernel_rfl) (by kernel_rfl) (by kernel_rfl) (fun _ _ _ h => h) (Or.inl ⟨by rfl, ?_⟩) hT133 ?_
      · intro wv hSw
        go_simp
      change wpAnyH _ _ _ _ _ _ _ (Act.put _ (some 58) (.bool true)) _
      simp only [Act.put, List.setIfInBounds_toArray, List.set_cons_zero, List.set_cons_succ]
      refine wpAnyH_ready (rs := [17]) (by kernel_rfl) (by simp) ?_
      refine AllReadyH.cons (o := _) rfl (fun K hK => ?_) AllReadyH.nil
      obtain ⟨z0, z1, z2, z3, zf⟩ := rb0 fA133
      have fB134 := rb_far fB133 (show gB103 ≠ gA132 by omega) ra
      have fM134 := rb_far fM133 (show gM126 ≠ gA132 by omega) ra
      have fA134 := rb_put fA133 ra
      have b134 := rb_bel b133 (show wq.heap.size ≤ gA132 by omega) ra
      go_simp
      refine hK.out _ _ (by exact b134) (fun hT134 => ?_)
      clear hK K z0 z1 z2 z3 zf
      try simp only [Act.put, List.setIfInBounds_toArray, List.set_cons_zero, List.set_cons_succ]
      generalize ((((u133.setCell ⟨gA132, 0, none⟩ (.int .i64 ra.X)).setCell ⟨gA132, 1, none⟩ (.int .i64 ra.Y)).setCell ⟨gA132, 2, none⟩ (.int .i64 ra.W)).setCell ⟨gA132, 3, none⟩ (.int .i64 ra.H)) = u134 at *
      refine wpAnyH_ready (rs := [18]) (by kernel_rfl) (by simp) ?_
      refine AllReadyH.cons (o := _) rfl (fun K hK => ?_) AllReadyH.nil
      obtain ⟨z0, z1, z2, z3, zf⟩ := rb0 fM134
      have fB135 := rb_far fB134 (show gB103 ≠ gM126 by omega) rm
      have fA135 := rb_far fA134 (show gA132 ≠ gM126 by omega) rm
      have b135 := rb_bel b134 (show wq.heap.size ≤ gM126 by omega) rm
      go_simp
      refine hK.out _ _ (by exact b135) (fun hT135 => ?_)
      clear hK K z0 z1 z2 z3 zf
      try simp only [Act.put, List.setIfInBounds_toArray, List.set_cons_zero, List.set_cons_succ]
      generalize ((((u134.setCell ⟨gM126, 0, none⟩ (.int .i64 rm.X)).setCell ⟨gM126, 1, none⟩ (.int .i64 rm.Y)).setCell ⟨gM126, 2, none⟩ (.int .i64 rm.W)).setCell ⟨gM126, 3, none⟩ (.int .i64 rm.H)) = u135 at *
      refine wpAnyH_ready (rs := [19]) (by kernel_rfl) (by simp) ?_
      refine AllReadyH.cons (o := _) rfl (fun K hK => ?_) AllReadyH.nil
      obtain ⟨z0, z1, z2, z3, zf⟩ := rb0 fB135
      have fA136 := rb_far fA135 (show gA132 ≠ gB103 by omega) rb
      have fB136 := rb_put fB135 rb
      have b136 := rb_bel b135 (show wq.heap.size ≤ gB103 by omega) rb
      go_simp
      refine hK.out _ _ (by exact b136) (fun hT136 => ?_)
      clear hK K z0 z1 z2 z3 zf
      try simp only [Act.put, List.setIfInBounds_toArray, List.set_cons_zero, List.set_cons_succ]
      refine wpAnyH_take (i := 20) (oi := _) (v := .bool true) rfl (by kernel_rfl) (by kernel_rfl) (by kernel_rfl) (fun _ _ _ h => h) (Or.inl ⟨by rfl, ?_⟩) hT136 ?_
      · intro wv hSw
        go_simp
      change wpAnyH _ _ _ _ _ _ _ (Act.put _ (some 11) (.bool true)) _
      simp only [Act.put, List.setIfInBounds_toArray, List.set_cons_zero, List.set_cons_succ]
      refine wpAnyH_done (by kernel_rfl) ?_ _
      go_wp2_with fail
      go_meet
      exact ⟨gA132, gB103, rfl, rfl, by omega, by omega, fA136, fB136, KQ.out.trans b136⟩
    case rest =>
      obtain ⟨A, B, rfl, rfl, lA, lB, hA, hB, hb⟩ := hcut
      have hk := KR.out
      have k1 := NB.below hk.2.1 hb kl
      have kr : Row wc g l1 := by
        obtain ⟨rest, h⟩ := hk.2.2.1
        exact ⟨rest, h.below hb kg⟩
      have kc := hk.2.2.2.trans (Chg.of hb kg)
      obtain ⟨n0, n1, n2, n3, n4⟩ := NB.cells (n := ⟨0, d, f, (i : Int) + 1, (i : Int) + 1 + sx⟩) k1
      obtain ⟨a0, a1, a2, a3, af⟩ := RB.cells (r := ra) hA
      dsimp only at n0 n1 n2 n3 n4
      have HX1 := Lib.hid (HX.out _ kr)
      have KC := Lib.hid kc
      clear hk kr kc hb KR
      go_wp2_with fail
      refine HX1.out.mono ?_
      rintro z w4 ⟨rfl, r4, g4⟩
      have k4 := g4.held k1 (by omega)
      have hB4 := g4.held hB (by omega)
      clear n0 n1 n2 n3 n4 a0 a1 a2 a3 af
      obtain ⟨n0, n1, n2, n3, n4⟩ := NB.cells (n := ⟨0, d, f, (i : Int) + 1, (i : Int) + 1 + sx⟩) k4
      obtain ⟨a0, a1, a2, a3, af⟩ := RB.cells (r := rb) hB4
      dsimp only at n0 n1 n2 n3 n4
      have HY1 := Lib.hid (HY.out _ r4)
      have KC4 := Lib.hid (KC.out.trans g4)
      clear r4 g4 k1 hA hB k4 hB4
      go_wp2_with fail
      refine HY1.out.mono ?_
      rintro z w5 ⟨rfl, r5, g5⟩
      have R5 := Lib.hid (And.intro r5 g5)
      clear r5 g5
      go_wp2_with fail
      exact bodyPost_ret (v := .tuple #[]) (by simp [results, Try.results50, go_sem]) rfl ⟨rfl, R5.out.1, KC4.out.trans R5.out.2⟩
end Go.Proofs.Ytojgmofpgefonaa
