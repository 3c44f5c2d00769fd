/-
  What the walk of ActsWhole needs: whatever comes, the screen stays whole. No condition.
-/
import Derived.Test.YtpcpmeihebgncaaGrid
import Derived.Test.YtpcpmeihebgncaaAction
import Derived.Test.YtpcpmeihebgncaaB5
import Derived.Test.YtpcpmeihebgncaaAwake
import Derived.Test.YtpcpmeihebgncaaB7
namespace Go.Proofs.Ytpcpmeihebgncaa
open Go.RowKit
set_option maxRecDepth 100000
set_option linter.unusedSimpArgs false

/-- The screen so far. -/
structure WhSt (w : World) (b0 W H : Nat) (s : WS) (D : Option Addr) (n c : Nat) (E : Option Addr) (m d : Nat) (wr : World) : Prop where
  box : Box wr b0 s.p (.slice D n c) (.slice E m d)
  scr : Scr 0 wr D E n c m d s.L s.B
  k : Wk W H s
  wk : WrOk W s
  below : Below w.heap.size w wr
def WhRel (w : World) (b0 W H : Nat) (i : Value) (wr : World) : Prop := ∃ (k : Nat) (s : WS) (D : Option Addr) (n c : Nat) (E : Option Addr) (m d : Nat), i = .int .i64 (k : Int) ∧ k ≤ 40 ∧ WhSt w b0 W H s D n c E m d wr
/-- Behind Apply: the screen before, the screen behind. -/
structure WhIn (w : World) (b0 W H : Nat) (s : WS) (D : Option Addr) (n c : Nat) (E : Option Addr) (m d g : Nat) (t : WS) (D' : Option Addr) (n' c' : Nat) (E' : Option Addr) (m' d' : Nat) (wr : World) : Prop where
  old : Box wr b0 s.p (.slice D n c) (.slice E m d)
  box : Box wr g t.p (.slice D' n' c') (.slice E' m' d')
  scr : Scr (b0 + 1) wr D' E' n' c' m' d' t.L t.B
  go : Goes W H s t
  below : Below w.heap.size w wr

theorem WhSt.drew {w : World} {b0 W H : Nat} {s : WS} {D : Option Addr} {n c : Nat} {E : Option Addr} {m d : Nat} {wr : World} (h : WhSt w b0 W H s D n c E m d wr) : WhSt w b0 W H s D n c E m d wr.drew :=
  ⟨h.box, h.scr.below (below_drewN (Below.refl _ _) 1) (Nat.le_refl _), h.k, h.wk, below_drewN h.below 1⟩
theorem WhIn.drew {w : World} {b0 W H : Nat} {s : WS} {D : Option Addr} {n c : Nat} {E : Option Addr} {m d g : Nat} {t : WS} {D' : Option Addr} {n' c' : Nat} {E' : Option Addr} {m' d' : Nat} {wr : World} (h : WhIn w b0 W H s D n c E m d g t D' n' c' E' m' d' wr) : WhIn w b0 W H s D n c E m d g t D' n' c' E' m' d' wr.drew :=
  ⟨h.old, h.box, h.scr.below (below_drewN (Below.refl _ _) 1) (Nat.le_refl _), h.go, below_drewN h.below 1⟩
theorem WhIn.keep {w : World} {b0 W H : Nat} {s : WS} {D : Option Addr} {n c : Nat} {E : Option Addr} {m d g : Nat} {t : WS} {D' : Option Addr} {n' c' : Nat} {E' : Option Addr} {m' d' : Nat} {wr : World} {cs : Array Value} {a : Addr} {v : Value} (h : WhIn w b0 W H s D n c E m d g t D' n' c' E' m' d' (wr.setRow g cs)) (_ : b0 < g) (hz : wr.cell? a = some v) (ha : a.block ≠ g) : Box (wr.setRow g cs) b0 s.p (.slice D n c) (.slice E m d) ∧ (wr.setRow g cs).cell? a = some v :=
  ⟨h.old, (cell_setRow_other _ _ _ _ ha).trans hz⟩
theorem wh_fin2 {w : World} {b0 W H : Nat} {s t : WS} {D : Option Addr} {n c : Nat} {E : Option Addr} {m d : Nat} {wd w4 : World} {D4 E4 : Option Addr} {n4 c4 m4 d4 B g : Nat} {q : Nm} {r b : Value} (st : WhSt w b0 W H s D n c E m d wd) (hb : Below wd.heap.size wd w4) (go : Goes W H s t) (s4 : Scr B w4 D4 E4 n4 c4 m4 d4 t.L t.B) (hg : g < B) (hg0 : wd.heap.size ≤ g) (hB : b0 + 1 ≤ B) (bx : Box w4 g q r b) :
    WhIn w b0 W H s D n c E m d g t D4 n4 c4 E4 m4 d4 (w4.setRow g (gcs t.p (.slice D4 n4 c4) (.slice E4 m4 d4))) :=
  have h0 := st.box.lt
  ⟨(setRow_other _ _ _ _ (by omega)).trans (st.box.below hb h0), bx.setRow _ _ _, (s4.put hg _).weak hB, go, below_setRow (st.below.trans (hb.mono st.below.size)) (Nat.le_trans st.below.size hg0) _⟩
theorem wh_fin1 {w : World} {b0 W H : Nat} {s t : WS} {D : Option Addr} {n c : Nat} {E : Option Addr} {m d : Nat} {wd w4 : World} {D4 E4 : Option Addr} {n4 c4 m4 d4 : Nat} (st : WhSt w b0 W H s D n c E m d wd) (hb : Below wd.heap.size wd w4) (go : Goes W H s t) (s4 : Scr wd.heap.size w4 D4 E4 n4 c4 m4 d4 t.L t.B) :
    WhIn w b0 W H s D n c E m d w4.heap.size t D4 n4 c4 E4 m4 d4 ((w4.alloc (.cells (gcs zeroNm nilV nilV) 35)).setRow w4.heap.size (gcs t.p (.slice D4 n4 c4) (.slice E4 m4 d4))) := by
  rw [World.setRow_alloc_new]
  have h0 := st.box.lt
  have hs := hb.size
  exact ⟨(st.box.below hb h0).alloc _, Box.new _ _ _ _, (s4.weak (by omega)).below ((Below.refl _ _).alloc (Nat.le_refl _) _) (Nat.le_refl _), go, (st.below.trans (hb.mono st.below.size)).alloc (Nat.le_trans st.below.size hs) _⟩

set_option maxHeartbeats 8000000 in
theorem whole_walk (D1 D2 : Option Addr) (c1 c2 : Nat) (xs ys : List Int) (w : World) (hr1 : ReadI w (.slice D1 xs.length c1) xs) (hr2 : ReadI w (.slice D2 ys.length c2) ys) : Calls Try.prog 6 #[.slice D1 xs.length c1, .slice D2 ys.length c2] w (TrueBelow w) := by
  have HR2 := Lib.hid hr2
  have HN := Lib.hid (grid_any D1 c1 xs w hr1)
  clear hr1 hr2
  go_enter Try.func6, Try.ntmps6
  go_upto_region 2 with (first
   | (with_reducible refine wpList_storeB (x := .tmp 5) (y := .tmp 10) (p := p0) (D := D0) (E := E0) (n := H) (c := c0) (m := m0) (d := d0) ?_ ?_ ?_ ?_ ?_ ?_
      · with_reducible rfl
      · rfl
      · rfl
      · rfl
      · rfl)
   | (go_at_call 16
      refine HN.out.mono ?_
      clear HN
      rintro e w1 ⟨p0, D0, E0, H, c0, m0, d0, W, L0, B0, rfl, G⟩))
  have h1z := G.below.size
  refine wp_world (fun wq => WhSt w w1.heap.size W H ⟨p0, L0, B0⟩ D0 H c0 E0 m0 d0 wq) ⟨Box.new _ _ _ _, (G.scr.weak (Nat.zero_le _)).below ((Below.refl _ _).alloc (Nat.le_refl _) _) (Nat.le_refl _), ?_, G.p.wr, G.below.alloc G.below.size _⟩ ?_
  · exact ⟨⟨G.p.w, G.p.h, G.p.x0, G.p.x, G.p.y0, G.p.y, G.scr.nr, G.rows, by rw [G.scr.nb]; exact G.most, fun l hl => by obtain ⟨x, rfl, _⟩ := G.one l hl; simp⟩, G.W0, by have := G.W1; omega, G.n0, by have := G.n1; omega, G.p.t0, G.p.tb, G.p.b1⟩
  intro wq st0
  have hW8 : W ≤ 8 := G.W1
  have hH8 : H ≤ 8 := G.n1
  generalize hs0 : WS.mk p0 L0 B0 = s0 at st0
  clear G hs0
  generalize w1.heap.size = b0 at *
  go_wp2_with fail
  go_loopw [6] (WhRel w b0 W H) (fun i _ => 40 - (intOf i).toNat)
  case atStart => exact ⟨0, _, _, _, _, _, _, _, rfl, by omega, st0⟩
  case round =>
    clear st0
    obtain ⟨k, s, D, n, c, E, m, d, rfl, hk40, st⟩ := hrel
    by_cases hky : k < ys.length
    · have hkyi : (k : Int) < (ys.length : Int) := by omega
      by_cases hk4 : k < 40
      · have hk4i : (k : Int) < 40 := by omega
        go_upto_region 5 with fail
        obtain rfl : n = H := by rw [← st.scr.nr]; exact st.k.ok.ln
        obtain ⟨b, off, z, eD2, hb2, _, hz2⟩ := (show ∃ (b off : Nat) (z : Int), D2 = some ⟨b, off, none⟩ ∧ b < w.heap.size ∧ ys[k]? = some z ∧ w.cell? ⟨b, off + k, none⟩ = some (.int .i64 z) from by
          obtain ⟨D, c, e, h⟩ := HR2.out
          cases e
          exact h k hky)
        subst eD2
        go_cut [7] (fun v7 wx => ∃ g t D' c' E' m' d', v7 = .pointer (some ⟨g, 0, none⟩) ∧ b0 < g ∧ WhIn w b0 W n s D n c E m d g t D' n c' E' m' d' wx)
        case first =>
          have std := st.drew
          have hb0 : b0 < wr.drew.heap.size := st.box.lt
          have hbw : b < wr.drew.heap.size := Nat.lt_of_lt_of_le hb2 st.below.size
          have hz3 : wr.drew.cell? ⟨b, off + k, none⟩ = some (.int .i64 z) := (st.below.cell (p := ⟨b, off + k, none⟩) hb2).trans hz2
          clear st HR2
          refine wp_region_held_drew (S := fun w' => Box w' b0 s.p (.slice D n c) (.slice E m d) ∧ w'.cell? ⟨b, off + k, none⟩ = some (.int .i64 z)) (by kernel_rfl) (by exact ⟨std.box, hz3⟩) (fun hH0 => ?_)
          refine wpAnyH_take (i := 0) (oi := _) (v := gv s.p (.slice D n c) (.slice E m d)) rfl (by kernel_rfl) (by kernel_rfl) (by kernel_rfl) (fun _ _ _ h => h) (yields_loadB (by rfl) rfl (by rfl) (fun _ h => h.1)) hH0 ?_
          change wpAnyH _ _ _ _ _ _ _ (Act.put _ (some 21) (gv s.p (.slice D n c) (.slice E m d))) _
          simp only [Act.put, List.setIfInBounds_toArray, List.set_cons_zero, List.set_cons_succ]
          refine wpAnyH_take (i := 1) (oi := _) (v := .slice (some ⟨b, off, none⟩) ys.length c2) rfl (by kernel_rfl) (by kernel_rfl) (by kernel_rfl) (fun _ _ _ h => h) (Or.inl ⟨by rfl, ?_⟩) hH0 ?_
          · intro wv hSw
            try dsimp only at hSw
            go_simp
          change wpAnyH _ _ _ _ _ _ _ (Act.put _ (some 22) (.slice (some ⟨b, off, none⟩) ys.length c2)) _
          simp only [Act.put, List.setIfInBounds_toArray, List.set_cons_zero, List.set_cons_succ]
          refine wpAnyH_take (i := 2) (oi := _) (v := .int .i64 (k : Int)) rfl (by kernel_rfl) (by kernel_rfl) (by kernel_rfl) (fun _ _ _ h => h) (Or.inl ⟨by rfl, ?_⟩) hH0 ?_
          · intro wv hSw
            try dsimp only at hSw
            go_simp
          change wpAnyH _ _ _ _ _ _ _ (Act.put _ (some 23) (.int .i64 (k : Int))) _
          simp only [Act.put, List.setIfInBounds_toArray, List.set_cons_zero, List.set_cons_succ]
          refine wpAnyH_take (i := 3) (oi := _) (v := .pointer (some ⟨b, off + k, none⟩)) rfl (by kernel_rfl) (by kernel_rfl) (by kernel_rfl) (fun _ _ _ h => h) (Or.inl ⟨by rfl, ?_⟩) hH0 ?_
          · intro wv hSw
            try dsimp only at hSw
            go_simp
          change wpAnyH _ _ _ _ _ _ _ (Act.put _ (some 24) (.pointer (some ⟨b, off + k, none⟩))) _
          simp only [Act.put, List.setIfInBounds_toArray, List.set_cons_zero, List.set_cons_succ]
          refine wpAnyH_take (i := 4) (oi := _) (v := .int .i64 z) rfl (by kernel_rfl) (by kernel_rfl) (by kernel_rfl) (fun _ _ _ h => h) (Or.inl ⟨by rfl, ?_⟩) hH0 ?_
          · intro wv hSw
            try dsimp only at hSw
            go_simp
          change wpAnyH _ _ _ _ _ _ _ (Act.put _ (some 25) (.int .i64 z)) _
          simp only [Act.put, List.setIfInBounds_toArray, List.set_cons_zero, List.set_cons_succ]
          refine wpAnyH_ready (rs := [5, 7]) (by kernel_rfl) (by simp) ?_
          refine AllReadyH.cons (o := _) rfl (fun K hK => ?_) (AllReadyH.cons (o := _) rfl (fun K hK => ?_) AllReadyH.nil)
          · go_simp
            refine (action_any z wr.drew).mono ?_
            rintro e w3 ⟨kind, r, PD, pc, ap, rfl, hap, hR, b3⟩
            have bd3 := ((Below.refl wr.drew.heap.size wr.drew)).trans (b3.mono ((Below.refl wr.drew.heap.size wr.drew)).size)
            have hs3 := bd3.size
            refine hK.out _ _ (by exact ⟨std.box.below bd3 hb0, (bd3.cell (p := ⟨b, off + k, none⟩) hbw).trans hz3⟩) (fun hH1 => ?_)
            clear hK K
            try simp only [Act.put, List.setIfInBounds_toArray, List.set_cons_zero, List.set_cons_succ]
            refine wpAnyH_ready (rs := [6, 7]) (by kernel_rfl) (by simp) ?_
            refine AllReadyH.cons (o := _) rfl (fun K hK => ?_) (AllReadyH.cons (o := _) rfl (fun K hK => ?_) AllReadyH.nil)
            · go_simp
              refine (act_all kind r PD D E pc n c m d ap w3 ((std.scr.below (bd3) (Nat.le_refl _)).weak (Nat.zero_le _)) std.k hR (by omega)).mono ?_
              rintro e w4 ⟨D4, E4, n4, c4, m4, d4, rfl, s4, b4⟩
              have bd4 := (bd3).trans (b4.mono (bd3).size)
              have hs4 := bd4.size
              refine hK.out _ _ (by exact ⟨std.box.below bd4 hb0, (bd4.cell (p := ⟨b, off + k, none⟩) hbw).trans hz3⟩) (fun hH2 => ?_)
              clear hK K
              try simp only [Act.put, List.setIfInBounds_toArray, List.set_cons_zero, List.set_cons_succ]
              refine wpAnyH_ready (rs := [7]) (by kernel_rfl) (by simp) ?_
              refine AllReadyH.cons (o := _) rfl (fun K hK => ?_) AllReadyH.nil
              go_simp
              have bd5 := bd4.alloc bd4.size (.cells (gcs zeroNm nilV nilV) 35)
              refine hK.out _ _ (by exact ⟨std.box.below bd5 hb0, (bd5.cell (p := ⟨b, off + k, none⟩) hbw).trans hz3⟩) (fun hH3 => ?_)
              clear hK K
              try simp only [Act.put, List.setIfInBounds_toArray, List.set_cons_zero, List.set_cons_succ]
              have hlt0 : b0 < w4.heap.size := Nat.lt_of_lt_of_le hb0 bd4.size
              have hz4 := (bd5.cell (p := ⟨b, off + k, none⟩) hbw).trans hz3
              refine wpAnyH_ready (rs := [8]) (by kernel_rfl) (by simp) ?_
              refine AllReadyH.cons (o := _) rfl (fun K hK => ?_) AllReadyH.nil
              rw [if_pos (by rfl)]
              have hbx := Box.new w4 zeroNm nilV nilV
              have hbl := hbx.lt
              refine wp_storeA hbx (x := .tmp 7) (y := .tmp 27) (p := (actF s kind r ap).p) (D := D4) (E := E4) (n := n4) (c := c4) (m := m4) (d := d4) rfl rfl rfl ?_
              refine hK.out _ _ (by exact WhIn.keep (wh_fin1 std bd4 (Goes.act std.k std.wk kind r ap) (s4.weak (bd3.size))) hlt0 hz4 (by dsimp only; omega)) (fun hH4 => ?_)
              clear hK K
              dsimp only [Act.put]
              refine wpAnyH_done (by kernel_rfl) ?_ _
              go_wp2_with fail
              go_meet
              obtain rfl : n = n4 := by rw [← s4.nr]; exact ((Goes.act std.k std.wk kind r ap).k.ok.ln).symm
              exact ⟨_, _, D4, c4, E4, m4, d4, rfl, hlt0, wh_fin1 std bd4 (Goes.act std.k std.wk kind r ap) (s4.weak (bd3.size))⟩
            · go_simp
              have bd5 := bd3.alloc bd3.size (.cells (gcs zeroNm nilV nilV) 35)
              refine hK.out _ _ (by exact ⟨std.box.below bd5 hb0, (bd5.cell (p := ⟨b, off + k, none⟩) hbw).trans hz3⟩) (fun hH5 => ?_)
              clear hK K
              try simp only [Act.put, List.setIfInBounds_toArray, List.set_cons_zero, List.set_cons_succ]
              refine wpAnyH_ready (rs := [6]) (by kernel_rfl) (by simp) ?_
              refine AllReadyH.cons (o := _) rfl (fun K hK => ?_) AllReadyH.nil
              go_simp
              refine (act_all kind r PD D E pc n c m d ap (w3.alloc (.cells (gcs zeroNm nilV nilV) 35)) ((std.scr.below (bd5) (Nat.le_refl _)).weak (Nat.zero_le _)) std.k (hR.below ((Below.refl _ _).alloc (Nat.le_refl _) _) (Nat.le_refl _)) (by omega)).mono ?_
              rintro e w4 ⟨D4, E4, n4, c4, m4, d4, rfl, s4, b4⟩
              have bd4 := (bd5).trans (b4.mono (bd5).size)
              have hs4 := bd4.size
              refine hK.out _ _ (by exact ⟨std.box.below bd4 hb0, (bd4.cell (p := ⟨b, off + k, none⟩) hbw).trans hz3⟩) (fun hH6 => ?_)
              clear hK K
              try simp only [Act.put, List.setIfInBounds_toArray, List.set_cons_zero, List.set_cons_succ]
              have hlt0 : b0 < w3.heap.size := Nat.lt_of_lt_of_le hb0 bd3.size
              have hz4 := (bd4.cell (p := ⟨b, off + k, none⟩) hbw).trans hz3
              refine wpAnyH_ready (rs := [8]) (by kernel_rfl) (by simp) ?_
              refine AllReadyH.cons (o := _) rfl (fun K hK => ?_) AllReadyH.nil
              rw [if_pos (by rfl)]
              have hbx := (Box.new w3 zeroNm nilV nilV).below b4 (by simp)
              have hbl := hbx.lt
              refine wp_storeA hbx (x := .tmp 7) (y := .tmp 27) (p := (actF s kind r ap).p) (D := D4) (E := E4) (n := n4) (c := c4) (m := m4) (d := d4) rfl rfl rfl ?_
              refine hK.out _ _ (by exact WhIn.keep (wh_fin2 std bd4 (Goes.act std.k std.wk kind r ap) s4 (by simp) bd3.size (by have := bd3.size; simp; omega) hbx) hlt0 hz4 (by dsimp only; omega)) (fun hH7 => ?_)
              clear hK K
              dsimp only [Act.put]
              refine wpAnyH_done (by kernel_rfl) ?_ _
              go_wp2_with fail
              go_meet
              obtain rfl : n = n4 := by rw [← s4.nr]; exact ((Goes.act std.k std.wk kind r ap).k.ok.ln).symm
              exact ⟨_, _, D4, c4, E4, m4, d4, rfl, hlt0, wh_fin2 std bd4 (Goes.act std.k std.wk kind r ap) s4 (by simp) bd3.size (by have := bd3.size; simp; omega) hbx⟩
          · go_simp
            have bd5 : Below wr.drew.heap.size wr.drew (wr.drew.alloc (.cells (gcs zeroNm nilV nilV) 35)) := (Below.refl _ _).alloc (Nat.le_refl _) _
            refine hK.out _ _ (by exact ⟨std.box.below bd5 hb0, (bd5.cell (p := ⟨b, off + k, none⟩) hbw).trans hz3⟩) (fun hH8 => ?_)
            clear hK K
            try simp only [Act.put, List.setIfInBounds_toArray, List.set_cons_zero, List.set_cons_succ]
            refine wpAnyH_ready (rs := [5]) (by kernel_rfl) (by simp) ?_
            refine AllReadyH.cons (o := _) rfl (fun K hK => ?_) AllReadyH.nil
            go_simp
            refine (action_any z (wr.drew.alloc (.cells (gcs zeroNm nilV nilV) 35))).mono ?_
            rintro e w3 ⟨kind, r, PD, pc, ap, rfl, hap, hR, b3⟩
            have bd3 := (bd5).trans (b3.mono (bd5).size)
            have hs3 := bd3.size
            refine hK.out _ _ (by exact ⟨std.box.below bd3 hb0, (bd3.cell (p := ⟨b, off + k, none⟩) hbw).trans hz3⟩) (fun hH9 => ?_)
            clear hK K
            try simp only [Act.put, List.setIfInBounds_toArray, List.set_cons_zero, List.set_cons_succ]
            refine wpAnyH_ready (rs := [6]) (by kernel_rfl) (by simp) ?_
            refine AllReadyH.cons (o := _) rfl (fun K hK => ?_) AllReadyH.nil
            go_simp
            refine (act_all kind r PD D E pc n c m d ap w3 ((std.scr.below (bd3) (Nat.le_refl _)).weak (Nat.zero_le _)) std.k hR (by omega)).mono ?_
            rintro e w4 ⟨D4, E4, n4, c4, m4, d4, rfl, s4, b4⟩
            have bd4 := (bd3).trans (b4.mono (bd3).size)
            have hs4 := bd4.size
            refine hK.out _ _ (by exact ⟨std.box.below bd4 hb0, (bd4.cell (p := ⟨b, off + k, none⟩) hbw).trans hz3⟩) (fun hH10 => ?_)
            clear hK K
            try simp only [Act.put, List.setIfInBounds_toArray, List.set_cons_zero, List.set_cons_succ]
            have hz5 := b3.size
            simp only [World.size_alloc] at hz5
            have hlt0 : b0 < wr.drew.heap.size := hb0
            have hz4 := (bd4.cell (p := ⟨b, off + k, none⟩) hbw).trans hz3
            refine wpAnyH_ready (rs := [8]) (by kernel_rfl) (by simp) ?_
            refine AllReadyH.cons (o := _) rfl (fun K hK => ?_) AllReadyH.nil
            rw [if_pos (by rfl)]
            have hbx := ((Box.new wr.drew zeroNm nilV nilV).below b3 (by simp)).below b4 (by omega)
            have hbl := hbx.lt
            refine wp_storeA hbx (x := .tmp 7) (y := .tmp 27) (p := (actF s kind r ap).p) (D := D4) (E := E4) (n := n4) (c := c4) (m := m4) (d := d4) rfl rfl rfl ?_
            refine hK.out _ _ (by exact WhIn.keep (wh_fin2 std bd4 (Goes.act std.k std.wk kind r ap) s4 (show wr.drew.heap.size < w3.heap.size by omega) (Nat.le_refl _) (show b0 + 1 ≤ w3.heap.size by omega) hbx) hlt0 hz4 (by dsimp only; omega)) (fun hH11 => ?_)
            clear hK K
            dsimp only [Act.put]
            refine wpAnyH_done (by kernel_rfl) ?_ _
            go_wp2_with fail
            go_meet
            obtain rfl : n = n4 := by rw [← s4.nr]; exact ((Goes.act std.k std.wk kind r ap).k.ok.ln).symm
            exact ⟨_, _, D4, c4, E4, m4, d4, rfl, hlt0, wh_fin2 std bd4 (Goes.act std.k std.wk kind r ap) s4 (show wr.drew.heap.size < w3.heap.size by omega) (Nat.le_refl _) (show b0 + 1 ≤ w3.heap.size by omega) hbx⟩
        case rest =>
          obtain ⟨g, t, D', c', E', m', d', rfl, hbg, wi⟩ := hcut
          have x0 := wi.box.cells.c0
          have x1 := wi.box.cells.c1
          have x2 := wi.box.cells.c2
          have x3 := wi.box.cells.c3
          have x4 := wi.box.cells.c4
          have x6 := wi.box.cells.c6
          have x7 := wi.box.cells.c7
          have x13 := wi.box.cells.c13
          have x14 := wi.box.cells.c14
          have y0 := wi.old.cells.c0
          have y1 := wi.old.cells.c1
          have y14 := wi.old.cells.c14
          have q := wi.go.k
          rw [q.ok.pw] at x0
          rw [q.ok.ph] at x1
          rw [st.k.ok.pw] at y0
          rw [st.k.ok.ph] at y1
          have f1 : ¬ t.p.x < 0 := by have := q.ok.x0; omega
          have f2 : t.p.x < (W : Int) := q.ok.x1
          have f2' : ¬ (W : Int) ≤ t.p.x := by omega
          have f3 : ¬ t.p.y < 0 := by have := q.ok.y0; omega
          have f4 : t.p.y < (n : Int) := q.ok.y1
          have f4' : ¬ (n : Int) ≤ t.p.y := by omega
          have f5 : ¬ t.p.top < 0 := by have := q.t0; omega
          have f6 : t.p.top ≤ t.p.bottom := q.tb
          have f6' : ¬ t.p.bottom < t.p.top := by omega
          have f7 : t.p.bottom < (n : Int) := q.b1
          have f7' : ¬ (n : Int) ≤ t.p.bottom := by omega
          have f8 : m' ≤ 50 := by rw [← wi.scr.nb]; exact q.ok.bn
          have f8' : ¬ (50 : Int) < (m' : Int) := by omega
          have f9 : ¬ (m' : Int) < (m : Int) := by have h1 := wi.go.back; rw [wi.scr.nb, st.scr.nb] at h1; omega
          have fw : t.p.wrap = true → t.p.x = (W : Int) - 1 := wi.go.wr
          have s1 : IntKind.i64.wrap ((W : Int) - 1) = (W : Int) - 1 := IntWalk.i64_in _ (by omega)
          have HW := Lib.hid wi
          clear wi st HR2 hz2 q
          generalize ebx : t.p.x = X at *
          generalize eby : t.p.y = Y at *
          generalize ebt : t.p.top = TT at *
          generalize ebb : t.p.bottom = BB at *
          generalize ebw : t.p.wrap = WP at *
          have HE := Lib.hid (And.intro ebx (And.intro eby (And.intro ebt (And.intro ebb ebw))))
          clear ebx eby ebt ebb ebw
          cases WP with
          | true =>
            have fX : X = (W : Int) - 1 := fw rfl
            clear fw
            subst fX
            go_upto_region 9 with fail
            go_loopw [121] (fun i wx => ∃ yk : Nat, i = .int .i64 (yk : Int) ∧ yk ≤ n ∧ WhIn w b0 W n s D n c E m d g t D' n c' E' m' d' wx) (fun i _ => n - (intOf i).toNat)
            case atStart => exact ⟨0, rfl, by omega, HW.out⟩
            case round =>
              clear HW
              obtain ⟨yk, rfl, hyk, wi⟩ := hrel
              have HW := Lib.hid wi
              have x13 := wi.box.cells.c13
              have x0 := wi.box.cells.c0
              rw [wi.go.k.ok.pw] at x0
              clear wi
              by_cases hy : yk < n
              · have hyi : (yk : Int) < (n : Int) := by omega
                have hyl : yk < t.L.length := by rw [HW.out.go.k.ok.ln]; exact hy
                obtain ⟨tb, tq, R, cr, eD, _, _, _, t0, hcr, _⟩ := HW.out.scr.rows.at yk hyl
                have hrl : t.L[yk].length = W := HW.out.go.k.ok.rows _ (List.getElem_mem hyl)
                rw [hrl] at t0 hcr
                subst eD
                go_upto_region 11 with fail
                refine wp_region_held_drew (S := fun w' => w'.cell? ⟨g, 13, none⟩ = some (.slice (some ⟨tb, tq, none⟩) n c') ∧ w'.cell? ⟨g, 0, none⟩ = some (.int .i64 (W : Int)) ∧ w'.cell? ⟨tb, tq + yk, none⟩ = some (.slice R W cr)) (by kernel_rfl) (by exact ⟨x13, x0, t0⟩) (fun hH0 => ?_)
                refine wpAnyH_take (i := 0) (oi := _) (v := .pointer (some ⟨g, 13, none⟩)) rfl (by kernel_rfl) (by kernel_rfl) (by kernel_rfl) (fun _ _ _ h => h) (Or.inl ⟨by rfl, ?_⟩) hH0 ?_
                · intro wv hSw
                  try dsimp only at hSw
                  go_simp
                change wpAnyH _ _ _ _ _ _ _ (Act.put _ (some 124) (.pointer (some ⟨g, 13, none⟩))) _
                simp only [Act.put, List.setIfInBounds_toArray, List.set_cons_zero, List.set_cons_succ]
                refine wpAnyH_take (i := 1) (oi := _) (v := .slice (some ⟨tb, tq, none⟩) n c') rfl (by kernel_rfl) (by kernel_rfl) (by kernel_rfl) (fun _ _ _ h => h) (Or.inl ⟨by rfl, ?_⟩) hH0 ?_
                · intro wv hSw
                  try dsimp only at hSw
                  go_simp
                change wpAnyH _ _ _ _ _ _ _ (Act.put _ (some 125) (.slice (some ⟨tb, tq, none⟩) n c')) _
                simp only [Act.put, List.setIfInBounds_toArray, List.set_cons_zero, List.set_cons_succ]
                refine wpAnyH_take (i := 2) (oi := _) (v := .int .i64 (yk : Int)) rfl (by kernel_rfl) (by kernel_rfl) (by kernel_rfl) (fun _ _ _ h => h) (Or.inl ⟨by rfl, ?_⟩) hH0 ?_
                · intro wv hSw
                  try dsimp only at hSw
                  go_simp
                change wpAnyH _ _ _ _ _ _ _ (Act.put _ (some 126) (.int .i64 (yk : Int))) _
                simp only [Act.put, List.setIfInBounds_toArray, List.set_cons_zero, List.set_cons_succ]
                refine wpAnyH_take (i := 3) (oi := _) (v := .pointer (some ⟨tb, tq + yk, none⟩)) rfl (by kernel_rfl) (by kernel_rfl) (by kernel_rfl) (fun _ _ _ h => h) (Or.inl ⟨by rfl, ?_⟩) hH0 ?_
                · intro wv hSw
                  try dsimp only at hSw
                  go_simp
                change wpAnyH _ _ _ _ _ _ _ (Act.put _ (some 127) (.pointer (some ⟨tb, tq + yk, none⟩))) _
                simp only [Act.put, List.setIfInBounds_toArray, List.set_cons_zero, List.set_cons_succ]
                refine wpAnyH_take (i := 4) (oi := _) (v := .slice R W cr) rfl (by kernel_rfl) (by kernel_rfl) (by kernel_rfl) (fun _ _ _ h => h) (Or.inl ⟨by rfl, ?_⟩) hH0 ?_
                · intro wv hSw
                  try dsimp only at hSw
                  go_simp
                change wpAnyH _ _ _ _ _ _ _ (Act.put _ (some 128) (.slice R W cr)) _
                simp only [Act.put, List.setIfInBounds_toArray, List.set_cons_zero, List.set_cons_succ]
                refine wpAnyH_take (i := 5) (oi := _) (v := .int .i64 (W : Int)) rfl (by kernel_rfl) (by kernel_rfl) (by kernel_rfl) (fun _ _ _ h => h) (Or.inl ⟨by rfl, ?_⟩) hH0 ?_
                · intro wv hSw
                  try dsimp only at hSw
                  go_simp
                change wpAnyH _ _ _ _ _ _ _ (Act.put _ (some 129) (.int .i64 (W : Int))) _
                simp only [Act.put, List.setIfInBounds_toArray, List.set_cons_zero, List.set_cons_succ]
                refine wpAnyH_take (i := 6) (oi := _) (v := .pointer (some ⟨g, 0, none⟩)) rfl (by kernel_rfl) (by kernel_rfl) (by kernel_rfl) (fun _ _ _ h => h) (Or.inl ⟨by rfl, ?_⟩) hH0 ?_
                · intro wv hSw
                  try dsimp only at hSw
                  go_simp
                change wpAnyH _ _ _ _ _ _ _ (Act.put _ (some 130) (.pointer (some ⟨g, 0, none⟩))) _
                simp only [Act.put, List.setIfInBounds_toArray, List.set_cons_zero, List.set_cons_succ]
                refine wpAnyH_take (i := 7) (oi := _) (v := .int .i64 (W : Int)) rfl (by kernel_rfl) (by kernel_rfl) (by kernel_rfl) (fun _ _ _ h => h) (Or.inl ⟨by rfl, ?_⟩) hH0 ?_
                · intro wv hSw
                  try dsimp only at hSw
                  go_simp
                change wpAnyH _ _ _ _ _ _ _ (Act.put _ (some 131) (.int .i64 (W : Int))) _
                simp only [Act.put, List.setIfInBounds_toArray, List.set_cons_zero, List.set_cons_succ]
                refine wpAnyH_take (i := 8) (oi := _) (v := .bool false) rfl (by kernel_rfl) (by kernel_rfl) (by kernel_rfl) (fun _ _ _ h => h) (Or.inl ⟨by rfl, ?_⟩) hH0 ?_
                · intro wv hSw
                  try dsimp only at hSw
                  go_simp
                change wpAnyH _ _ _ _ _ _ _ (Act.put _ (some 132) (.bool false)) _
                simp only [Act.put, List.setIfInBounds_toArray, List.set_cons_zero, List.set_cons_succ]
                refine wpAnyH_done (by kernel_rfl) ?_ _
                clear hH0
                go_wp2_with fail
                go_roundw
                case rel => exact ⟨yk + 1, by go_num, by omega, HW.out.drew⟩
                case measure => simp [intOf]; omega
              · have hyi : ¬ (yk : Int) < (n : Int) := by omega
                have x1 := HW.out.box
                have x5 := HW.out.old
                go_wp2_with (first
                 | (with_reducible refine wpList_loadB x1 (x := .tmp 7) ?_ ?_ ?_ ?_
                    · with_reducible rfl
                    · rfl
                    · rfl)
                 | (with_reducible refine wpList_storeA x5 (x := .tmp 5) (y := .tmp 134) (p := t.p) (D := D') (E := E') (n := n) (c := c') (m := m') (d := d') ?_ ?_ ?_ ?_ ?_
                    · with_reducible rfl
                    · rfl
                    · rfl
                    · rfl))
                go_roundw
                case rel => exact ⟨k + 1, t, D', n, c', E', m', d', by go_num, by omega, x5.setRow _ _ _, HW.out.scr.bput (Nat.lt_succ_self _) _, HW.out.go.k, HW.out.go.wr, below_setRow HW.out.below h1z _⟩
                case measure => simp [intOf]; omega
          | false =>
            clear fw
            go_upto_region 9 with fail
            go_loopw [121] (fun i wx => ∃ yk : Nat, i = .int .i64 (yk : Int) ∧ yk ≤ n ∧ WhIn w b0 W n s D n c E m d g t D' n c' E' m' d' wx) (fun i _ => n - (intOf i).toNat)
            case atStart => exact ⟨0, rfl, by omega, HW.out⟩
            case round =>
              clear HW
              obtain ⟨yk, rfl, hyk, wi⟩ := hrel
              have HW := Lib.hid wi
              have x13 := wi.box.cells.c13
              have x0 := wi.box.cells.c0
              rw [wi.go.k.ok.pw] at x0
              clear wi
              by_cases hy : yk < n
              · have hyi : (yk : Int) < (n : Int) := by omega
                have hyl : yk < t.L.length := by rw [HW.out.go.k.ok.ln]; exact hy
                obtain ⟨tb, tq, R, cr, eD, _, _, _, t0, hcr, _⟩ := HW.out.scr.rows.at yk hyl
                have hrl : t.L[yk].length = W := HW.out.go.k.ok.rows _ (List.getElem_mem hyl)
                rw [hrl] at t0 hcr
                subst eD
                go_upto_region 11 with fail
                refine wp_region_held_drew (S := fun w' => w'.cell? ⟨g, 13, none⟩ = some (.slice (some ⟨tb, tq, none⟩) n c') ∧ w'.cell? ⟨g, 0, none⟩ = some (.int .i64 (W : Int)) ∧ w'.cell? ⟨tb, tq + yk, none⟩ = some (.slice R W cr)) (by kernel_rfl) (by exact ⟨x13, x0, t0⟩) (fun hH0 => ?_)
                refine wpAnyH_take (i := 0) (oi := _) (v := .pointer (some ⟨g, 13, none⟩)) rfl (by kernel_rfl) (by kernel_rfl) (by kernel_rfl) (fun _ _ _ h => h) (Or.inl ⟨by rfl, ?_⟩) hH0 ?_
                · intro wv hSw
                  try dsimp only at hSw
                  go_simp
                change wpAnyH _ _ _ _ _ _ _ (Act.put _ (some 124) (.pointer (some ⟨g, 13, none⟩))) _
                simp only [Act.put, List.setIfInBounds_toArray, List.set_cons_zero, List.set_cons_succ]
                refine wpAnyH_take (i := 1) (oi := _) (v := .slice (some ⟨tb, tq, none⟩) n c') rfl (by kernel_rfl) (by kernel_rfl) (by kernel_rfl) (fun _ _ _ h => h) (Or.inl ⟨by rfl, ?_⟩) hH0 ?_
                · intro wv hSw
                  try dsimp only at hSw
                  go_simp
                change wpAnyH _ _ _ _ _ _ _ (Act.put _ (some 125) (.slice (some ⟨tb, tq, none⟩) n c')) _
                simp only [Act.put, List.setIfInBounds_toArray, List.set_cons_zero, List.set_cons_succ]
                refine wpAnyH_take (i := 2) (oi := _) (v := .int .i64 (yk : Int)) rfl (by kernel_rfl) (by kernel_rfl) (by kernel_rfl) (fun _ _ _ h => h) (Or.inl ⟨by rfl, ?_⟩) hH0 ?_
                · intro wv hSw
                  try dsimp only at hSw
                  go_simp
                change wpAnyH _ _ _ _ _ _ _ (Act.put _ (some 126) (.int .i64 (yk : Int))) _
                simp only [Act.put, List.setIfInBounds_toArray, List.set_cons_zero, List.set_cons_succ]
                refine wpAnyH_take (i := 3) (oi := _) (v := .pointer (some ⟨tb, tq + yk, none⟩)) rfl (by kernel_rfl) (by kernel_rfl) (by kernel_rfl) (fun _ _ _ h => h) (Or.inl ⟨by rfl, ?_⟩) hH0 ?_
                · intro wv hSw
                  try dsimp only at hSw
                  go_simp
                change wpAnyH _ _ _ _ _ _ _ (Act.put _ (some 127) (.pointer (some ⟨tb, tq + yk, none⟩))) _
                simp only [Act.put, List.setIfInBounds_toArray, List.set_cons_zero, List.set_cons_succ]
                refine wpAnyH_take (i := 4) (oi := _) (v := .slice R W cr) rfl (by kernel_rfl) (by kernel_rfl) (by kernel_rfl) (fun _ _ _ h => h) (Or.inl ⟨by rfl, ?_⟩) hH0 ?_
                · intro wv hSw
                  try dsimp only at hSw
                  go_simp
                change wpAnyH _ _ _ _ _ _ _ (Act.put _ (some 128) (.slice R W cr)) _
                simp only [Act.put, List.setIfInBounds_toArray, List.set_cons_zero, List.set_cons_succ]
                refine wpAnyH_take (i := 5) (oi := _) (v := .int .i64 (W : Int)) rfl (by kernel_rfl) (by kernel_rfl) (by kernel_rfl) (fun _ _ _ h => h) (Or.inl ⟨by rfl, ?_⟩) hH0 ?_
                · intro wv hSw
                  try dsimp only at hSw
                  go_simp
                change wpAnyH _ _ _ _ _ _ _ (Act.put _ (some 129) (.int .i64 (W : Int))) _
                simp only [Act.put, List.setIfInBounds_toArray, List.set_cons_zero, List.set_cons_succ]
                refine wpAnyH_take (i := 6) (oi := _) (v := .pointer (some ⟨g, 0, none⟩)) rfl (by kernel_rfl) (by kernel_rfl) (by kernel_rfl) (fun _ _ _ h => h) (Or.inl ⟨by rfl, ?_⟩) hH0 ?_
                · intro wv hSw
                  try dsimp only at hSw
                  go_simp
                change wpAnyH _ _ _ _ _ _ _ (Act.put _ (some 130) (.pointer (some ⟨g, 0, none⟩))) _
                simp only [Act.put, List.setIfInBounds_toArray, List.set_cons_zero, List.set_cons_succ]
                refine wpAnyH_take (i := 7) (oi := _) (v := .int .i64 (W : Int)) rfl (by kernel_rfl) (by kernel_rfl) (by kernel_rfl) (fun _ _ _ h => h) (Or.inl ⟨by rfl, ?_⟩) hH0 ?_
                · intro wv hSw
                  try dsimp only at hSw
                  go_simp
                change wpAnyH _ _ _ _ _ _ _ (Act.put _ (some 131) (.int .i64 (W : Int))) _
                simp only [Act.put, List.setIfInBounds_toArray, List.set_cons_zero, List.set_cons_succ]
                refine wpAnyH_take (i := 8) (oi := _) (v := .bool false) rfl (by kernel_rfl) (by kernel_rfl) (by kernel_rfl) (fun _ _ _ h => h) (Or.inl ⟨by rfl, ?_⟩) hH0 ?_
                · intro wv hSw
                  try dsimp only at hSw
                  go_simp
                change wpAnyH _ _ _ _ _ _ _ (Act.put _ (some 132) (.bool false)) _
                simp only [Act.put, List.setIfInBounds_toArray, List.set_cons_zero, List.set_cons_succ]
                refine wpAnyH_done (by kernel_rfl) ?_ _
                clear hH0
                go_wp2_with fail
                go_roundw
                case rel => exact ⟨yk + 1, by go_num, by omega, HW.out.drew⟩
                case measure => simp [intOf]; omega
              · have hyi : ¬ (yk : Int) < (n : Int) := by omega
                have x1 := HW.out.box
                have x5 := HW.out.old
                go_wp2_with (first
                 | (with_reducible refine wpList_loadB x1 (x := .tmp 7) ?_ ?_ ?_ ?_
                    · with_reducible rfl
                    · rfl
                    · rfl)
                 | (with_reducible refine wpList_storeA x5 (x := .tmp 5) (y := .tmp 134) (p := t.p) (D := D') (E := E') (n := n) (c := c') (m := m') (d := d') ?_ ?_ ?_ ?_ ?_
                    · with_reducible rfl
                    · rfl
                    · rfl
                    · rfl))
                go_roundw
                case rel => exact ⟨k + 1, t, D', n, c', E', m', d', by go_num, by omega, x5.setRow _ _ _, HW.out.scr.bput (Nat.lt_succ_self _) _, HW.out.go.k, HW.out.go.wr, below_setRow HW.out.below h1z _⟩
                case measure => simp [intOf]; omega
      · have hk4i : ¬ (k : Int) < 40 := by omega
        have b1 := st.below
        clear st
        go_wp2_with (go_at_call 10; refine (awake_any _).mono ?_; rintro e w6 ⟨rfl, b6⟩)
        go_ret
        exact ⟨rfl, b1.trans (b6.mono b1.size)⟩
    · have hkyi : ¬ (k : Int) < (ys.length : Int) := by omega
      have b1 := st.below
      clear st
      go_wp2_with (go_at_call 10; refine (awake_any _).mono ?_; rintro e w6 ⟨rfl, b6⟩)
      go_ret
      exact ⟨rfl, b1.trans (b6.mono b1.size)⟩
end Go.Proofs.Ytpcpmeihebgncaa
