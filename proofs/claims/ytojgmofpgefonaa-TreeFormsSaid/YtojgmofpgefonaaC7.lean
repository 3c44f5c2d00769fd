/-
  What Places of tree answers, of a tree that fits. Conditions: trees of at most 63 nodes, windows of at most a thousand.
-/
import Derived.Test.YtojgmofpgefonaaC6
namespace Go.Proofs.Ytojgmofpgefonaa
open Go.RowKit
set_option linter.unusedSimpArgs false
set_option maxRecDepth 100000

set_option maxHeartbeats 2000000 in
theorem places_any (l : List N) (t : T) (D : Option Addr) (c B : Nat) (W H : Int) (w : World) (h : TabAt B w D (EN.flat l)) (ht : Is l t) (hr : (win W H).in) (hf : t.fits (win W H)) :
    Calls Try.prog 19 #[.agg #[.slice D l.length c], .int .i64 W, .int .i64 H] w (PlP w (t.spots (win W H)) (t.bords (win W H))) := by
  have hl : l.length ≤ 63 := by rw [ht.len]; exact ht.size
  have hl0 : 0 < l.length := by rw [ht.len]; exact t.size_pos
  have hb0 := node_at h 0 _ (List.getElem?_eq_getElem hl0)
  obtain ⟨b, off, rfl, _, hbw, _⟩ := hb0
  have M0 := Lib.hid (TB.new w (.slice (some ⟨b, off, none⟩) l.length c))
  have B0 := Lib.hid (below_new w (.cells #[.slice (some ⟨b, off, none⟩) l.length c] 30))
  have HO := Lib.hid (fun w' hb => ok_any l (some ⟨b, off, none⟩) c B w' (h.below (C := w.heap.size) hb (Nat.le_refl _)) (by omega))
  rw [ht.treeF] at HO
  have HW := Lib.hid (isSide_any W)
  have HH := Lib.hid (isSide_any H)
  have w1 : (decide (0 ≤ W) && decide (W ≤ 1000)) = true := by obtain ⟨_, _, _, _, _, _⟩ := hr; simp [win] at *; omega
  have h1 : (decide (0 ≤ H) && decide (H ≤ 1000)) = true := by obtain ⟨_, _, _, _, _, _⟩ := hr; simp [win] at *; omega
  rw [w1] at HW
  rw [h1] at HH
  have hsz := ht.size
  have HL := Lib.hid (fun g B' w' hb hL hB hD => lay_any t (win W H) l (some ⟨b, off, none⟩) c 0 B' g B (.slice none 0 0) (.slice none 0 0) [] [] w' (h.below (C := w.heap.size) hb (Nat.le_refl _)) ht.all ht.ok hl hr hf hL hB (by simp; omega) (by simp; omega) hD)
  simp only [List.nil_append] at HL
  have s1 := spots_small t (win W H) hsz
  clear h ht hf hr w1 h1 hsz
  generalize t.spots (win W H) = s at *
  generalize t.bords (win W H) = bo at *
  unfold win rv at HL
  dsimp only at HL
  go_enter Try.func19, Try.ntmps19
  go_wp2_with fail
  refine (HO.out _ B0.out).mono ?_
  rintro x w2 ⟨rfl, hb⟩
  have m2 := TB.below M0.out hb (by simp)
  have hb2 := B0.out.trans (hb.mono (by simp))
  have k0 := m2.cell
  go_wp2_with fail
  refine (HW.out _).mono ?_
  rintro x w3 ⟨rfl, rfl⟩
  go_wp2_with fail
  refine (HH.out _).mono ?_
  rintro x w3 ⟨rfl, rfl⟩
  have hb3 := hb2.trans ((below_new w2 (.cells #[.slice (some ⟨b, off, none⟩) l.length c, .slice none 0 0, .slice none 0 0] 79)).mono hb2.size)
  have L0 : Lay (w2.alloc (.cells #[.slice (some ⟨b, off, none⟩) l.length c, .slice none 0 0, .slice none 0 0] 79)) w2.heap.size (w2.heap.size + 1) (.slice (some ⟨b, off, none⟩) l.length c) (.slice none 0 0) (.slice none 0 0) [] [] :=
    ⟨Held.new _ _ _, World.ownsRow_nil _ _ _ _, World.ownsRow_nil _ _ _ _, Nat.lt_succ_self _⟩
  have HL1 := Lib.hid (HL.out _ _ _ hb3 L0 (by simp) (fun q hq => by have := hb2.size; simp at hq; omega))
  have hs2 := hb2.size
  have HB2 := Lib.hid hb2
  clear L0 hb3 hb2 hb
  go_wp2_with fail
  refine HL1.out.mono ?_
  rintro x w4 ⟨v, u, rfl, L4, F4⟩
  obtain ⟨V, vc, rfl, _, _⟩ := SV.of_own (E := ES) L4.ov (by decide)
  obtain ⟨U, uc, rfl, _, _⟩ := SV.of_own (E := ER) L4.ou (by decide)
  obtain ⟨l0, l1, l2, lf⟩ := L4.cells
  have R := Lib.hid (And.intro L4 F4)
  clear L4 F4
  go_wp2_with fail
  go_quiet (fail)
  go_wp2_with fail
  refine bodyPost_ret (v := .tuple #[.slice V s.length vc, .slice U bo.length uc, .bool true]) (by simp [results, Try.results19, go_sem]) rfl ⟨_, _, rfl, ?_, ?_, ?_⟩
  · exact own_weak (show w4.ownsRow _ _ _ _ _ _ from R.out.1.ov) (by omega)
  · exact own_weak (show w4.ownsRow _ _ _ _ _ _ from R.out.1.ou) (by omega)
  · have e := R.out.2.below
    have e2 : Below w.heap.size w w4 := (HB2.out.trans ((below_new _ _).mono HB2.out.size)).trans (e.mono (by omega))
    exact below_drewN e2 _
end Go.Proofs.Ytojgmofpgefonaa
