/-
  What Places of the document's own answer gives, of a tree that fits. Conditions: trees of at most 63 nodes, windows of at most a thousand.
-/
import Derived.Test.YtojgmofpgefonaaB3
namespace Go.Proofs.Ytojgmofpgefonaa
open Go.RowKit
set_option linter.unusedSimpArgs false
set_option maxRecDepth 100000

def win (W H : Int) : R := ⟨0, 0, W, H⟩
theorem PlP.behind {w w1 : World} {s : List Sp} {b : List R} {e : Ending} {w' : World} (hb : Below w.heap.size w w1) (h : PlP w1 s b e w') : PlP w s b e w' := by
  obtain ⟨v, u, rfl, h1, h2, h3⟩ := h
  exact ⟨v, u, rfl, own_weak h1 hb.size, own_weak h2 hb.size, hb.trans (h3.mono hb.size)⟩
set_option maxHeartbeats 1000000 in
theorem rPlaces_any (l : List N) (t : T) (D : Option Addr) (c B : Nat) (W H : Int) (w : World) (h : TabAt B w D (EN.flat l)) (ht : Is l t) (hr : (win W H).in) (hf : t.fits (win W H)) :
    Calls Try.prog 17 #[.agg #[.slice D l.length c], .int .i64 W, .int .i64 H] w (PlP w (t.spots (win W H)) (t.bords (win W H))) := by
  have hl : l.length ≤ 63 := by rw [ht.len]; exact ht.size
  have M0 := Lib.hid (TB.new w (.slice D l.length c))
  have B0 := Lib.hid ((below_new w (.cells #[.slice D l.length c] 30)).alloc (by simp) (.cells #[.int .i64 0, .int .i64 0, .int .i64 W, .int .i64 H] 48))
  have R0 := Lib.hid (Held.new (w.alloc (.cells #[.slice D l.length c] 30)) 48 #[.int .i64 0, .int .i64 0, .int .i64 W, .int .i64 H])
  have HO := Lib.hid (fun w' hb => rok_any l t D c B w' (h.below (C := w.heap.size) hb (Nat.le_refl _)) ht)
  have HN := Lib.hid (rnone_any (win W H))
  rw [hr.none] at HN
  have HP := Lib.hid (fun w' hb => rplaces_any t (win W H) l D c 0 B w' (h.below (C := w.heap.size) hb (Nat.le_refl _)) ht.all ht.ok hl hr hf)
  clear h ht hf hr
  generalize t.spots (win W H) = s at *
  generalize t.bords (win W H) = b at *
  unfold win rv at HN HP
  dsimp only at HN HP
  go_enter Try.func17, Try.ntmps17
  go_wp2_with fail
  refine (HO.out _ B0.out).mono ?_
  rintro x w2 ⟨rfl, hb⟩
  have m2 := TB.below (TB.alloc M0.out _) hb (by simp; omega)
  have r2 : RB w2 (w.heap.size + 1) ⟨0, 0, W, H⟩ := by
    have := Held.below R0.out hb (by simp)
    rw [World.size_alloc] at this
    exact this
  have hb2 := B0.out.trans (hb.mono (by simp; omega))
  obtain ⟨a0, a1, a2, a3, af⟩ := r2.cells
  dsimp only at a0 a1 a2 a3
  have hs2 := r2.lt
  go_wp2_with fail
  refine (HN.out _).mono ?_
  rintro x w3 ⟨rfl, hb3⟩
  have m3 := m2.below hb3 (by omega)
  have r3 := r2.below hb3 hs2
  have hb4 := hb2.trans (hb3.mono hb2.size)
  clear a0 a1 a2 a3 af
  obtain ⟨a0, a1, a2, a3, af⟩ := r3.cells
  dsimp only at a0 a1 a2 a3
  have k0 := m3.cell
  go_wp2_with fail
  refine (HP.out _ hb4).mono ?_
  rintro x w4 ⟨v, u, rfl, o1, o2, hb5⟩
  have O := Lib.hid (And.intro o1 o2)
  clear o1 o2
  go_wp2_with fail
  refine bodyPost_ret (v := .tuple #[v, u, .bool true]) (by simp [results, Try.results17, go_sem]) rfl ?_
  exact PlP.behind hb4 ⟨v, u, rfl, O.out.1, O.out.2, hb5⟩
end Go.Proofs.Ytojgmofpgefonaa
