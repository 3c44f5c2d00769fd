/-
  That the small check 'awake' of this seat answers true. No condition.
-/
import Derived.Test.YtojgmofpgefonaaC10
import Derived.Test.YtojgmofpgefonaaC11
import Derived.Test.YtojgmofpgefonaaB6
namespace Go.Proofs.Ytojgmofpgefonaa
open Go.RowKit
set_option linter.unusedSimpArgs false
set_option linter.unusedVariables false
set_option maxRecDepth 100000

set_option maxHeartbeats 2000000 in
theorem remove_one (p : Int) (D : Option Addr) (c B : Nat) (W H : Int) (w : World) (h : TabAt B w D (EN.flat [leafN p])) (hp : 0 < p) :
    Calls Try.prog 18 #[.agg #[.slice D 1 c], .int .i64 W, .int .i64 H, .int .i64 p] w (TrN w) := by
  have ht : Is [leafN p] (.leaf p) := ⟨rfl, hp, by simp [T.size], by simp [T.panes]⟩
  have M0 := Lib.hid (TB.alloc (TB.new w (.slice D 1 c)) (.cells #[.slice none 0 0] 30))
  have C0 := Lib.hid (TB.new (w.alloc (.cells #[.slice D 1 c] 30)) (.slice none 0 0))
  have B0 := Lib.hid ((below_new w (.cells #[.slice D 1 c] 30)).alloc (by simp) (.cells #[.slice none 0 0] 30))
  have HA := Lib.hid (fun w' hb => find_any [leafN p] D c B p w' (h.below (C := w.heap.size) hb (Nat.le_refl _)) (by simp) hp)
  have HO := Lib.hid (fun w' hb => ok_any [leafN p] D c B w' (h.below (C := w.heap.size) hb (Nat.le_refl _)) (by simp))
  rw [ht.treeF] at HO
  have HMem := Lib.hid (ht.mem (p := p) (by simp [T.panes]))
  have m0 := M0.out.cell
  simp only [List.length_cons, List.length_nil, Nat.zero_add] at HA HO
  go_enter Try.func18, Try.ntmps18
  go_wp2_with fail
  refine (HA.out _ B0.out).mono ?_
  rintro x w2 ⟨j, rfl, hj, hb⟩
  obtain ⟨k, rfl, hkl, _, _⟩ := IxP.some (w := w) hj HMem.out
  obtain rfl : k = 0 := by simp at hkl; omega
  have m2 := TB.below M0.out hb (by simp; omega)
  have z2 : TB w2 (w.heap.size + 1) (.slice none 0 0) := by
    have := TB.below C0.out hb (by simp)
    rw [World.size_alloc] at this
    exact this
  have hb2 := B0.out.trans (hb.mono (by simp; omega))
  have hs2 := z2.lt
  clear hb hj m0
  have m0 := m2.cell
  go_wp2_with fail
  refine (HO.out _ hb2).mono ?_
  rintro x w3 ⟨rfl, hb3⟩
  have z3 := z2.below hb3 hs2
  have hb4 := hb2.trans (hb3.mono hb2.size)
  have kz := z3.cell
  have kf := z3.frozen
  go_wp2_with fail
  have kc := (TB.set z3 (.slice none 0 0)).cell
  exact bodyPost_ret (v := .tuple #[.agg #[.slice none 0 0], .bool false]) (by simp [results, Try.results18, go_sem, kc, kz]) rfl ⟨rfl, hb4.setCell (p := ⟨w.heap.size + 1, 0, none⟩) (by simp) _⟩

def tA : T := .fork 1 4 (.leaf 1) (.leaf 2)
def tB : T := .fork 1 4 (.leaf 1) (.fork 2 1 (.leaf 2) (.leaf 3))
def tC : T := .fork 2 1 (.leaf 2) (.leaf 3)
theorem in95 : (win 9 5).in := by simp [win, R.in]
theorem isA : Is (tA.flat 0) tA := ⟨rfl, by simp [tA, T.ok], by simp [tA, T.size], by simp [tA, T.panes]⟩
theorem isB : Is (tB.flat 0) tB := ⟨rfl, by simp [tB, T.ok], by simp [tB, T.size], by simp [tB, T.panes]⟩
theorem is1 : Is [leafN 1] (.leaf 1) := ⟨rfl, by simp [T.ok], by simp [T.size], by simp [T.panes]⟩
theorem fitsA : tA.fits (win 9 5) := by simp [tA, T.fits, side, win]
theorem fitsB : tB.fits (win 9 5) := by simp [tB, T.fits, side, win, bR]
theorem fA : heldF (partF 8 4602678819172646912) 1 7 = 4 := by decide +kernel
theorem fB : heldF (partF 4 0) 1 3 = 1 := by decide +kernel
theorem splitA (D : Option Addr) (c B : Nat) (w : World) (h : TabAt B w D (EN.flat [leafN 1])) (hc : 1 ≤ c) :
    Calls Try.prog 16 #[.agg #[.slice D 1 c], .int .i64 9, .int .i64 5, .int .i64 1, .int .i64 2, .int .i64 1, .float .f64 4602678819172646912] w (TrP w (tA.flat 0)) := by
  have := split_any [leafN 1] (.leaf 1) D c B 9 5 1 2 1 4602678819172646912 w h is1 hc in95 trivial (by simp [T.panes]) (by omega) (by simp [T.panes]) (by simp [T.size]) (.inl rfl)
  have hr : (T.leaf 1).room 1 1 (win 9 5) = 9 := rfl
  rw [hr, if_pos (by omega), show (9 : Int) - 1 = 8 by omega, show (9 : Int) - 2 = 7 by omega, fA] at this
  exact this
theorem splitB (D : Option Addr) (c B : Nat) (w : World) (h : TabAt B w D (EN.flat (tA.flat 0))) (hc : 3 ≤ c) :
    Calls Try.prog 16 #[.agg #[.slice D 3 c], .int .i64 9, .int .i64 5, .int .i64 2, .int .i64 3, .int .i64 2, .float .f64 0] w (TrP w (tB.flat 0)) := by
  have := split_any (tA.flat 0) tA D c B 9 5 2 3 2 0 w h isA hc in95 fitsA (by simp [tA, T.panes]) (by omega) (by simp [tA, T.panes]) (by simp [tA, T.size]) (.inr rfl)
  have hr : tA.room 2 2 (win 9 5) = 5 := by simp [tA, T.room, T.panes, bR, side, win]
  rw [hr, if_pos (by omega), show (5 : Int) - 1 = 4 by omega, show (5 : Int) - 2 = 3 by omega, fB] at this
  exact this
theorem removeB (D : Option Addr) (c B : Nat) (w : World) (h : TabAt B w D (EN.flat (tB.flat 0))) (hc : 5 ≤ c) :
    Calls Try.prog 18 #[.agg #[.slice D 5 c], .int .i64 9, .int .i64 5, .int .i64 1] w (TrP w ((tC.fit (win 9 5)).flat 0)) :=
  remove_any (tB.flat 0) tB tC D c B 9 5 1 w h isB hc in95 (by simp [tB, T.panes]) (by simp [tB, tC, T.drop]) (by simp [tC, T.lw]) (by simp [tC, T.lh])
theorem isC : Is ((tC.fit (win 9 5)).flat 0) (tC.fit (win 9 5)) := Is.fit (l := tC.flat 0) ⟨rfl, by simp [tC, T.ok], by simp [tC, T.size], by simp [tC, T.panes]⟩ in95 (by simp [tC, T.lw, win]) (by simp [tC, T.lh, win])
theorem panesC : (tC.fit (win 9 5)).panes = [2, 3] := (T.fit_ok (t := tC) (by simp [tC, T.ok]) in95 (by simp [tC, T.lw, win]) (by simp [tC, T.lh, win])).2.2
theorem isS : Is ((tB.swap 1 3).flat 0) (tB.swap 1 3) := ⟨rfl, T.swap_ok (by omega) (by omega) isB.ok, by rw [T.swap_size]; exact isB.size, T.swap_nodup isB.un⟩
theorem panesS : (tB.swap 1 3).panes = [3, 2, 1] := by rw [T.swap_panes]; simp [tB, T.panes]
theorem spotsB : tB.spots (win 9 5) = [⟨1, ⟨0, 0, 4, 5⟩⟩, ⟨2, ⟨5, 0, 4, 1⟩⟩, ⟨3, ⟨5, 2, 4, 3⟩⟩] := by simp [tB, T.spots, aR, bR, win]
theorem bordsB : tB.bords (win 9 5) = [⟨4, 0, 1, 5⟩, ⟨5, 1, 4, 1⟩] := by simp [tB, T.bords, aR, bR, mR, win]
/-- The panes of a tree that is read. -/
theorem panesT (l : List N) (t : T) (ht : Is l t) (D : Option Addr) (c B : Nat) (w : World) (h : TabAt B w D (EN.flat l)) : Calls Try.prog 13 #[.agg #[.slice D l.length c]] w (OwnP EI 3 w t.panes) := by
  have := panes_any l D c B w h (by have := ht.len; have := ht.size; omega)
  rw [if_pos ht.treeF, ht.panes] at this
  exact this
end Go.Proofs.Ytojgmofpgefonaa
