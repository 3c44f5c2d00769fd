/-
  What Ok, Panes, Least and One of tree answer. Conditions: rows of at most a thousand nodes.
-/
import Derived.Test.YtojgmofpgefonaaA4
namespace Go.Proofs.Ytojgmofpgefonaa
open Go.RowKit
set_option linter.unusedSimpArgs false
set_option maxRecDepth 100000

def treeF (l : List N) : Bool := decide (l.length ≤ 63) && decide (endF 64 l 0 = some l.length) && decide (panesL l).Nodup
def TB (w : World) (g : Nat) (v : Value) : Prop := Held w g 30 #[v]
theorem TB.new (w : World) (v : Value) : TB (w.alloc (.cells #[v] 30)) w.heap.size v := Held.new _ _ _
theorem TB.below {w w' : World} {g B : Nat} {v : Value} (h : TB w g v) (hb : Below B w w') (hg : g < B) : TB w' g v := Held.below h hb hg
theorem TB.cell {w : World} {g : Nat} {v : Value} (h : TB w g v) : w.cell? ⟨g, 0, none⟩ = some v := Held.cell h 0
theorem TB.frozen {w : World} {g : Nat} {v : Value} (h : TB w g v) : w.frozen? ⟨g, 0, none⟩ = false := Held.frozen h 0
theorem TB.set {w : World} {g : Nat} {v : Value} (h : TB w g v) (x : Value) : TB (w.setCell ⟨g, 0, none⟩ x) g x := Held.set1 h 0 x
theorem TB.alloc {w : World} {g : Nat} {v : Value} (h : TB w g v) (o : Obj) : TB (w.alloc o) g v := Held.alloc h o
theorem TB.far {w : World} {g k o : Nat} {v : Value} (h : TB w g v) (hk : g ≠ k) (x : Value) : TB (w.setCell ⟨k, o, none⟩ x) g v := Held.far h hk x
theorem tree_size : (Try.prog.info? 30).map (·.size) = some 1 := by kernel_rfl
theorem TB.lt {w : World} {g : Nat} {v : Value} (h : TB w g v) : g < w.heap.size := Held.lt h

set_option maxHeartbeats 1000000 in
theorem ok_any (l : List N) (D : Option Addr) (c B : Nat) (w : World) (h : TabAt B w D (EN.flat l)) (hl : l.length ≤ 1000) :
    Calls Try.prog 12 #[.agg #[.slice D l.length c]] w (New (.bool (treeF l)) w) := by
  have M0 := Lib.hid (TB.new w (.slice D l.length c))
  have B0 := Lib.hid (below_new w (.cells #[.slice D l.length c] 30))
  by_cases h63 : l.length ≤ 63
  · have hi : ¬ (l.length : Int) > 63 := by omega
    have HE := Lib.hid (fun w' hb => endOf_any 64 l D c 0 B w' (h.below (C := w.heap.size) hb (Nat.le_refl _)) hl (by omega) (by omega))
    have HP := Lib.hid (fun w' hb => panesOf_any l D c B w' (h.below (C := w.heap.size) hb (Nat.le_refl _)) hl)
    have hpl := panesL_len l
    have hf : treeF l = (decide (endF 64 l 0 = some l.length) && decide (panesL l).Nodup) := by unfold treeF; simp [h63]
    rw [hf]
    clear hf h
    generalize endF 64 l 0 = o at *
    generalize panesL l = ps at *
    by_cases ho : o = some l.length
    · subst ho
      rw [show decide (some l.length = some l.length) = true by simp, Bool.true_and]
      go_enter Try.func12, Try.ntmps12
      go_wp2_with fail
      refine (HE.out _ B0.out).mono ?_
      rintro x w2 ⟨rfl, hb⟩
      have m2 := TB.below M0.out hb (by simp)
      have hb2 := B0.out.trans (hb.mono (by simp))
      have k0 := m2.cell
      unfold endV
      simp only [Option.getD_some, Option.isSome_some]
      go_wp2_with fail
      refine (HP.out _ hb2).mono ?_
      rintro x w3 ⟨v, rfl, ho, hb3⟩
      have hsv := SV.of_own (E := EI) ho (by decide)
      obtain ⟨E, ce, rfl, hc, ht⟩ := hsv
      have hb4 := hb2.trans (hb3.mono hb2.size)
      have HU := Lib.hid (unlike_any ps E ce _ w3 ht (by omega) hc)
      clear ho ht
      go_wp2_with fail
      refine HU.out.mono ?_
      rintro x w4 ⟨rfl, rfl⟩
      go_wp2_with fail
      go_ret
      exact ⟨rfl, hb4⟩
    · rw [show decide (o = some l.length) = false by simpa using ho, Bool.false_and]
      go_enter Try.func12, Try.ntmps12
      go_wp2_with fail
      refine (HE.out _ B0.out).mono ?_
      rintro x w2 ⟨rfl, hb⟩
      have m2 := TB.below M0.out hb (by simp)
      have hb2 := B0.out.trans (hb.mono (by simp))
      have k0 := m2.cell
      unfold endV
      cases o with
      | none =>
        simp only [Option.getD_none, Option.isSome_none]
        go_wp2_with fail
        go_ret
        exact ⟨rfl, hb2⟩
      | some e =>
        simp only [Option.getD_some, Option.isSome_some]
        have hne : ((e : Int) == (l.length : Int)) = false := by simp at ho ⊢; omega
        go_wp2_with fail
        go_ret
        exact ⟨rfl, hb2⟩
  · have hi : (l.length : Int) > 63 := by omega
    have hf : treeF l = false := by unfold treeF; simp [h63]
    rw [hf]
    go_enter Try.func12, Try.ntmps12
    go_wp2_with fail
    go_ret
    exact ⟨rfl, B0.out⟩

set_option maxHeartbeats 1000000 in
theorem panes_any (l : List N) (D : Option Addr) (c B : Nat) (w : World) (h : TabAt B w D (EN.flat l)) (hl : l.length ≤ 1000) :
    Calls Try.prog 13 #[.agg #[.slice D l.length c]] w (OwnP EI 3 w (if treeF l = true then panesL l else [])) := by
  have M0 := Lib.hid (TB.new w (.slice D l.length c))
  have B0 := Lib.hid (below_new w (.cells #[.slice D l.length c] 30))
  have HO := Lib.hid (fun w' hb => ok_any l D c B w' (h.below (C := w.heap.size) hb (Nat.le_refl _)) hl)
  have HP := Lib.hid (fun w' hb => panesOf_any l D c B w' (h.below (C := w.heap.size) hb (Nat.le_refl _)) hl)
  clear h
  generalize treeF l = ok at *
  generalize panesL l = ps at *
  cases ok with
  | true =>
    rw [if_pos rfl]
    go_enter Try.func13, Try.ntmps13
    go_wp2_with fail
    refine (HO.out _ B0.out).mono ?_
    rintro x w2 ⟨rfl, hb⟩
    have m2 := TB.below M0.out hb (by simp)
    have hb2 := B0.out.trans (hb.mono (by simp))
    have k0 := m2.cell
    go_wp2_with fail
    refine (HP.out _ hb2).mono ?_
    rintro x w3 ⟨v, rfl, ho, hb3⟩
    have HW := Lib.hid ho
    clear ho
    go_wp2_with fail
    go_ret
    exact ⟨v, rfl, own_weak HW.out hb2.size, hb2.trans (hb3.mono hb2.size)⟩
  | false =>
    rw [if_neg (by simp)]
    go_enter Try.func13, Try.ntmps13
    go_wp2_with fail
    refine (HO.out _ B0.out).mono ?_
    rintro x w2 ⟨rfl, hb⟩
    have hb2 := B0.out.trans (hb.mono (by simp))
    go_wp2_with fail
    go_ret
    exact ⟨_, rfl, World.ownsRow_nil _ _ 3 1, hb2⟩

/-- A row of nodes is a tree. -/
structure Is (l : List N) (t : T) : Prop where
  eq : l = t.flat 0
  ok : t.ok
  size : t.size ≤ 63
  un : t.panes.Nodup
theorem Is.treeF {l : List N} {t : T} (h : Is l t) : treeF l = true := by
  obtain ⟨rfl, ho, hs, hu⟩ := h
  unfold Ytojgmofpgefonaa.treeF
  rw [panesL_tree t 0 ho, endF_tree t 64 _ 0 t.at_all ho (by omega), T.flat_len]
  simp [hs, hu]
theorem Is.panes {l : List N} {t : T} (h : Is l t) : panesL l = t.panes := by
  obtain ⟨rfl, ho, _⟩ := h
  exact panesL_tree t 0 ho
theorem Is.len {l : List N} {t : T} (h : Is l t) : l.length = t.size := by rw [h.eq, T.flat_len]
theorem Is.all {l : List N} {t : T} (h : Is l t) : t.At l 0 := by rw [h.eq]; exact t.at_all

set_option maxHeartbeats 1000000 in
theorem least_no (l : List N) (D : Option Addr) (c B : Nat) (w : World) (h : TabAt B w D (EN.flat l)) (hl : l.length ≤ 1000) (hn : treeF l = false) :
    Calls Try.prog 11 #[.agg #[.slice D l.length c]] w (New (.tuple #[.int .i64 0, .int .i64 0]) w) := by
  have B0 := Lib.hid (below_new w (.cells #[.slice D l.length c] 30))
  have HO := Lib.hid (fun w' hb => ok_any l D c B w' (h.below (C := w.heap.size) hb (Nat.le_refl _)) hl)
  rw [hn] at HO
  clear h hn
  go_enter Try.func11, Try.ntmps11
  go_wp2_with fail
  refine (HO.out _ B0.out).mono ?_
  rintro x w2 ⟨rfl, hb⟩
  have hb2 := B0.out.trans (hb.mono (by simp))
  go_wp2_with fail
  exact bodyPost_ret (v := .tuple #[.int .i64 0, .int .i64 0]) (by simp [results, Try.results11, go_sem]) rfl ⟨rfl, hb2⟩
set_option maxHeartbeats 1000000 in
theorem least_any (l : List N) (t : T) (D : Option Addr) (c B : Nat) (w : World) (h : TabAt B w D (EN.flat l)) (ht : Is l t) :
    Calls Try.prog 11 #[.agg #[.slice D l.length c]] w (New (.tuple #[.int .i64 t.lw, .int .i64 t.lh]) w) := by
  have hl : l.length ≤ 1000 := by rw [ht.len]; have := ht.size; omega
  have M0 := Lib.hid (TB.new w (.slice D l.length c))
  have B0 := Lib.hid (below_new w (.cells #[.slice D l.length c] 30))
  have HO := Lib.hid (fun w' hb => ok_any l D c B w' (h.below (C := w.heap.size) hb (Nat.le_refl _)) hl)
  rw [ht.treeF] at HO
  have HP := Lib.hid (fun w' hb => leastOf_any t l D c 0 B w' (h.below (C := w.heap.size) hb (Nat.le_refl _)) ht.all ht.ok hl)
  clear h
  generalize t.lw = a at *
  generalize t.lh = b at *
  go_enter Try.func11, Try.ntmps11
  go_wp2_with fail
  refine (HO.out _ B0.out).mono ?_
  rintro x w2 ⟨rfl, hb⟩
  have m2 := TB.below M0.out hb (by simp)
  have hb2 := B0.out.trans (hb.mono (by simp))
  have k0 := m2.cell
  go_wp2_with fail
  refine (HP.out _ hb2).mono ?_
  rintro x w3 ⟨rfl, hb3⟩
  have hb4 := hb2.trans (hb3.mono hb2.size)
  go_wp2_with fail
  exact bodyPost_ret (v := .tuple #[.int .i64 a, .int .i64 b]) (by simp [results, Try.results11, go_sem]) rfl ⟨rfl, hb4⟩

/-- A tree comes back, in a row of the call's own. -/
def TreeP (w : World) (l : List N) (e : Ending) (w' : World) : Prop := ∃ v, e = .returned (.agg #[v]) ∧ w'.ownsRow w.heap.size 23 5 v l.length (EN.flat l) ∧ Below w.heap.size w w'
theorem EN_one (n : N) : EN.flat [n] = [.int .i64 n.p, .int .i64 n.d, .int .i64 n.f, .int .i64 n.a, .int .i64 n.b] := rfl
theorem own_one (w : World) (t : TypeId) (sz : Nat) (xs : List Value) (h : xs.length = sz) : (w.alloc (.cells xs.toArray t)).ownsRow w.heap.size t sz (.slice (some ⟨w.heap.size, 0, none⟩) 1 1) 1 xs :=
  own_new w t sz 1 xs (by omega) (by omega)
set_option maxHeartbeats 1000000 in
theorem one_any (p : Int) (w : World) (hp : 1 ≤ p) : Calls Try.prog 31 #[.int .i64 p] w (TreeP w [leafN p]) := by
  have hm : ¬ (1 : Int) > p := by omega
  have HA := Lib.hid (leaf_any p)
  go_enter Try.func31, Try.ntmps31
  go_wp2_with fail
  refine (HA.out _).mono ?_
  rintro x w2 ⟨rfl, hb⟩
  have m2 := TB.below (TB.new w (.slice none 0 0)) hb (by simp)
  have hb2 := (below_new w (.cells #[.slice none 0 0] 30)).trans (hb.mono (by simp))
  have hs := m2.lt
  have k0 := m2.cell
  unfold nv leafN
  dsimp only
  have kf := m2.frozen
  go_wp2_with fail
  refine bodyPost_ret (v := .agg #[.slice (some ⟨w2.heap.size, 0, none⟩) 1 1]) (results_cell_row (P := Try.prog) Try.results31 _ _ w.heap.size 30 _ (0, 0) _ rfl ((m2.set _).alloc _) Try.underlying30 rfl tree_size) rfl ⟨_, rfl, ?_, ?_⟩
  · have := own_one (w2.setCell ⟨w.heap.size, 0, none⟩ (.slice (some ⟨w2.heap.size, 0, none⟩) 1 1)) 23 5 [.int .i64 p, .int .i64 0, .int .i64 0, .int .i64 0, .int .i64 0] rfl
    simp only [World.size_setCell] at this
    exact own_weak this hb2.size
  · exact (hb2.setCell (p := ⟨w.heap.size, 0, none⟩) (Nat.le_refl _) _).trans ((below_new _ _).mono (by simpa using hb2.size))

set_option maxHeartbeats 1000000 in
theorem rone_any (p : Int) (w : World) (hp : 1 ≤ p) : Calls Try.prog 32 #[.int .i64 p] w (TreeP w [leafN p]) := by
  have hm : ¬ (1 : Int) > p := by omega
  go_enter Try.func32, Try.ntmps32
  go_wp2_with fail
  have h1 := own_one (w.alloc (.cells #[.slice (some ⟨w.heap.size + 1, 0, none⟩) 1 1] 30)) 23 5 [.int .i64 p, .int .i64 0, .int .i64 0, .int .i64 0, .int .i64 0] rfl
  simp only [World.size_alloc] at h1
  refine bodyPost_ret (v := .agg #[.slice (some ⟨w.heap.size + 1, 0, none⟩) 1 1]) (results_cell_row (P := Try.prog) Try.results32 _ _ w.heap.size 30 _ (0, 0) _ rfl ((TB.new _ _).alloc _) Try.underlying30 rfl tree_size) rfl ⟨_, rfl, ?_, ?_⟩
  · exact own_weak h1 (by omega)
  · exact (below_new _ _).alloc (by simp) _
end Go.Proofs.Ytojgmofpgefonaa
