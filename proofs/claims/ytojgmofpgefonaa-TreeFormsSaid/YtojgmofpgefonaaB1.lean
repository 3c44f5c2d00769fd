/-
  What part, Ok, Panes and at of the document's own answer give, of a tree. Conditions: trees of at most 63 nodes.
-/
import Derived.Test.YtojgmofpgefonaaA5
namespace Go.Proofs.Ytojgmofpgefonaa
open Go.RowKit
set_option linter.unusedSimpArgs false
set_option maxRecDepth 100000

set_option maxHeartbeats 1000000 in
theorem rpart_tree (t : T) : ∀ (l : List N) (D : Option Addr) (c i B : Nat) (w : World), TabAt B w D (EN.flat l) → t.At l i → t.ok → l.length ≤ 1000 →
    Calls Try.prog 66 #[.slice D l.length c, .int .i64 i] w (New (.int .i64 ((i + t.size : Nat) : Int)) w) := by
  induction t with
  | leaf p =>
    intro l D c i B w h hi ho hl
    obtain ⟨b, off, rfl, h1, h2, h3, c0, c1, c2, c3, c4⟩ := node_at h i _ hi
    have hi' : (i : Int) < (l.length : Int) := by have := T.at_lt hi; simp [T.size] at this; omega
    have hg : ¬ (i : Int) ≥ (l.length : Int) := by omega
    have hn : ¬ (i : Int) < 0 := by omega
    have ho' : 0 < p := ho
    dsimp only [leafN] at c0 c1 c2 c3 c4
    go_enter Try.func66, Try.ntmps66
    go_wp2_with fail
    go_ret
    exact ⟨ret_i (by simp [T.size]), below_new _ _⟩
  | fork d f x y hx hy =>
    intro l D c i B w h hi ho hl
    obtain ⟨b, off, rfl, h1, h2, h3, c0, c1, c2, c3, c4⟩ := node_at h i _ hi.1
    have hi' : (i : Int) < (l.length : Int) := by have := T.at_lt hi; simp [T.size] at this; omega
    have hg : ¬ (i : Int) ≥ (l.length : Int) := by omega
    have hn : ¬ (i : Int) < 0 := by omega
    have HX := Lib.hid (fun w' c hb => hx l _ c (i + 1) B w' (h.below (C := w.heap.size) hb (Nat.le_refl _)) hi.2.1 ho.2.2.2.1 hl)
    have HY := Lib.hid (fun w' c hb => hy l _ c (i + 1 + x.size) B w' (h.below (C := w.heap.size) hb (Nat.le_refl _)) hi.2.2 ho.2.2.2.2 hl)
    have hlt := T.at_lt hi
    have es : (T.fork d f x y).size = x.size + y.size + 1 := rfl
    rw [es] at hlt ⊢
    have hd := ho.1
    have f1 := ho.2.1
    have f2 := ho.2.2.1
    have g1 : ¬ f < 1 := by omega
    have g2 : ¬ f > 1000 := by omega
    clear hx hy ho h hi
    dsimp only [T.forkN] at c0 c1 c2 c3 c4
    generalize x.size = a at *
    generalize y.size = bs at *
    have M0 := Lib.hid (NB.new w 0 d f ((i + 1 : Nat) : Int) ((i + 1 + a : Nat) : Int))
    have B0 := Lib.hid (below_new w (.cells #[.int .i64 0, .int .i64 d, .int .i64 f, .int .i64 ((i + 1 : Nat) : Int), .int .i64 ((i + 1 + a : Nat) : Int)] 23))
    have e1 : ((i + 1 : Nat) : Int) = (i : Int) + 1 := by omega
    have e2 : ((i + 1 + a : Nat) : Int) = (i : Int) + 1 + a := by omega
    rw [e1, e2] at M0 B0
    rw [e1] at HX c3
    rw [e2] at HY HX c4
    have hge : (i : Int) + 1 + a ≥ 0 := by omega
    rcases hd with rfl | rfl
    all_goals
      go_enter Try.func66, Try.ntmps66
      go_wp2_with fail
      refine (HX.out _ c B0.out).mono ?_
      rintro e w2 ⟨rfl, hb⟩
      have m2 := NB.below M0.out hb (by simp)
      have hb2 := B0.out.trans (hb.mono (by simp))
      clear c0 c1 c2 c3 c4
      obtain ⟨n0, n1, n2, n3, n4⟩ := m2.cells
      dsimp only at n0 n1 n2 n3 n4
      go_wp2_with fail
      refine (HY.out _ c hb2).mono ?_
      rintro e w3 ⟨rfl, hb3⟩
      have hb4 := hb2.trans (hb3.mono hb2.size)
      go_wp2_with fail
      go_ret
      exact ⟨ret_i (by omega), hb4⟩

/-- Any two places of unlike numbers above none differ. -/
theorem filt_ne (m : List N) (x : Int) (hx : 0 < x) (hn : x ∉ panesL m) (k : Nat) (y : N) (hk : m[k]? = some y) : y.p ≠ x := by
  rintro rfl
  refine hn ?_
  unfold panesL
  rw [List.mem_filter, List.mem_map]
  exact ⟨⟨y, List.mem_of_getElem? hk, rfl⟩, by simpa using hx⟩
theorem un_of {l : List N} (h : (panesL l).Nodup) {i k : Nat} {x y : N} (hi : l[i]? = some x) (hk : l[k]? = some y) (hki : k < i) (hp : 0 < x.p) : x.p ≠ y.p := by
  intro e
  have h1 := List.take_append_drop i l
  rw [← h1, panesL_app, List.nodup_append] at h
  have a1 : x.p ∈ panesL (l.drop i) := by
    unfold panesL
    rw [List.mem_filter, List.mem_map]
    exact ⟨⟨x, List.mem_of_getElem? (i := 0) (by rw [List.getElem?_drop]; simpa using hi), rfl⟩, by simpa using hp⟩
  have a2 : y.p ∈ panesL (l.take i) := by
    unfold panesL
    rw [List.mem_filter, List.mem_map]
    exact ⟨⟨y, List.mem_of_getElem? (i := k) (by rw [List.getElem?_take_of_lt hki]; exact hk), rfl⟩, by rw [← e]; simpa using hp⟩
  exact h.2.2 y.p a2 x.p a1 e.symm

def RkRel (w : World) (n : Nat) (i : Value) (wr : World) : Prop := ∃ j m : Nat, i = .int .i64 j ∧ j ≤ n ∧ wr = w.drewN m
set_option maxHeartbeats 2000000 in
theorem rok_any (l : List N) (t : T) (D : Option Addr) (c B : Nat) (w : World) (h : TabAt B w D (EN.flat l)) (ht : Is l t) :
    Calls Try.prog 43 #[.agg #[.slice D l.length c]] w (New (.bool true) w) := by
  have hn := ht.len
  have hs := ht.size
  have hs0 := t.size_pos
  have hl : l.length ≤ 1000 := by omega
  have M0 := Lib.hid (TB.new w (.slice D l.length c))
  have B0 := Lib.hid (below_new w (.cells #[.slice D l.length c] 30))
  have HP := Lib.hid (fun w' hb => rpart_tree t l D c 0 B w' (h.below (C := w.heap.size) hb (Nat.le_refl _)) ht.all ht.ok hl)
  have HT := Lib.hid (fun w' hb => h.below (w' := w') (C := w.heap.size) hb (Nat.le_refl _))
  have hun : (panesL l).Nodup := by rw [ht.panes]; exact ht.un
  have HU := Lib.hid hun
  clear hun h
  have q1 : ¬ (l.length : Int) < 1 := by omega
  have q2 : ¬ (l.length : Int) > 63 := by omega
  have q3 : ((0 + t.size : Nat) : Int) = (l.length : Int) := by omega
  rw [q3] at HP
  have hl63 : l.length ≤ 63 := by omega
  clear hn hs hs0 q3
  go_enter Try.func43, Try.ntmps43
  go_wp2_with fail
  refine (HP.out _ B0.out).mono ?_
  rintro e w2 ⟨rfl, hb⟩
  have hb2 := B0.out.trans (hb.mono (by simp))
  clear hb
  go_wp2_with fail
  go_loopw [4] (RkRel w2 l.length) (fun i _ => l.length - (intOf i).toNat)
  case atStart => exact ⟨0, 0, rfl, Nat.zero_le _, rfl⟩
  case round =>
    obtain ⟨j, m, rfl, hj, hw⟩ := hrel
    have HW := Lib.hid hw
    clear hw
    by_cases hlt : j < l.length
    · have hji : (j : Int) < (l.length : Int) := by omega
      go_wp2_with fail
      go_loopw [5] (RkRel w2 j) (fun i _ => j - (intOf i).toNat)
      case atStart => exact ⟨0, m, rfl, Nat.zero_le _, HW.out⟩
      case round =>
        obtain ⟨k, m2, rfl, hk, hw⟩ := hrel
        have hb3 := below_drewN hb2 m2
        rw [← hw] at hb3
        have HW2 := Lib.hid hw
        clear hw
        by_cases hkj : k < j
        · have hkji : (k : Int) < (j : Int) := by omega
          have hkl : (k : Int) < (l.length : Int) := by omega
          have gj := List.getElem?_eq_getElem hlt
          have gk := List.getElem?_eq_getElem (show k < l.length by omega)
          obtain ⟨b, off, rfl, h1, h2, h3, c0, _, _, _, _⟩ := node_at (HT.out _ hb3) j _ gj
          obtain ⟨b', off', eb, _, _, _, d0, _, _, _, _⟩ := node_at (HT.out _ hb3) k _ gk
          simp only [Option.some.injEq, Addr.mk.injEq, and_true] at eb
          obtain ⟨rfl, rfl⟩ := eb
          have hne := un_of HU.out gj gk hkj
          clear gj gk
          generalize (l[j]).p = x at *
          generalize (l[k]).p = y at *
          by_cases hx : 0 < x
          · have hd : decide (0 < x) = true := by simpa using hx
            have hxy : (x == y) = false := by simpa using hne hx
            go_wp2_with fail
            go_quiet (fail)
            go_wp2_with fail
            go_roundw
            case rel => exact ⟨k + 1, m2 + nq, by go_num, by omega, by rw [HW2.out, World.drewN_drewN]⟩
            case measure => simp [intOf]; omega
          · have hd : decide (0 < x) = false := by simpa using hx
            go_wp2_with fail
            go_quiet (fail)
            go_wp2_with fail
            go_roundw
            case rel => exact ⟨k + 1, m2 + nq, by go_num, by omega, by rw [HW2.out, World.drewN_drewN]⟩
            case measure => simp [intOf]; omega
        · have ek : k = j := by omega
          subst ek
          go_wp2_with fail
          go_roundw
          case rel => exact ⟨k + 1, m2, by go_num, by omega, HW2.out⟩
          case measure => simp [intOf]; omega
    · have ek : j = l.length := by omega
      subst ek
      go_wp2_with fail
      go_ret
      rw [HW.out]
      exact ⟨rfl, below_drewN hb2 m⟩

def RpRel (w : World) (l : List N) (v i : Value) (wr : World) : Prop := ∃ k : Nat, i = .int .i64 k ∧ k ≤ l.length ∧ wr.ownsRow w.heap.size 3 1 v (panesL (l.take k)).length (EI.flat (panesL (l.take k))) ∧ Below w.heap.size w wr
end Go.Proofs.Ytojgmofpgefonaa
