/-
  What slices.Index and slices.Contains of numbers, areUnlike and panesOf of tree answer. Conditions: rows of at most a thousand elements.
-/
import Derived.Test.YtojgmofpgefonaaA3
import Derived.StillTailTactics
namespace Go.Proofs.Ytojgmofpgefonaa
open Go.RowKit
set_option linter.unusedSimpArgs false
set_option maxRecDepth 100000

theorem Held.tab {B : Nat} {w : World} {g : Nat} {t : TypeId} {vs : List Value} (h : Held w g t vs.toArray) (hg : B ≤ g) : TabAt B w (some ⟨g, 0, none⟩) vs := fun k hk =>
  ⟨g, 0, rfl, hg, h.lt, h.free, by rw [Nat.zero_add, h.cell k]; simp [hk]⟩

/-- Rows of the call's own come back. -/
def OwnP {α : Type} (E : Enc α) (t : TypeId) (w : World) (l : List α) (e : Ending) (w' : World) : Prop := ∃ v, e = .returned v ∧ w'.ownsRow w.heap.size t E.sz v l.length (E.flat l) ∧ Below w.heap.size w w'

theorem not_mem_next {l : List Int} {k : Nat} {x y : Int} (h : x ∉ l.take k) (hk : l[k]? = some y) (hxy : x ≠ y) : x ∉ l.take (k + 1) := by
  rw [List.take_add_one, hk]
  simp only [Option.toList_some, List.mem_append, List.mem_singleton, not_or]
  exact ⟨h, hxy⟩
def IdxRel (w : World) (l : List Int) (x : Int) (i : Value) (wr : World) : Prop := ∃ k : Nat, i = .int .i64 k ∧ k ≤ l.length ∧ x ∉ l.take k ∧ wr = w
def IdxPost (w : World) (l : List Int) (x : Int) (e : Ending) (w' : World) : Prop := ∃ j : Int, e = .returned (.int .i64 j) ∧ (0 ≤ j ↔ x ∈ l) ∧ w' = w ∧ j ≤ 1000
set_option maxHeartbeats 1000000 in
theorem index_any (l : List Int) (D : Option Addr) (c B : Nat) (x : Int) (w : World) (h : TabAt B w D (EI.flat l)) (hl : l.length ≤ 1000) :
    Calls Try.prog 71 #[.slice D l.length c, .int .i64 x] w (IdxPost w l x) := by
  have HH := Lib.hid h
  clear h
  go_enter Try.func71, Try.ntmps71
  go_wp2_with fail
  go_loopw [8] (IdxRel w l x) (fun i _ => l.length - (intOf i).toNat)
  case atStart => exact ⟨0, rfl, Nat.zero_le _, by simp, rfl⟩
  case round =>
    obtain ⟨k, rfl, hle, hm, rfl⟩ := hrel
    have HM := Lib.hid hm
    clear hm
    by_cases hlt : k < l.length
    · have hki : (k : Int) < (l.length : Int) := by omega
      have hkk := List.getElem?_eq_getElem hlt
      obtain ⟨b, off, rfl, h1, h2, h3, c0⟩ := int_at HH.out k _ hkk
      have HK := Lib.hid hkk
      clear hkk
      generalize l[k] = y at *
      by_cases hxy : x = y
      · subst hxy
        go_wp2_with fail
        go_ret
        exact ⟨(k : Int), rfl, ⟨fun _ => List.mem_of_getElem? HK.out, fun _ => by omega⟩, rfl, by omega⟩
      · have hne : (x == y) = false := by simpa using hxy
        go_wp2_with fail
        go_roundw
        case rel => exact ⟨k + 1, by go_num, by omega, not_mem_next HM.out HK.out hxy, rfl⟩
        case measure => simp [intOf]; omega
    · have ek : k = l.length := by omega
      subst ek
      go_wp2
      go_ret
      have := HM.out
      rw [List.take_length] at this
      exact ⟨-1, rfl, ⟨fun h => by omega, fun h => absurd h this⟩, rfl, by omega⟩

theorem contains_any (l : List Int) (D : Option Addr) (c B : Nat) (x : Int) (w : World) (h : TabAt B w D (EI.flat l)) (hl : l.length ≤ 1000) :
    Calls Try.prog 53 #[.slice D l.length c, .int .i64 x] w (Ans (.bool (decide (x ∈ l))) w) := by
  have H := Lib.hid (index_any l D c B x w h hl)
  clear h
  go_enter Try.func53, Try.ntmps53
  go_wp2_with fail
  refine H.out.mono ?_
  rintro e w2 ⟨j, rfl, hj, rfl, hj2⟩
  go_wp2_with fail
  go_ret
  exact ⟨by first | rfl | exact ret_b (decide_eq_decide.2 hj), rfl⟩

theorem nodup_next {l : List Int} {k : Nat} {y : Int} (h : (l.take k).Nodup) (hk : l[k]? = some y) (hm : y ∉ l.take k) : (l.take (k + 1)).Nodup := by
  rw [List.take_add_one, hk]
  rw [List.nodup_append]
  refine ⟨h, by simp, ?_⟩
  intro a ha b hb
  simp at hb
  subst hb
  rintro rfl
  exact hm ha
theorem not_nodup {l : List Int} {k : Nat} {y : Int} (hk : l[k]? = some y) (hm : y ∈ l.take k) : ¬ l.Nodup := by
  intro h
  have e := List.take_append_drop k l
  rw [← e, List.nodup_append] at h
  refine h.2.2 y hm y ?_ rfl
  rw [List.mem_iff_getElem?]
  exact ⟨0, by rw [List.getElem?_drop]; simpa using hk⟩
def UnRel (w : World) (l : List Int) (i : Value) (wr : World) : Prop := ∃ k : Nat, i = .int .i64 k ∧ k ≤ l.length ∧ (l.take k).Nodup ∧ wr = w
set_option maxHeartbeats 1000000 in
theorem unlike_any (l : List Int) (D : Option Addr) (c B : Nat) (w : World) (h : TabAt B w D (EI.flat l)) (hl : l.length ≤ 1000) (hc : l.length ≤ c) :
    Calls Try.prog 29 #[.slice D l.length c] w (Ans (.bool (decide l.Nodup)) w) := by
  have HH := Lib.hid h
  clear h
  go_enter Try.func29, Try.ntmps29
  go_wp2_with fail
  go_loopw [7] (UnRel w l) (fun i _ => l.length - (intOf i).toNat)
  case atStart => exact ⟨0, rfl, Nat.zero_le _, by simp, rfl⟩
  case round =>
    obtain ⟨k, rfl, hle, hm, rfl⟩ := hrel
    have HM := Lib.hid hm
    clear hm
    by_cases hlt : k < l.length
    · have hki : (k : Int) < (l.length : Int) := by omega
      have hkc : (k : Int) ≤ (c : Int) := by omega
      have hkk := List.getElem?_eq_getElem hlt
      obtain ⟨b, off, rfl, h1, h2, h3, c0⟩ := int_at HH.out k _ hkk
      have ht : TabAt B wr (some ⟨b, off, none⟩) (EI.flat (l.take k)) := by
        have := HH.out.take (k * EI.sz)
        rwa [EI.flat_take] at this
      have hkl : (l.take k).length = k := by rw [List.length_take]; omega
      have CC := Lib.hid (fun c => contains_any (l.take k) _ c B l[k] wr ht (by omega))
      rw [hkl] at CC
      have HK := Lib.hid hkk
      clear hkk ht
      generalize l[k] = y at *
      have hkn : ((k : Int)).toNat = k := by omega
      by_cases hin : y ∈ l.take k
      · rw [show decide (y ∈ l.take k) = true by simpa using hin] at CC
        go_wp2_with fail
        refine (CC.out _).mono ?_
        rintro e w2 ⟨rfl, rfl⟩
        go_wp2_with fail
        go_ret
        exact ⟨ret_b (by have := not_nodup HK.out hin; simp [this]), rfl⟩
      · rw [show decide (y ∈ l.take k) = false by simpa using hin] at CC
        go_wp2_with fail
        refine (CC.out _).mono ?_
        rintro e w2 ⟨rfl, rfl⟩
        go_wp2_with fail
        go_roundw
        case rel => exact ⟨k + 1, by go_num, by omega, nodup_next HM.out HK.out hin, rfl⟩
        case measure => simp [intOf]; omega
    · have ek : k = l.length := by omega
      subst ek
      go_wp2
      go_ret
      have := HM.out
      rw [List.take_length] at this
      exact ⟨ret_b (by simp [this]), rfl⟩

def panesL (l : List N) : List Int := (l.map N.p).filter (fun p => decide (0 < p))
theorem panesL_next {l : List N} {k : Nat} {n : N} (hk : l[k]? = some n) : panesL (l.take (k + 1)) = panesL (l.take k) ++ (if 0 < n.p then [n.p] else []) := by
  rw [List.take_add_one, hk]
  unfold panesL
  rw [List.map_append, List.filter_append]
  congr 1
  by_cases h : 0 < n.p <;> simp [h]
theorem panesL_len (l : List N) : (panesL l).length ≤ l.length := by
  unfold panesL
  exact Nat.le_trans (List.length_filter_le _ _) (by simp)
theorem panesL_app (l m : List N) : panesL (l ++ m) = panesL l ++ panesL m := by simp [panesL]
theorem panesL_tree (t : T) (i : Nat) (h : t.ok) : panesL (t.flat i) = t.panes := by
  induction t generalizing i with
  | leaf p =>
    have h' : 0 < p := h
    simp [panesL, T.flat, leafN, T.panes, h']
  | fork d f x y hx hy =>
    have : ∀ (n : N) (m : List N), n :: m = [n] ++ m := fun _ _ => rfl
    rw [T.flat, this, panesL_app, panesL_app, hx _ h.2.2.2.1, hy _ h.2.2.2.2]
    simp [panesL, T.forkN, T.panes]
def PanRel (w : World) (l : List N) (v i : Value) (wr : World) : Prop := ∃ k : Nat, i = .int .i64 k ∧ k ≤ l.length ∧ wr.ownsRow w.heap.size 3 1 v (panesL (l.take k)).length (EI.flat (panesL (l.take k))) ∧ Below w.heap.size w wr
theorem EI_one (x : Int) : EI.flat [x] = [.int .i64 x] := rfl
set_option maxHeartbeats 1000000 in
theorem panesOf_any (l : List N) (D : Option Addr) (c B : Nat) (w : World) (h : TabAt B w D (EN.flat l)) (hl : l.length ≤ 1000) :
    Calls Try.prog 30 #[.slice D l.length c] w (OwnP EI 3 w (panesL l)) := by
  have HH := Lib.hid (fun wr hb => h.below (w' := wr) (C := w.heap.size) hb (Nat.le_refl _))
  clear h
  go_enter Try.func30, Try.ntmps30
  go_wp2_with fail
  go_loopw [3, 8] (PanRel w l) (fun _ i _ => l.length - (intOf i).toNat)
  case atStart => exact ⟨0, rfl, Nat.zero_le _, by simpa [panesL, Enc.flat] using World.ownsRow_nil w _ 3 1, Below.refl _ _⟩
  case round =>
    obtain ⟨k, rfl, hle, ho, hb⟩ := hrel
    have HO := Lib.hid ho
    clear ho
    by_cases hlt : k < l.length
    · have hki : (k : Int) < (l.length : Int) := by omega
      have hkk := List.getElem?_eq_getElem hlt
      obtain ⟨b, off, rfl, h1, h2, h3, c0, c1, c2, c3, c4⟩ := node_at (HH.out _ hb) k _ hkk
      have HN := Lib.hid (panesL_next hkk)
      have HL := panesL_len (l.take k)
      have hkl : (l.take k).length = k := by rw [List.length_take]; omega
      rw [hkl] at HL
      clear hkk hkl
      generalize l[k] = n at *
      obtain ⟨p, d, f, a, bb⟩ := n
      dsimp only at c0 c1 c2 c3 c4 HN
      generalize panesL (l.take k) = q at *
      by_cases hp : 0 < p
      · rw [if_pos hp] at HN
        have HB2 : Below wr.heap.size wr ((wr.alloc (.cells #[.int .i64 p, .int .i64 d, .int .i64 f, .int .i64 a, .int .i64 bb] 23)).alloc (.cells #[.int .i64 p] 3)) := (below_new _ _).alloc (by simp) _
        have HS : Src ((wr.alloc (.cells #[.int .i64 p, .int .i64 d, .int .i64 f, .int .i64 a, .int .i64 bb] 23)).alloc (.cells #[.int .i64 p] 3)) (some ⟨wr.heap.size + 1, 0, none⟩) [.int .i64 p] := by
          have := TabAt.src (B := 0) (Held.tab (vs := [.int .i64 p]) (Held.new (wr.alloc (.cells #[.int .i64 p, .int .i64 d, .int .i64 f, .int .i64 a, .int .i64 bb] 23)) 3 #[.int .i64 p]) (Nat.zero_le _))
          simpa only [World.size_alloc] using this
        have OB := Lib.hid (own_below HO.out HB2 (Nat.le_refl _))
        have HB3 := Lib.hid (hb.trans (HB2.mono hb.size))
        have H2 := Lib.hid HS
        have hsz := hb.size
        clear HB2 HS
        go_wp2_with (
          at_builtin
          refine wpList_append_src _ rfl (.tmp 15) (.tmp 18) 34 rfl rowI w.heap.size q.length 1 1 _ _ (EI.flat q) [.int .i64 p] rfl rfl OB.out H2.out rfl (by simp [Value.oneCell']) (by omega) (by simp; omega) ?_
          rintro v2 w2 ⟨ho2, hb2, _⟩)
        go_roundw
        case rel => exact ⟨k + 1, by go_num, by omega, by rw [HN.out, EI.flat_app]; simpa [EI_one] using ho2, HB3.out.trans hb2⟩
        case measure => simp [intOf]; omega
      · rw [if_neg hp, List.append_nil] at HN
        go_wp2_with fail
        go_roundw
        case rel => exact ⟨k + 1, by go_num, by omega, by rw [HN.out]; exact own_below HO.out (below_new _ _) (Nat.le_refl _), hb.trans ((below_new _ _).mono hb.size)⟩
        case measure => simp [intOf]; omega
    · have ek : k = l.length := by omega
      subst ek
      have := HO.out
      rw [List.take_length] at this
      go_wp2
      go_ret
      exact ⟨_, rfl, this, hb⟩
end Go.Proofs.Ytojgmofpgefonaa
