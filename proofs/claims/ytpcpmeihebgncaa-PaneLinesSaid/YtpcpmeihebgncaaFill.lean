/-
  What slices.Clone of a row answers, and what own, fitted and blanks of package grid answer. Conditions: rows of at most a thousand cells, tables of at most a thousand and fifty lines.
-/
import Derived.Test.YtpcpmeihebgncaaApp
namespace Go.Proofs.Ytpcpmeihebgncaa
open Go.RowKit
set_option maxRecDepth 100000

/-- A row of the call's own comes back. -/
def VPost (w : World) (l : List C) (e : Ending) (w' : World) : Prop := ∃ D c, e = .returned (.slice D l.length c) ∧ l.length ≤ c ∧ RowAt w.heap.size w' D l ∧ Below w.heap.size w w'
theorem RowPost.v {w : World} {l : List C} {e : Ending} {w' : World} (h : RowPost w l e w') : VPost w l e w' := by
  obtain ⟨g, rfl, hg, hr, hb⟩ := h
  exact ⟨some ⟨g, 0, none⟩, _, rfl, Nat.le_refl _, hr.at hg, hb⟩

set_option maxHeartbeats 400000 in
theorem clone_any (D : Option Addr) (c : Nat) (l : List C) (w : World) (hr : RowAt 0 w D l) (hn : l.length ≤ 1000) : Calls Try.prog 95 #[.slice D l.length c] w (VPost w l) := by
  cases D with
  | none =>
    obtain rfl : l = [] := by
      cases l with
      | nil => rfl
      | cons v vs => obtain ⟨b, off, e, _⟩ := hr 0 (by simp); cases e
    clear hr
    have q := fun (w : World) (a : Option Addr) (n c n' c' : Nat) => Lib.run_eql_slice_nil (P := Try.prog) w 46 48 a n c n' c' Try.underlying46
    go_enter Try.func95, Try.ntmps95
    go_wp2
    go_ret
    exact ⟨none, 0, rfl, Nat.le_refl _, RowAt.nil _ _ _, Below.refl _ _⟩
  | some a =>
    have hs := (hr.below ((Below.refl w.heap.size w).alloc (Nat.le_refl _) (.cells #[] 48)) (Nat.le_refl _)).src
    have ho := own_new w 48 2 0 [] rfl (by decide)
    have HS := Lib.hid hs
    have HO := Lib.hid ho
    clear hs ho hr
    have HL := Lib.hid (cvs_len l)
    have q := fun (w : World) (a : Option Addr) (n c n' c' : Nat) => Lib.run_eql_slice_nil (P := Try.prog) w 46 48 a n c n' c' Try.underlying46
    go_enter Try.func95, Try.ntmps95
    go_wp2_with (
      at_builtin
      refine wpList_append_src _ rfl (.tmp 5) (.tmp 6) 46 rfl rowC w.heap.size 0 l.length c _ (some a) [] (cvs l) rfl rfl HO.out HS.out HL.out (cvs_one l) (by omega) (by simp) ?_
      rintro v1 w1 ⟨ho1, hb1, _⟩)
    go_ret
    obtain ⟨D', c', rfl, h1, h2⟩ := own_row ho1
    exact ⟨D', c', rfl, h1, h2, ((Below.refl _ _).alloc (Nat.le_refl _) _).trans hb1⟩

/-! ### tables that are filled line by line -/
def nilV : Value := .slice none 0 0
/-- The first lines are there, the others are nil. -/
def fillV (vs : List Value) (n : Nat) : List Value := vs ++ List.replicate (n - vs.length) nilV
theorem fillV_len (vs : List Value) (n : Nat) (h : vs.length ≤ n) : (fillV vs n).length = n := by simp [fillV]; omega
theorem fillV_next (vs : List Value) (n : Nat) (v : Value) (h : vs.length < n) : (fillV vs n).set vs.length v = fillV (vs ++ [v]) n := by
  unfold fillV
  obtain ⟨m, hm⟩ : ∃ m, n - vs.length = m + 1 := ⟨n - vs.length - 1, by omega⟩
  have hm2 : n - (vs ++ [v]).length = m := by simp; omega
  rw [hm, hm2, List.set_append_right _ _ (Nat.le_refl _), Nat.sub_self, List.replicate_succ, List.set_cons_zero]
  simp
theorem fillV_cell {w : World} {g : Nat} {vs : List Value} {n : Nat} (h : Held w g 46 (fillV vs n).toArray) (hl : vs.length < n) : w.cell? ⟨g, vs.length, none⟩ = some nilV := by
  rw [h.cell]
  have hr : 0 < n - vs.length := by omega
  simp [fillV, hr]
theorem fillV_set {w : World} {g : Nat} {vs : List Value} {n : Nat} (h : Held w g 46 (fillV vs n).toArray) (hl : vs.length < n) (v : Value) : Held (w.setCell ⟨g, vs.length, none⟩ v) g 46 (fillV (vs ++ [v]) n).toArray := by
  rw [← fillV_next vs n v hl]
  simpa using h.set1 vs.length v

/-- The table in block g holds the first lines of M. -/
structure FillSt (w : World) (g : Nat) (M : List (List C)) (vs : List Value) (wr : World) : Prop where
  le : vs.length ≤ M.length
  table : Held wr g 46 (fillV vs M.length).toArray
  rows : RowsV w.heap.size wr vs (M.take vs.length)
  below : Below w.heap.size w wr
def FillRel (w : World) (g : Nat) (M : List (List C)) (i : Value) (wr : World) : Prop := ∃ vs, i = .int .i64 (vs.length : Int) ∧ FillSt w g M vs wr

/-- Lines of the call's own come back. -/
def LinesPost (w : World) (M : List (List C)) (e : Ending) (w' : World) : Prop := ∃ g, e = .returned (.slice (some ⟨g, 0, none⟩) M.length M.length) ∧ Lines w.heap.size w' (some ⟨g, 0, none⟩) M ∧ Below w.heap.size w w'
theorem FillSt.start (w : World) (M : List (List C)) : FillSt w w.heap.size M [] (w.alloc (.cells (List.replicate M.length (Value.slice none 0 0)).toArray 46)) :=
  ⟨Nat.zero_le _, Held.new _ _ _, RowsV.nil _ _, (Below.refl _ _).alloc (Nat.le_refl _) _⟩
theorem setCell_below (w : World) (g i : Nat) (v : Value) : Below g w (w.setCell ⟨g, i, none⟩ v) := (Below.refl g w).setCell (p := ⟨g, i, none⟩) (Nat.le_refl _) v
/-- A row that lies in other blocks than g. -/
theorem RowV.set {B : Nat} {w : World} {v : Value} {l : List C} (h : RowV B w v l) (p : Addr) (u x : Value) (hp : w.cell? p = some u) (hu : ∀ k n, u ≠ .int k n) : RowV B (w.setCell p x) v l := by
  obtain ⟨D, c, e, h1, h2⟩ := h
  refine ⟨D, c, e, h1, fun k hk => ?_⟩
  obtain ⟨b, off, e', h0, h3, hf, h4, h5⟩ := h2 k hk
  refine ⟨b, off, e', h0, by simpa using h3, fun o => by simpa using hf o, ?_, ?_⟩
  · rw [World.cell?_setCell_other _ _ _ _ (by rintro rfl; rw [h4] at hp; cases hp; exact hu _ _ rfl)]
    exact h4
  · rw [World.cell?_setCell_other _ _ _ _ (by rintro rfl; rw [h5] at hp; cases hp; exact hu _ _ rfl)]
    exact h5
theorem FillSt.next {w wr w1 : World} {g : Nat} {M : List (List C)} {vs : List Value} (h : FillSt w g M vs wr) (hg : w.heap.size ≤ g) (hb : Below wr.heap.size wr w1) (hk : vs.length < M.length) {v : Value} (hv : RowV wr.heap.size w1 v M[vs.length]) :
    FillSt w g M (vs ++ [v]) (w1.setCell ⟨g, vs.length, none⟩ v) := by
  have ht := h.table.below hb h.table.lt
  have hc := fillV_cell ht hk
  refine ⟨by simp; omega, fillV_set ht hk v, ?_, (below_next h.below hb).setCell (p := ⟨g, vs.length, none⟩) hg v⟩
  have h1 : RowsV w.heap.size w1 (vs ++ [v]) (M.take (vs ++ [v]).length) := by
    have e : M.take (vs ++ [v]).length = M.take vs.length ++ [M[vs.length]] := by simp
    rw [e]
    exact (h.rows.below hb (Nat.le_refl _)).append (RowsV.one (hv.weak h.below.size))
  exact ⟨h1.1, fun k a b => (h1.2 k a b).set _ nilV v hc (by intro _ _ e; cases e)⟩
theorem FillSt.post {w wr : World} {g : Nat} {M : List (List C)} {vs : List Value} (h : FillSt w g M vs wr) (hg : w.heap.size ≤ g) (hk : vs.length = M.length) : LinesPost w M (.returned (.slice (some ⟨g, 0, none⟩) M.length M.length)) wr := by
  refine ⟨g, rfl, ⟨vs, ?_, ?_⟩, h.below⟩
  · have := h.table
    rw [fillV, hk, Nat.sub_self, List.replicate_zero, List.append_nil] at this
    exact this.tab hg
  · have := h.rows
    rw [hk, List.take_length] at this
    exact this

set_option maxHeartbeats 400000 in
theorem own_any (D : Option Addr) (c : Nat) (M : List (List C)) (w : World) (hr : Lines 0 w D M) (hn : M.length ≤ 1050) (hl : ∀ r ∈ M, r.length ≤ 1000) : Calls Try.prog 92 #[.slice D M.length c] w (LinesPost w M) := by
  have hm := run_makeL w M.length (by omega)
  have HS := Lib.hid (FillSt.start w M)
  have HR := Lib.hid hr
  clear hr
  go_enter Try.func92, Try.ntmps92
  go_wp2_with fail
  go_loopw [11] (FillRel w w.heap.size M) (fun i _ => M.length - (intOf i).toNat)
  case atStart => exact ⟨[], rfl, HS.out⟩
  case round =>
    obtain ⟨vs, rfl, hst⟩ := hrel
    by_cases hlt : vs.length < M.length
    · have hki : (vs.length : Int) < (M.length : Int) := by omega
      obtain ⟨b, off, E, ce, rfl, _, hbl, _, hcell, hce, hrow⟩ := (HR.out.below hst.below (Nat.le_refl _)).at vs.length hlt
      have hrn : M[vs.length].length ≤ 1000 := hl _ (List.getElem_mem _)
      have HROW := Lib.hid hrow
      clear hrow
      have HCL := Lib.hid (clone_any E ce M[vs.length] wr HROW.out hrn)
      have HST := Lib.hid hst
      have hfl := fillV_cell hst.table hlt
      have hgl := hst.table.lt
      have hfz := hst.table.frozen
      clear hst hrn
      generalize hq : M[vs.length] = q at *
      have HQ := Lib.hid hq
      clear hq
      go_wp2_with (
        go_at_call 95
        refine HCL.out.mono ?_
        rintro e w1 ⟨D1, c1, rfl, hc1, hr1, hb1⟩
        have hfl1 := (fillV_cell (HST.out.table.below hb1 hgl) hlt)
        have hfz1 := (HST.out.table.below hb1 hgl).frozen)
      go_roundw
      case rel =>
        refine ⟨vs ++ [.slice D1 q.length c1], by simp, HST.out.next (Nat.le_refl _) hb1 hlt ⟨D1, c1, ?_, ?_, ?_⟩⟩
        · rw [HQ.out]
        · rw [HQ.out]; exact hc1
        · rw [HQ.out]; exact hr1
      case measure => simp [intOf]; omega
    · have ek : vs.length = M.length := by have := hst.le; omega
      have hki : ¬ (vs.length : Int) < (M.length : Int) := by omega
      have HP := Lib.hid (hst.post (Nat.le_refl _) ek)
      clear hst ek
      go_wp2_with fail
      go_ret
      exact HP.out

theorem own_own (B n : Nat) (v : Value) (vs : List Value) (M : List (List C)) (w : World) (h : w.ownsRow B 46 1 v n vs) (hr : RowsV 0 w vs M) (hn : M.length ≤ 1050) (hl : ∀ r ∈ M, r.length ≤ 1000) : Calls Try.prog 92 #[v] w (LinesPost w M) := by
  obtain ⟨D, c, rfl, _, ht⟩ := own_tab h
  rw [hr.1]
  exact own_any D c M w ⟨vs, ht.weak (Nat.zero_le _), hr⟩ hn hl

def fittedF (L : List (List C)) (x : Int) (h : Nat) : List (List C) := (List.range h).map fun y => if hy : y < L.length then fitF L[y] x else blankF x
theorem fittedF_len (L : List (List C)) (x : Int) (h : Nat) : (fittedF L x h).length = h := by simp [fittedF]
theorem fittedF_in (L : List (List C)) (x : Int) (h y : Nat) (hy : y < (fittedF L x h).length) (hl : y < L.length) : (fittedF L x h)[y] = fitF L[y] x := by simp [fittedF, hl]
theorem fittedF_out (L : List (List C)) (x : Int) (h y : Nat) (hy : y < (fittedF L x h).length) (hl : ¬ y < L.length) : (fittedF L x h)[y] = blankF x := by simp [fittedF, hl]

set_option maxHeartbeats 400000 in
theorem fitted_any (D : Option Addr) (c : Nat) (L : List (List C)) (x : Int) (h : Nat) (w : World) (hr : Lines 0 w D L) (hn : h ≤ 1050) : Calls Try.prog 90 #[.slice D L.length c, .int .i64 x, .int .i64 h] w (LinesPost w (fittedF L x h)) := by
  have hm := run_makeL w h (by omega)
  have hS := FillSt.start w (fittedF L x h)
  have HF := Lib.hid (fittedF_in L x h)
  have HO := Lib.hid (fittedF_out L x h)
  have hlen := fittedF_len L x h
  obtain ⟨M, hM⟩ : ∃ M, M = fittedF L x h := ⟨_, rfl⟩
  rw [← hM] at hS HF HO hlen ⊢
  clear hM
  subst hlen
  have HS := Lib.hid hS
  have HR := Lib.hid hr
  clear hr hS
  go_enter Try.func90, Try.ntmps90
  go_wp2_with fail
  go_loopw [13] (FillRel w w.heap.size M) (fun i _ => M.length - (intOf i).toNat)
  case atStart => exact ⟨[], rfl, HS.out⟩
  case round =>
    obtain ⟨vs, rfl, hst⟩ := hrel
    by_cases hlt : vs.length < M.length
    · have hki : (vs.length : Int) < (M.length : Int) := by omega
      have HST := Lib.hid hst
      have hgl := hst.table.lt
      have hfl := fillV_cell hst.table hlt
      have hfz := hst.table.frozen
      by_cases hL : vs.length < L.length
      · have hLi : (vs.length : Int) < (L.length : Int) := by omega
        obtain ⟨b, off, E, ce, rfl, _, hbl, _, hcell, hce, hrow⟩ := (HR.out.below hst.below (Nat.le_refl _)).at vs.length hL
        have HROW := Lib.hid hrow.read
        have HCL := Lib.hid (fit_any E ce L[vs.length] x wr HROW.out)
        have HQ := Lib.hid (HF.out vs.length hlt hL)
        clear hst hrow HROW
        generalize L[vs.length] = q at *
        generalize fitF q x = r at *
        go_wp2_with (
          go_at_call 127
          refine HCL.out.mono ?_
          rintro e w1 hp1
          obtain ⟨D1, c1, rfl, hc1, hr1, hb1⟩ := hp1.v
          have hfl1 := (fillV_cell (HST.out.table.below hb1 hgl) hlt)
          have hfz1 := (HST.out.table.below hb1 hgl).frozen)
        go_roundw
        case rel =>
          refine ⟨vs ++ [.slice D1 r.length c1], by simp, HST.out.next (Nat.le_refl _) hb1 hlt ⟨D1, c1, ?_, ?_, ?_⟩⟩
          · rw [HQ.out]
          · rw [HQ.out]; exact hc1
          · rw [HQ.out]; exact hr1
        case measure => simp [intOf]; omega
      · have hLi : ¬ (vs.length : Int) < (L.length : Int) := by omega
        have HCL := Lib.hid (blankR_any x wr)
        have HQ := Lib.hid (HO.out vs.length hlt hL)
        clear hst
        generalize blankF x = r at *
        go_wp2_with (
          go_at_call 128
          refine HCL.out.mono ?_
          rintro e w1 hp1
          obtain ⟨D1, c1, rfl, hc1, hr1, hb1⟩ := hp1.v
          have hfl1 := (fillV_cell (HST.out.table.below hb1 hgl) hlt)
          have hfz1 := (HST.out.table.below hb1 hgl).frozen)
        go_roundw
        case rel =>
          refine ⟨vs ++ [.slice D1 r.length c1], by simp, HST.out.next (Nat.le_refl _) hb1 hlt ⟨D1, c1, ?_, ?_, ?_⟩⟩
          · rw [HQ.out]
          · rw [HQ.out]; exact hc1
          · rw [HQ.out]; exact hr1
        case measure => simp [intOf]; omega
    · have ek : vs.length = M.length := by have := hst.le; omega
      have hki : ¬ (vs.length : Int) < (M.length : Int) := by omega
      have HP := Lib.hid (hst.post (Nat.le_refl _) ek)
      clear hst ek
      go_wp2_with fail
      go_ret
      exact HP.out
end Go.Proofs.Ytpcpmeihebgncaa
