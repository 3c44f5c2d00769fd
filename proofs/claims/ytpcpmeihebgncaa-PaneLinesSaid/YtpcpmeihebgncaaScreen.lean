/-
  What screenCleared of package acts answers: the cursor's row cleared as it is asked, and the rows behind it, ahead of it, or all of them blank. Conditions: what is asked is 0, 1 or 2; the rows have at most a thousand cells, there are at most a thousand of them, the cursor's is one of them.
-/
import Derived.Test.YtpcpmeihebgncaaRowClear
namespace Go.Proofs.Ytpcpmeihebgncaa
open Go.RowKit
set_option maxRecDepth 100000

/-- Whether row i is cleared whole. -/
def goesB (part : Int) (y i : Nat) : Bool := if part = 0 then decide (y < i) else if part = 1 then decide (i < y) else true
/-- The first k rows, cleared as it is asked. -/
def scrF (L : List (List C)) (part : Int) (y k : Nat) : List (List C) := L.mapIdx fun i l => if i < k ∧ goesB part y i = true then clearF l 0 l.length else l
theorem scrF_len (L : List (List C)) (part : Int) (y k : Nat) : (scrF L part y k).length = L.length := by simp [scrF]
theorem scrF_at (L : List (List C)) (part : Int) (y k i : Nat) (h : i < (scrF L part y k).length) (h' : i < L.length) : (scrF L part y k)[i] = if i < k ∧ goesB part y i = true then clearF L[i] 0 L[i].length else L[i] := by simp [scrF]
theorem scrF_zero (L : List (List C)) (part : Int) (y : Nat) : scrF L part y 0 = L := by
  apply List.ext_getElem
  · simp [scrF]
  · intro i h1 h2
    rw [scrF_at _ _ _ _ _ h1 h2, if_neg (by omega)]
theorem scrF_skip (L : List (List C)) (part : Int) (y k : Nat) (h : goesB part y k = false) : scrF L part y (k + 1) = scrF L part y k := by
  apply List.ext_getElem
  · simp [scrF]
  · intro i h1 h2
    have h3 : i < L.length := by simpa [scrF] using h1
    rw [scrF_at _ _ _ _ _ h1 h3, scrF_at _ _ _ _ _ h2 h3]
    by_cases e : i = k
    · subst e
      rw [if_neg (by simp [h]), if_neg (by simp)]
    · by_cases c : i < k ∧ goesB part y i = true
      · rw [if_pos c, if_pos ⟨by omega, c.2⟩]
      · rw [if_neg c, if_neg (fun hh => c ⟨by omega, hh.2⟩)]
theorem scrF_next (L : List (List C)) (part : Int) (y k : Nat) (h : goesB part y k = true) (hk : k < L.length) : scrF L part y (k + 1) = (scrF L part y k).set k (clearF L[k] 0 L[k].length) := by
  apply List.ext_getElem
  · simp [scrF]
  · intro i h1 h2
    have h3 : i < L.length := by simpa [scrF] using h1
    rw [scrF_at _ _ _ _ _ h1 h3, List.getElem_set]
    by_cases e : k = i
    · subst e
      rw [if_pos rfl, if_pos ⟨by omega, h⟩]
    · rw [if_neg e, scrF_at _ _ _ _ _ (by simpa [scrF] using h3) h3]
      by_cases c : i < k ∧ goesB part y i = true
      · rw [if_pos c, if_pos ⟨by omega, c.2⟩]
      · rw [if_neg c, if_neg (fun hh => c ⟨by omega, hh.2⟩)]
theorem scrF_self (L : List (List C)) (part : Int) (y k : Nat) (hk : k < L.length) (h : k < (scrF L part y k).length) : (scrF L part y k)[k] = L[k] := by
  rw [scrF_at _ _ _ _ _ h hk, if_neg (by omega)]

/-- The rows so far. -/
structure ScrSt (B : Nat) (w : World) (p : Nm) (g h : Nat) (L Bk : List (List C)) (part : Int) (y k : Nat) (wr : World) : Prop where
  le : k ≤ L.length
  box : Box wr w.heap.size p (.slice (some ⟨g, 0, none⟩) L.length L.length) (.slice (some ⟨h, 0, none⟩) Bk.length Bk.length)
  ans : Box wr (w.heap.size + 1) zeroNm nilV nilV
  scr : OScr B wr g h (scrF L part y k) Bk
  chg : Chg g w wr
def ScrRel (B : Nat) (w : World) (p : Nm) (g h : Nat) (L Bk : List (List C)) (part : Int) (y : Nat) (i : Value) (wr : World) : Prop := ∃ k : Nat, i = .int .i64 (k : Int) ∧ ScrSt B w p g h L Bk part y k wr
theorem ScrSt.drew {B : Nat} {w : World} {p : Nm} {g h : Nat} {L Bk : List (List C)} {part : Int} {y k : Nat} {wr : World} (hs : ScrSt B w p g h L Bk part y k wr) (hg : g < w.heap.size) : ScrSt B w p g h L Bk part y k wr.drew := by
  have hb : Below wr.heap.size wr wr.drew := below_drewN (Below.refl _ _) 1
  have hz := hs.chg.size
  exact ⟨hs.le, hs.box, hs.ans, hs.scr.below hb (Nat.le_refl _), hs.chg.trans (Chg.of hb (by omega))⟩
theorem ScrSt.skip {B : Nat} {w : World} {p : Nm} {g h : Nat} {L Bk : List (List C)} {part : Int} {y k : Nat} {wr : World} (hs : ScrSt B w p g h L Bk part y k wr) (hk : k < L.length) (hg : goesB part y k = false) : ScrSt B w p g h L Bk part y (k + 1) wr :=
  ⟨hk, hs.box, hs.ans, by rw [scrF_skip _ _ _ _ hg]; exact hs.scr, hs.chg⟩
theorem ScrSt.next {B : Nat} {w : World} {p : Nm} {g h : Nat} {L Bk : List (List C)} {part : Int} {y k : Nat} {wr w1 : World} (hs : ScrSt B w p g h L Bk part y k wr) (hk : k < L.length) (hg : goesB part y k = true) (hgl : g < w.heap.size) (hb : Below wr.heap.size wr w1) {D : Option Addr} {c : Nat} (hc : L[k].length ≤ c) (hr : RowAt wr.heap.size w1 D (clearF L[k] 0 L[k].length)) :
    ScrSt B w p g h L Bk part y (k + 1) (w1.setCell ⟨g, k, none⟩ (.slice D L[k].length c)) := by
  have hz := hs.chg.size
  have h1 : Chg g wr (w1.setCell ⟨g, k, none⟩ (.slice D L[k].length c)) := (Chg.of hb (by omega)).set k _
  refine ⟨hk, h1.box hs.box (by omega), h1.box hs.ans (by omega), ?_, hs.chg.trans h1⟩
  rw [scrF_next _ _ _ _ hg hk]
  obtain ⟨vs, hv, _, hrr⟩ := hs.scr.rows
  have ht := (hv.below hb (by omega)).set1 k (.slice D L[k].length c)
  rw [List.setIfInBounds_toArray] at ht
  refine hs.scr.turn hv hrr h1 (D := D) (c := c) ?_ (by rw [clearF_len]; exact hc) (hr.far (p := ⟨g, k, none⟩) (by exact (by omega : g < wr.heap.size)) _)
  rw [clearF_len]
  exact ht

set_option maxHeartbeats 8000000 in
theorem screenCleared_any (B : Nat) (p : Nm) (g h : Nat) (L0 Bk : List (List C)) (part : Int) (y : Nat) (w : World) (hs : OScr B w g h L0 Bk) (x0 : 0 ≤ p.x) (x1 : p.x ≤ 1000) (hy : p.y = y) (hyl : y < L0.length) (hn : ∀ r ∈ L0, r.length ≤ 1000) (hlen : L0.length ≤ 1000) (hp : part = 0 ∨ part = 1 ∨ part = 2) :
    Calls Try.prog 104 #[ov p g h L0 Bk, .int .i64 part] w (TurnPost B g h w p (scrF (L0.set y (rclearF L0[y] part p.x)) part y L0.length) Bk) := by
  have HS := Lib.hid (MS.start w p (.slice (some ⟨g, 0, none⟩) L0.length L0.length) (.slice (some ⟨h, 0, none⟩) Bk.length Bk.length))
  have hgl := hs.rows.lt
  obtain ⟨L, hL⟩ : ∃ L, L = L0.set y (rclearF L0[y] part p.x) := ⟨_, rfl⟩
  have hLn : ∀ r ∈ L, r.length ≤ 1000 := by
    intro r hr
    rw [hL] at hr
    rcases List.mem_or_eq_of_mem_set hr with hr | rfl
    · exact hn r hr
    · rw [rclearF_len]
      exact hn _ (List.getElem_mem _)
  have hLl : L.length = L0.length := by rw [hL, List.length_set]
  have T : Hid (∀ (wx : World), OScr B wx g h L0 Bk → Calls Try.prog 105 #[gv p (.slice (some ⟨g, 0, none⟩) L0.length L0.length) (.slice (some ⟨h, 0, none⟩) Bk.length Bk.length), .int .i64 part] wx (TurnPost B g h wx p L Bk)) := fun wx hs => by
    rw [hL]
    exact rowCleared_any B p g h L0 Bk part y wx hs x0 x1 hy hyl (hn _ (List.getElem_mem _)) hp
  have HH := Lib.hid hs
  rw [← hL, ← hLl]
  have HLL := Lib.hid hLl
  have HLN := Lib.hid hLn
  have HY := Lib.hid hy
  have hLlen : L.length ≤ 1000 := by omega
  obtain ⟨L2, hL2⟩ : ∃ L2, L2 = scrF L part y L.length := ⟨_, rfl⟩
  rw [← hL2]
  have HL2 := Lib.hid hL2
  clear hs hy hn hL x0 x1 hyl hLl hLn hL2
  unfold ov gv gcs
  go_enter Try.func104, Try.ntmps104
  go_upto_region 1 with fail
  refine wp_world (fun wq => MS w p (.slice (some ⟨g, 0, none⟩) L0.length L0.length) (.slice (some ⟨h, 0, none⟩) Bk.length Bk.length) wq) HS.out ?_
  clear HS
  intro w2 ms
  have xg := ms.box
  go_upto_region 2 with (first
    | (with_reducible refine wpList_loadB xg (x := .tmp 2) ?_ ?_ ?_ ?_
       · with_reducible rfl
       · rfl
       · rfl)
    | (go_at_call 105
       refine (T.out w2 (HH.out.below ms.below (Nat.le_refl _))).mono ?_
       rintro e w3 ⟨rfl, s3, c3⟩
       have x3 := c3.box ms.box (by omega)
       have a3 := c3.box ms.ans (by omega))
    | (with_reducible refine wpList_storeA x3 (x := .tmp 2) (y := .tmp 9) (p := p) (D := some ⟨g, 0, none⟩) (E := some ⟨h, 0, none⟩) (n := L.length) (c := L.length) (m := Bk.length) (d := Bk.length) ?_ ?_ ?_ ?_ ?_
       · with_reducible rfl
       · rfl
       · rfl
       · rfl))
  refine wp_world (fun wq => ScrSt B w p g h L Bk part y 0 wq) ⟨Nat.zero_le _, x3.setRow _ _ _, (setRow_other _ _ _ _ (by omega)).trans a3, by rw [scrF_zero]; exact s3.bput x3 _, (Chg.comp ms.below (.inl rfl) hgl c3).setRow hgl (Nat.le_refl _) _⟩ ?_
  clear ms xg x3 a3 s3 c3 T HH HLL hlen
  intro w4 st4
  have cc13 := st4.box.cells.c13
  go_wp2_with fail
  go_loopw [13] (ScrRel B w p g h L Bk part y) (fun i _ => L.length - (intOf i).toNat)
  case atStart => exact ⟨0, rfl, st4⟩
  case round =>
    clear st4 cc13
    obtain ⟨k, rfl, st⟩ := hrel
    have v3 := st.box.cells.c3
    have v13 := st.box.cells.c13
    rw [HY.out] at v3
    have hz : w.heap.size < wr.heap.size := st.box.lt
    by_cases hlt : k < L.length
    · have hki : (k : Int) < (L.length : Int) := by omega
      have hk2 : k < (scrF L part y k).length := by rw [scrF_len]; exact hlt
      obtain ⟨b, off, E, ce, e0, _, hbl, _, hcell, hce, hrow⟩ := st.scr.rows.lines.at k hk2
      cases e0
      rw [scrF_self L part y k hlt hk2] at hcell hce hrow
      rw [Nat.zero_add] at hcell
      have hq := HLN.out _ (List.getElem_mem hlt)
      have HROW := Lib.hid hrow
      have HST := Lib.hid st
      clear hrow st
      rcases hp with rfl | rfl | rfl
      · by_cases hc : y < k
        · have hg0 : goesB 0 y k = true := by simp [goesB]; omega
          have HG := Lib.hid hg0
          clear hg0
          have hci : (k : Int) > (y : Int) := by omega
          go_upto_region 6 with fail
          have d13 : wr.drew.cell? ⟨w.heap.size, 13, none⟩ = some (.slice (some ⟨g, 0, none⟩) L.length L.length) := v13
          have HSD := Lib.hid (HST.out.drew hgl)
          clear v3 v13 hcell
          refine wp_region_held_drew (S := fun w' => w'.cell? ⟨w.heap.size, 13, none⟩ = some (.slice (some ⟨g, 0, none⟩) L.length L.length)) (by kernel_rfl) (by exact d13) (fun hH0 => ?_)
          refine wpAnyH_take (i := 0) (oi := _) (v := .pointer (some ⟨w.heap.size, 13, none⟩)) rfl (by kernel_rfl) (by kernel_rfl) (by kernel_rfl) (fun _ _ _ h => h) (Or.inl ⟨by rfl, ?_⟩) hH0 ?_
          · intro wv hSw
            try dsimp only at hSw
            go_simp
          change wpAnyH _ _ _ _ _ _ _ (Act.put _ (some 40) (.pointer (some ⟨w.heap.size, 13, none⟩))) _
          simp only [Act.put, List.setIfInBounds_toArray, List.set_cons_zero, List.set_cons_succ]
          refine wpAnyH_take (i := 1) (oi := _) (v := .slice (some ⟨g, 0, none⟩) L.length L.length) rfl (by kernel_rfl) (by kernel_rfl) (by kernel_rfl) (fun _ _ _ h => h) (Or.inl ⟨by rfl, ?_⟩) hH0 ?_
          · intro wv hSw
            try dsimp only at hSw
            go_simp
          change wpAnyH _ _ _ _ _ _ _ (Act.put _ (some 41) (.slice (some ⟨g, 0, none⟩) L.length L.length)) _
          simp only [Act.put, List.setIfInBounds_toArray, List.set_cons_zero, List.set_cons_succ]
          refine wpAnyH_take (i := 2) (oi := _) (v := .int .i64 k) rfl (by kernel_rfl) (by kernel_rfl) (by kernel_rfl) (fun _ _ _ h => h) (Or.inl ⟨by rfl, ?_⟩) hH0 ?_
          · intro wv hSw
            try dsimp only at hSw
            go_simp
          change wpAnyH _ _ _ _ _ _ _ (Act.put _ (some 42) (.int .i64 k)) _
          simp only [Act.put, List.setIfInBounds_toArray, List.set_cons_zero, List.set_cons_succ]
          refine wpAnyH_take (i := 3) (oi := _) (v := .slice E L[k].length ce) rfl (by kernel_rfl) (by kernel_rfl) (by kernel_rfl) (fun _ _ _ h => h) (Or.inl ⟨by rfl, ?_⟩) hH0 ?_
          · intro wv hSw
            try dsimp only at hSw
            go_simp
          change wpAnyH _ _ _ _ _ _ _ (Act.put _ (some 43) (.slice E L[k].length ce)) _
          simp only [Act.put, List.setIfInBounds_toArray, List.set_cons_zero, List.set_cons_succ]
          refine wpAnyH_take (i := 4) (oi := _) (v := .slice E L[k].length ce) rfl (by kernel_rfl) (by kernel_rfl) (by kernel_rfl) (fun _ _ _ h => h) (Or.inl ⟨by rfl, ?_⟩) hH0 ?_
          · intro wv hSw
            try dsimp only at hSw
            go_simp
          change wpAnyH _ _ _ _ _ _ _ (Act.put _ (some 44) (.slice E L[k].length ce)) _
          simp only [Act.put, List.setIfInBounds_toArray, List.set_cons_zero, List.set_cons_succ]
          refine wpAnyH_take (i := 5) (oi := _) (v := .int .i64 L[k].length) rfl (by kernel_rfl) (by kernel_rfl) (by kernel_rfl) (fun _ _ _ h => h) (Or.inl ⟨by rfl, ?_⟩) hH0 ?_
          · intro wv hSw
            try dsimp only at hSw
            go_simp
          change wpAnyH _ _ _ _ _ _ _ (Act.put _ (some 45) (.int .i64 L[k].length)) _
          simp only [Act.put, List.setIfInBounds_toArray, List.set_cons_zero, List.set_cons_succ]
          refine wpAnyH_ready (rs := [6]) (by kernel_rfl) (by simp) ?_
          refine AllReadyH.cons (o := _) rfl (fun K hK => ?_) AllReadyH.nil
          go_simp
          refine (clear_any E ce L[k] 0 L[k].length wr.drew (RowAt.read HROW.out) hq).mono ?_
          rintro e w1 hp1
          obtain ⟨D1, c1, rfl, hc1, hr1, hb1⟩ := hp1.v
          rw [clearF_len] at hc1 ⊢
          have t1 := HSD.out.box.below hb1 HSD.out.box.lt
          have z13 := t1.cells.c13
          obtain ⟨vs, hv, _, hrr⟩ := HSD.out.scr.rows
          have hv1 := hv.below hb1 (by exact (by omega : g < wr.heap.size))
          have q1 := hv1.cell k
          have hkv : k < vs.length := by rw [hrr.1]; exact hk2
          rw [List.getElem?_toArray, List.getElem?_eq_getElem hkv] at q1
          have f1 := hv1.frozen
          have hgz : g < w1.heap.size := hv1.lt
          go_wp2_with fail
          refine hK.out _ _ (by exact z13) (fun hH1 => ?_)
          clear hK K
          try simp only [Act.put, List.setIfInBounds_toArray, List.set_cons_zero, List.set_cons_succ]
          refine wpAnyH_take (i := 7) (oi := _) (v := .pointer (some ⟨g, k, none⟩)) rfl (by kernel_rfl) (by kernel_rfl) (by kernel_rfl) (fun _ _ _ h => h) (Or.inl ⟨by rfl, ?_⟩) hH1 ?_
          · intro wv hSw
            try dsimp only at hSw
            go_simp
          change wpAnyH _ _ _ _ _ _ _ (Act.put _ (some 47) (.pointer (some ⟨g, k, none⟩))) _
          simp only [Act.put, List.setIfInBounds_toArray, List.set_cons_zero, List.set_cons_succ]
          refine wpAnyH_ready (rs := [8]) (by kernel_rfl) (by simp) ?_
          refine AllReadyH.cons (o := _) rfl (fun K hK => ?_) AllReadyH.nil
          go_simp
          refine hK.out _ _ (by exact (cell_far (by exact (by omega : w.heap.size ≠ g)) _).trans z13) (fun hH2 => ?_)
          clear hK K
          try simp only [Act.put, List.setIfInBounds_toArray, List.set_cons_zero, List.set_cons_succ]
          refine wpAnyH_done (by kernel_rfl) ?_ _
          clear hH0 hH1 hH2
          clear d13 z13 q1 f1
          go_wp2_with fail
          go_roundw
          case rel => exact ⟨k + 1, by go_num, HSD.out.next hlt HG.out hgl hb1 hc1 hr1⟩
          case measure => simp [intOf]; omega
        · have hg0 : goesB 0 y k = false := by simp [goesB]; omega
          have HG := Lib.hid hg0
          clear hg0
          have hci : ¬ (k : Int) > (y : Int) := by omega
          go_wp2_with fail
          go_roundw
          case rel => exact ⟨k + 1, by go_num, HST.out.skip hlt HG.out⟩
          case measure => simp [intOf]; omega
      · by_cases hc : k < y
        · have hg0 : goesB 1 y k = true := by simp [goesB]; omega
          have HG := Lib.hid hg0
          clear hg0
          have hci : (k : Int) < (y : Int) := by omega
          go_upto_region 6 with fail
          have d13 : wr.drew.cell? ⟨w.heap.size, 13, none⟩ = some (.slice (some ⟨g, 0, none⟩) L.length L.length) := v13
          have HSD := Lib.hid (HST.out.drew hgl)
          clear v3 v13 hcell
          refine wp_region_held_drew (S := fun w' => w'.cell? ⟨w.heap.size, 13, none⟩ = some (.slice (some ⟨g, 0, none⟩) L.length L.length)) (by kernel_rfl) (by exact d13) (fun hH0 => ?_)
          refine wpAnyH_take (i := 0) (oi := _) (v := .pointer (some ⟨w.heap.size, 13, none⟩)) rfl (by kernel_rfl) (by kernel_rfl) (by kernel_rfl) (fun _ _ _ h => h) (Or.inl ⟨by rfl, ?_⟩) hH0 ?_
          · intro wv hSw
            try dsimp only at hSw
            go_simp
          change wpAnyH _ _ _ _ _ _ _ (Act.put _ (some 40) (.pointer (some ⟨w.heap.size, 13, none⟩))) _
          simp only [Act.put, List.setIfInBounds_toArray, List.set_cons_zero, List.set_cons_succ]
          refine wpAnyH_take (i := 1) (oi := _) (v := .slice (some ⟨g, 0, none⟩) L.length L.length) rfl (by kernel_rfl) (by kernel_rfl) (by kernel_rfl) (fun _ _ _ h => h) (Or.inl ⟨by rfl, ?_⟩) hH0 ?_
          · intro wv hSw
            try dsimp only at hSw
            go_simp
          change wpAnyH _ _ _ _ _ _ _ (Act.put _ (some 41) (.slice (some ⟨g, 0, none⟩) L.length L.length)) _
          simp only [Act.put, List.setIfInBounds_toArray, List.set_cons_zero, List.set_cons_succ]
          refine wpAnyH_take (i := 2) (oi := _) (v := .int .i64 k) rfl (by kernel_rfl) (by kernel_rfl) (by kernel_rfl) (fun _ _ _ h => h) (Or.inl ⟨by rfl, ?_⟩) hH0 ?_
          · intro wv hSw
            try dsimp only at hSw
            go_simp
          change wpAnyH _ _ _ _ _ _ _ (Act.put _ (some 42) (.int .i64 k)) _
          simp only [Act.put, List.setIfInBounds_toArray, List.set_cons_zero, List.set_cons_succ]
          refine wpAnyH_take (i := 3) (oi := _) (v := .slice E L[k].length ce) rfl (by kernel_rfl) (by kernel_rfl) (by kernel_rfl) (fun _ _ _ h => h) (Or.inl ⟨by rfl, ?_⟩) hH0 ?_
          · intro wv hSw
            try dsimp only at hSw
            go_simp
          change wpAnyH _ _ _ _ _ _ _ (Act.put _ (some 43) (.slice E L[k].length ce)) _
          simp only [Act.put, List.setIfInBounds_toArray, List.set_cons_zero, List.set_cons_succ]
          refine wpAnyH_take (i := 4) (oi := _) (v := .slice E L[k].length ce) rfl (by kernel_rfl) (by kernel_rfl) (by kernel_rfl) (fun _ _ _ h => h) (Or.inl ⟨by rfl, ?_⟩) hH0 ?_
          · intro wv hSw
            try dsimp only at hSw
            go_simp
          change wpAnyH _ _ _ _ _ _ _ (Act.put _ (some 44) (.slice E L[k].length ce)) _
          simp only [Act.put, List.setIfInBounds_toArray, List.set_cons_zero, List.set_cons_succ]
          refine wpAnyH_take (i := 5) (oi := _) (v := .int .i64 L[k].length) rfl (by kernel_rfl) (by kernel_rfl) (by kernel_rfl) (fun _ _ _ h => h) (Or.inl ⟨by rfl, ?_⟩) hH0 ?_
          · intro wv hSw
            try dsimp only at hSw
            go_simp
          change wpAnyH _ _ _ _ _ _ _ (Act.put _ (some 45) (.int .i64 L[k].length)) _
          simp only [Act.put, List.setIfInBounds_toArray, List.set_cons_zero, List.set_cons_succ]
          refine wpAnyH_ready (rs := [6]) (by kernel_rfl) (by simp) ?_
          refine AllReadyH.cons (o := _) rfl (fun K hK => ?_) AllReadyH.nil
          go_simp
          refine (clear_any E ce L[k] 0 L[k].length wr.drew (RowAt.read HROW.out) hq).mono ?_
          rintro e w1 hp1
          obtain ⟨D1, c1, rfl, hc1, hr1, hb1⟩ := hp1.v
          rw [clearF_len] at hc1 ⊢
          have t1 := HSD.out.box.below hb1 HSD.out.box.lt
          have z13 := t1.cells.c13
          obtain ⟨vs, hv, _, hrr⟩ := HSD.out.scr.rows
          have hv1 := hv.below hb1 (by exact (by omega : g < wr.heap.size))
          have q1 := hv1.cell k
          have hkv : k < vs.length := by rw [hrr.1]; exact hk2
          rw [List.getElem?_toArray, List.getElem?_eq_getElem hkv] at q1
          have f1 := hv1.frozen
          have hgz : g < w1.heap.size := hv1.lt
          go_wp2_with fail
          refine hK.out _ _ (by exact z13) (fun hH1 => ?_)
          clear hK K
          try simp only [Act.put, List.setIfInBounds_toArray, List.set_cons_zero, List.set_cons_succ]
          refine wpAnyH_take (i := 7) (oi := _) (v := .pointer (some ⟨g, k, none⟩)) rfl (by kernel_rfl) (by kernel_rfl) (by kernel_rfl) (fun _ _ _ h => h) (Or.inl ⟨by rfl, ?_⟩) hH1 ?_
          · intro wv hSw
            try dsimp only at hSw
            go_simp
          change wpAnyH _ _ _ _ _ _ _ (Act.put _ (some 47) (.pointer (some ⟨g, k, none⟩))) _
          simp only [Act.put, List.setIfInBounds_toArray, List.set_cons_zero, List.set_cons_succ]
          refine wpAnyH_ready (rs := [8]) (by kernel_rfl) (by simp) ?_
          refine AllReadyH.cons (o := _) rfl (fun K hK => ?_) AllReadyH.nil
          go_simp
          refine hK.out _ _ (by exact (cell_far (by exact (by omega : w.heap.size ≠ g)) _).trans z13) (fun hH2 => ?_)
          clear hK K
          try simp only [Act.put, List.setIfInBounds_toArray, List.set_cons_zero, List.set_cons_succ]
          refine wpAnyH_done (by kernel_rfl) ?_ _
          clear hH0 hH1 hH2
          clear d13 z13 q1 f1
          go_wp2_with fail
          go_roundw
          case rel => exact ⟨k + 1, by go_num, HSD.out.next hlt HG.out hgl hb1 hc1 hr1⟩
          case measure => simp [intOf]; omega
        · have hg0 : goesB 1 y k = false := by simp [goesB]; omega
          have HG := Lib.hid hg0
          clear hg0
          have hci : ¬ (k : Int) < (y : Int) := by omega
          go_wp2_with fail
          go_roundw
          case rel => exact ⟨k + 1, by go_num, HST.out.skip hlt HG.out⟩
          case measure => simp [intOf]; omega
      · have hg0 : goesB 2 y k = true := by simp [goesB]
        have HG := Lib.hid hg0
        clear hg0
        skip
        go_upto_region 6 with fail
        have d13 : wr.drew.cell? ⟨w.heap.size, 13, none⟩ = some (.slice (some ⟨g, 0, none⟩) L.length L.length) := v13
        have HSD := Lib.hid (HST.out.drew hgl)
        clear v3 v13 hcell
        refine wp_region_held_drew (S := fun w' => w'.cell? ⟨w.heap.size, 13, none⟩ = some (.slice (some ⟨g, 0, none⟩) L.length L.length)) (by kernel_rfl) (by exact d13) (fun hH0 => ?_)
        refine wpAnyH_take (i := 0) (oi := _) (v := .pointer (some ⟨w.heap.size, 13, none⟩)) rfl (by kernel_rfl) (by kernel_rfl) (by kernel_rfl) (fun _ _ _ h => h) (Or.inl ⟨by rfl, ?_⟩) hH0 ?_
        · intro wv hSw
          try dsimp only at hSw
          go_simp
        change wpAnyH _ _ _ _ _ _ _ (Act.put _ (some 40) (.pointer (some ⟨w.heap.size, 13, none⟩))) _
        simp only [Act.put, List.setIfInBounds_toArray, List.set_cons_zero, List.set_cons_succ]
        refine wpAnyH_take (i := 1) (oi := _) (v := .slice (some ⟨g, 0, none⟩) L.length L.length) rfl (by kernel_rfl) (by kernel_rfl) (by kernel_rfl) (fun _ _ _ h => h) (Or.inl ⟨by rfl, ?_⟩) hH0 ?_
        · intro wv hSw
          try dsimp only at hSw
          go_simp
        change wpAnyH _ _ _ _ _ _ _ (Act.put _ (some 41) (.slice (some ⟨g, 0, none⟩) L.length L.length)) _
        simp only [Act.put, List.setIfInBounds_toArray, List.set_cons_zero, List.set_cons_succ]
        refine wpAnyH_take (i := 2) (oi := _) (v := .int .i64 k) rfl (by kernel_rfl) (by kernel_rfl) (by kernel_rfl) (fun _ _ _ h => h) (Or.inl ⟨by rfl, ?_⟩) hH0 ?_
        · intro wv hSw
          try dsimp only at hSw
          go_simp
        change wpAnyH _ _ _ _ _ _ _ (Act.put _ (some 42) (.int .i64 k)) _
        simp only [Act.put, List.setIfInBounds_toArray, List.set_cons_zero, List.set_cons_succ]
        refine wpAnyH_take (i := 3) (oi := _) (v := .slice E L[k].length ce) rfl (by kernel_rfl) (by kernel_rfl) (by kernel_rfl) (fun _ _ _ h => h) (Or.inl ⟨by rfl, ?_⟩) hH0 ?_
        · intro wv hSw
          try dsimp only at hSw
          go_simp
        change wpAnyH _ _ _ _ _ _ _ (Act.put _ (some 43) (.slice E L[k].length ce)) _
        simp only [Act.put, List.setIfInBounds_toArray, List.set_cons_zero, List.set_cons_succ]
        refine wpAnyH_take (i := 4) (oi := _) (v := .slice E L[k].length ce) rfl (by kernel_rfl) (by kernel_rfl) (by kernel_rfl) (fun _ _ _ h => h) (Or.inl ⟨by rfl, ?_⟩) hH0 ?_
        · intro wv hSw
          try dsimp only at hSw
          go_simp
        change wpAnyH _ _ _ _ _ _ _ (Act.put _ (some 44) (.slice E L[k].length ce)) _
        simp only [Act.put, List.setIfInBounds_toArray, List.set_cons_zero, List.set_cons_succ]
        refine wpAnyH_take (i := 5) (oi := _) (v := .int .i64 L[k].length) rfl (by kernel_rfl) (by kernel_rfl) (by kernel_rfl) (fun _ _ _ h => h) (Or.inl ⟨by rfl, ?_⟩) hH0 ?_
        · intro wv hSw
          try dsimp only at hSw
          go_simp
        change wpAnyH _ _ _ _ _ _ _ (Act.put _ (some 45) (.int .i64 L[k].length)) _
        simp only [Act.put, List.setIfInBounds_toArray, List.set_cons_zero, List.set_cons_succ]
        refine wpAnyH_ready (rs := [6]) (by kernel_rfl) (by simp) ?_
        refine AllReadyH.cons (o := _) rfl (fun K hK => ?_) AllReadyH.nil
        go_simp
        refine (clear_any E ce L[k] 0 L[k].length wr.drew (RowAt.read HROW.out) hq).mono ?_
        rintro e w1 hp1
        obtain ⟨D1, c1, rfl, hc1, hr1, hb1⟩ := hp1.v
        rw [clearF_len] at hc1 ⊢
        have t1 := HSD.out.box.below hb1 HSD.out.box.lt
        have z13 := t1.cells.c13
        obtain ⟨vs, hv, _, hrr⟩ := HSD.out.scr.rows
        have hv1 := hv.below hb1 (by exact (by omega : g < wr.heap.size))
        have q1 := hv1.cell k
        have hkv : k < vs.length := by rw [hrr.1]; exact hk2
        rw [List.getElem?_toArray, List.getElem?_eq_getElem hkv] at q1
        have f1 := hv1.frozen
        have hgz : g < w1.heap.size := hv1.lt
        go_wp2_with fail
        refine hK.out _ _ (by exact z13) (fun hH1 => ?_)
        clear hK K
        try simp only [Act.put, List.setIfInBounds_toArray, List.set_cons_zero, List.set_cons_succ]
        refine wpAnyH_take (i := 7) (oi := _) (v := .pointer (some ⟨g, k, none⟩)) rfl (by kernel_rfl) (by kernel_rfl) (by kernel_rfl) (fun _ _ _ h => h) (Or.inl ⟨by rfl, ?_⟩) hH1 ?_
        · intro wv hSw
          try dsimp only at hSw
          go_simp
        change wpAnyH _ _ _ _ _ _ _ (Act.put _ (some 47) (.pointer (some ⟨g, k, none⟩))) _
        simp only [Act.put, List.setIfInBounds_toArray, List.set_cons_zero, List.set_cons_succ]
        refine wpAnyH_ready (rs := [8]) (by kernel_rfl) (by simp) ?_
        refine AllReadyH.cons (o := _) rfl (fun K hK => ?_) AllReadyH.nil
        go_simp
        refine hK.out _ _ (by exact (cell_far (by exact (by omega : w.heap.size ≠ g)) _).trans z13) (fun hH2 => ?_)
        clear hK K
        try simp only [Act.put, List.setIfInBounds_toArray, List.set_cons_zero, List.set_cons_succ]
        refine wpAnyH_done (by kernel_rfl) ?_ _
        clear hH0 hH1 hH2
        clear d13 z13 q1 f1
        go_wp2_with fail
        go_roundw
        case rel => exact ⟨k + 1, by go_num, HSD.out.next hlt HG.out hgl hb1 hc1 hr1⟩
        case measure => simp [intOf]; omega
    · have hki : ¬ (k : Int) < (L.length : Int) := by omega
      obtain rfl : k = L.length := by have := st.le; omega
      have s5 := st.scr
      rw [← HL2.out] at s5
      have HE : Hid (L.length = L2.length) := by rw [HL2.out, scrF_len]; exact Lib.hid rfl
      have c5 := st.chg
      have x5 := st.box
      have a5 := st.ans
      clear st v3 v13 hp
      rw [HE.out] at x5
      go_wp2_with (first
        | (with_reducible refine wpList_loadB x5 (x := .tmp 2) ?_ ?_ ?_ ?_
           · with_reducible rfl
           · rfl
           · rfl)
        | (with_reducible refine wpList_storeA a5 (x := .tmp 4) (y := .tmp 49) (p := p) (D := some ⟨g, 0, none⟩) (E := some ⟨h, 0, none⟩) (n := L2.length) (c := L2.length) (m := Bk.length) (d := Bk.length) ?_ ?_ ?_ ?_ ?_
           · with_reducible rfl
           · rfl
           · rfl
           · rfl))
      refine bodyPost_ret (v := gv p (.slice (some ⟨g, 0, none⟩) L2.length L2.length) (.slice (some ⟨h, 0, none⟩) Bk.length Bk.length)) (results_cell_row (P := Try.prog) Try.results104 _ _ (w.heap.size + 1) 35 _ (0, 0) _ rfl (a5.setRow _ _ _) Try.underlying35 rfl box_size) rfl ?_
      exact ⟨rfl, s5.bput a5 _, c5.setRow hgl (Nat.le_succ _) _⟩
end Go.Proofs.Ytpcpmeihebgncaa
