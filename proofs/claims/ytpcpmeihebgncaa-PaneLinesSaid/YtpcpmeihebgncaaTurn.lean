/-
  What changed of package acts answers, told of a screen: its cursor's row is another one, in its place, all else as it was. What line answers ahead of the last row of the region, and what the function answers that printed hands to it. Conditions: rows of at most a thousand cells, the cursor's row is there.
-/
import Derived.Test.YtpcpmeihebgncaaChanged
namespace Go.Proofs.Ytpcpmeihebgncaa
open Go.RowKit
set_option maxRecDepth 100000

theorem tab_no_int {B : Nat} {w : World} {g : Nat} {vs : List Value} {L : List (List C)} (h : Held w g 46 vs.toArray) (hr : RowsV B w vs L) {o : Nat} {k : IntKind} {x : Int} (hc : w.cell? ⟨g, o, none⟩ = some (.int k x)) : False := by
  rw [h.cell, List.getElem?_toArray] at hc
  obtain ⟨ho, e⟩ := List.getElem?_eq_some_iff.1 hc
  obtain ⟨D, c, e', _⟩ := hr.2 o ho (by rw [← hr.1]; exact ho)
  rw [e'] at e
  cases e
theorem RowsV.chg {B : Nat} {w w' : World} {g : Nat} {vs us : List Value} {L M : List (List C)} (h : Held w g 46 vs.toArray) (hr : RowsV B w vs L) (ch : Chg g w w') (hu : RowsV B w us M) : RowsV B w' us M := by
  refine ⟨hu.1, fun k a b => ?_⟩
  obtain ⟨D, c, e, hc, hrow⟩ := hu.2 k a b
  exact ⟨D, c, e, hc, hrow.eq ch.size fun b o x _ hl hx => ch.block b hl (by rintro rfl; exact tab_no_int h hr hx)⟩
/-- Row y is another one. -/
theorem OScr.turn {B : Nat} {w w' : World} {g h : Nat} {L Bk : List (List C)} (hs : OScr B w g h L Bk) {vs : List Value} (hv : Held w g 46 vs.toArray) (hr : RowsV B w vs L) (ch : Chg g w w') {y : Nat} {l : List C} {D : Option Addr} {c : Nat}
    (t : Held w' g 46 (vs.set y (.slice D l.length c)).toArray) (hc : l.length ≤ c) (r : RowAt w.heap.size w' D l) : OScr B w' g h (L.set y l) Bk := by
  have hB : B ≤ w.heap.size := by have := hs.rows.low; have := hs.rows.lt; omega
  refine ⟨⟨_, t, hs.rows.low, ?_⟩, ?_, hs.ne⟩
  · have h1 := RowsV.chg hv hr ch hr
    refine ⟨by simp [hr.1], fun k a b => ?_⟩
    rw [List.getElem_set, List.getElem_set]
    by_cases e : y = k
    · rw [if_pos e, if_pos e]
      exact ⟨D, c, rfl, hc, r.weak hB⟩
    · rw [if_neg e, if_neg e]
      exact h1.2 k _ _
  · obtain ⟨us, h1, h2, h3⟩ := hs.back
    exact ⟨us, ch.held h1 (Ne.symm hs.ne), h2, RowsV.chg hv hr ch h3⟩

/-- The screen's tables stay where they are; of what was there only table g has been turned. -/
def TurnPost (B g h : Nat) (w : World) (p : Nm) (L Bk : List (List C)) (e : Ending) (w' : World) : Prop := e = .returned (ov p g h L Bk) ∧ OScr B w' g h L Bk ∧ Chg g w w'

theorem changedO_any (F : Nat) (c1 c2 : Value) (p : Nm) (g h : Nat) (L Bk : List (List C)) (y : Nat) (l : List C) (B : Nat) (w : World) (hs : OScr B w g h L Bk) (hp : p.y = y) (hy : y < L.length)
    (hE : ∀ args w, (callFunc F args).run Try.prog w = .ok (.enter F args) w)
    (hF : ∀ wx D c, Below w.heap.size w wx → RowAt 0 wx D L[y] → Calls Try.prog F #[.slice D L[y].length c, c1, c2] wx (VPost wx l)) :
    Calls Try.prog 51 #[ov p g h L Bk, .func (.func F) #[] #[c1, c2]] w (TurnPost B g h w p (L.set y l) Bk) := by
  obtain ⟨vs, hv, hg, hr⟩ := hs.rows
  have hvy : y < vs.length := by rw [hr.1]; exact hy
  obtain ⟨D, c, e, hc, hrow⟩ := hr.2 y hvy hy
  have := changed_any F c1 c2 p g (some ⟨h, 0, none⟩) Bk.length Bk.length vs y D L[y].length c l w hv hp hvy (by rw [List.getElem?_eq_getElem hvy, e]) hE (fun wx hb => hF wx D c hb ((hrow.weak (Nat.zero_le _)).below hb (Nat.le_refl _)))
  rw [hr.1] at this
  refine this.mono ?_
  rintro e w' ⟨rfl, D1, c1, h1, h2, h3, h4⟩
  refine ⟨?_, hs.turn hv hr h4 h2 h1 h3, h4⟩
  unfold ov
  rw [List.length_set]

/-! ### printed's own function -/
set_option maxHeartbeats 400000 in
theorem printF_any (D : Option Addr) (c : Nat) (l : List C) (k kr : Nat) (p : Nm) (rr bb : Value) (r : Int) (w : World) (hb : Box w k p rr bb) (hr : w.cell? ⟨kr, 0, none⟩ = some (.int .i32 r)) (hrow : RowAt 0 w D l) (hn : l.length ≤ 1000) :
    Calls Try.prog 52 #[.slice D l.length c, .pointer (some ⟨k, 0, none⟩), .pointer (some ⟨kr, 0, none⟩)] w (VPost w (putF l p.x ⟨r, p.a⟩)) := by
  have HP := Lib.hid (put_any D c l p.x ⟨r, p.a⟩ w hrow.read hn)
  have u2 := hb.cells.c2
  have u5 := hb.cells.c5
  clear hrow
  go_enter Try.func52, Try.ntmps52
  go_wp2_with (
    go_at_call 53
    refine HP.out.mono ?_
    rintro e w1 hp
    obtain ⟨D1, c1, rfl, hc1, hr1, hb1⟩ := hp.v)
  go_ret
  exact ⟨D1, c1, rfl, hc1, hr1, hb1⟩
theorem enters {f : FuncId} {fn : Func} {c : Code} (hf : Try.prog.funcs[f]? = some fn) (hname : (fn.name == "runtime.NumGoroutine") = false) (hb : fn.body = some c) (args : Array Value) (w : World) : (callFunc f args).run Try.prog w = .ok (.enter f args) w := by
  have h1 : fn.name ≠ "runtime.NumGoroutine" := by simpa using hname
  simp [callFunc, hf, h1, hb, mark]
theorem enter43 : ∀ args w, (callFunc 52 args).run Try.prog w = .ok (.enter 52 args) w := enters Try.func52 (by kernel_rfl) rfl

/-! ### line -/
/-- The screen behind a line feed, ahead of the region's last row. -/
def lineNm (p : Nm) : Nm := { p with y := if p.y < p.h - 1 then p.y + 1 else p.y }
set_option maxHeartbeats 4000000 in
theorem line_any (p : Nm) (D E : Option Addr) (n c m d : Nat) (w : World) (h0 : 1 ≤ p.h) (h1 : p.h ≤ 1000) (y0 : 0 ≤ p.y) (hy : ¬ p.y = p.bottom) :
    Calls Try.prog 50 #[gv p (.slice D n c) (.slice E m d)] w (ValPost (gv (lineNm p) (.slice D n c) (.slice E m d)) w) := by
  have HS := Lib.hid (MS.start w p (.slice D n c) (.slice E m d))
  have s1 : IntKind.i64.wrap (p.h - 1) = p.h - 1 := IntWalk.i64_in _ (by omega)
  obtain ⟨q, hq⟩ : ∃ q, q = lineNm p := ⟨_, rfl⟩
  rw [← hq]
  have HQ := Lib.hid hq
  clear hq
  unfold gv gcs
  go_enter Try.func50, Try.ntmps50
  go_upto_region 1 with fail
  refine wp_world (fun wq => MS w p (.slice D n c) (.slice E m d) wq) HS.out ?_
  clear HS
  intro w2 rs
  have hz1 := rs.box.lt
  have hz2 := rs.ans.lt
  obtain ⟨pw, ph, px, py, pwr, pa, pt, pb, psx, psy, psa, pn, phd⟩ := p
  dsimp only at s1 h0 h1 hy y0
  have u1 := rs.box.cells.c1
  have u3 := rs.box.cells.c3
  have u7 := rs.box.cells.c7
  have uf := rs.box.cells.free
  dsimp only at u1 u3 u7
  by_cases hl : py < ph - 1
  · have s2 : IntKind.i64.wrap (py + 1) = py + 1 := IntWalk.i64_in _ (by omega)
    have e : lineNm ⟨pw, ph, px, py, pwr, pa, pt, pb, psx, psy, psa, pn, phd⟩ = ⟨pw, ph, px, py + 1, pwr, pa, pt, pb, psx, psy, psa, pn, phd⟩ := by simp [lineNm, hl]
    have hq := HQ.out
    rw [e] at hq
    subst hq
    clear e
    go_upto_region 5 with fail
    have rs3 := rs.far (rs.box.set_y (py + 1))
    dsimp only at rs3
    generalize hw3 : w2.setCell ⟨w.heap.size, 3, none⟩ (.int .i64 (py + 1)) = w3 at *
    clear hw3 u1 u3 u7 uf rs
    have xg := rs3.box
    have xa := rs3.ans
    go_wp2_with (first
      | (with_reducible refine wpList_loadB xg (x := .tmp 1) ?_ ?_ ?_ ?_
         · with_reducible rfl
         · rfl
         · rfl)
      | (with_reducible refine wpList_storeA xa (x := .tmp 2) (y := .tmp 24) (p := ⟨pw, ph, px, py + 1, pwr, pa, pt, pb, psx, psy, psa, pn, phd⟩) (D := D) (E := E) (n := n) (c := c) (m := m) (d := d) ?_ ?_ ?_ ?_ ?_
         · with_reducible rfl
         · rfl
         · rfl
         · rfl))
    refine bodyPost_ret (v := gv ⟨pw, ph, px, py + 1, pwr, pa, pt, pb, psx, psy, psa, pn, phd⟩ (.slice D n c) (.slice E m d)) (results_cell_row (P := Try.prog) Try.results50 _ _ (w.heap.size + 1) 35 _ (0, 0) _ rfl (xa.setRow _ _ _) Try.underlying35 rfl box_size) rfl ?_
    exact ⟨rfl, below_setRow rs3.below (Nat.le_succ _) _⟩
  · have e : lineNm ⟨pw, ph, px, py, pwr, pa, pt, pb, psx, psy, psa, pn, phd⟩ = ⟨pw, ph, px, py, pwr, pa, pt, pb, psx, psy, psa, pn, phd⟩ := by simp [lineNm, hl]
    have hq := HQ.out
    rw [e] at hq
    subst hq
    clear e
    have xg := rs.box
    have xa := rs.ans
    go_wp2_with (first
      | (with_reducible refine wpList_loadB xg (x := .tmp 1) ?_ ?_ ?_ ?_
         · with_reducible rfl
         · rfl
         · rfl)
      | (with_reducible refine wpList_storeA xa (x := .tmp 2) (y := .tmp 24) (p := ⟨pw, ph, px, py, pwr, pa, pt, pb, psx, psy, psa, pn, phd⟩) (D := D) (E := E) (n := n) (c := c) (m := m) (d := d) ?_ ?_ ?_ ?_ ?_
         · with_reducible rfl
         · rfl
         · rfl
         · rfl))
    refine bodyPost_ret (v := gv ⟨pw, ph, px, py, pwr, pa, pt, pb, psx, psy, psa, pn, phd⟩ (.slice D n c) (.slice E m d)) (results_cell_row (P := Try.prog) Try.results50 _ _ (w.heap.size + 1) 35 _ (0, 0) _ rfl (xa.setRow _ _ _) Try.underlying35 rfl box_size) rfl ?_
    exact ⟨rfl, below_setRow rs.below (Nat.le_succ _) _⟩
end Go.Proofs.Ytpcpmeihebgncaa
