/-
  What printed of package acts answers: the sign stands in the cursor's cell, the cursor has gone on, or a wrap waits; behind a wrap that waited, on the next line. Conditions: the screen's sides lie between 1 and 1,000, the cursor is on it, the cursor's row is there and has at most a thousand cells.
-/
import Derived.Test.YtpcpmeihebgncaaTurn
import Derived.Test.YtpcpmeihebgncaaSeq
namespace Go.Proofs.Ytpcpmeihebgncaa
open Go.RowKit
set_option maxRecDepth 100000

/-- The box that is turned, a number's box, the answer's box. -/
structure PS (w : World) (t : TypeId) (v : Value) (p : Nm) (r b : Value) (wx : World) : Prop where
  box : Box wx w.heap.size p r b
  cell : Held wx (w.heap.size + 1) t #[v]
  ans : Box wx (w.heap.size + 2) zeroNm nilV nilV
theorem PS.start (w : World) (t : TypeId) (v : Value) (p : Nm) (r b : Value) : PS w t v p r b (((w.alloc (.cells (gcs p r b) 35)).alloc (.cells #[v] t)).alloc (.cells (gcs zeroNm nilV nilV) 35)) :=
  ⟨((Box.new w p r b).alloc _).alloc _, by have := (Held.new (w.alloc (.cells (gcs p r b) 35)) t #[v]).alloc (.cells (gcs zeroNm nilV nilV) 35); simpa using this, by have := Box.new ((w.alloc (.cells (gcs p r b) 35)).alloc (.cells #[v] t)) zeroNm nilV nilV; simpa using this⟩
theorem start_below (w : World) (o1 o2 o3 : Obj) : Below w.heap.size w (((w.alloc o1).alloc o2).alloc o3) := (((Below.refl _ _).alloc (Nat.le_refl _) _).alloc (by simp) _).alloc (by simp; omega) _
theorem PS.below {w : World} {t : TypeId} {v : Value} {p : Nm} {r b : Value} {wx wy : World} (h : PS w t v p r b wx) (hb : Below wx.heap.size wx wy) : PS w t v p r b wy := ⟨h.box.below hb h.box.lt, h.cell.below hb h.cell.lt, h.ans.below hb h.ans.lt⟩
theorem PS.chg {w : World} {t : TypeId} {v : Value} {p : Nm} {r b : Value} {wx wy : World} (h : PS w t v p r b wx) {g : Nat} (hc : Chg g wx wy) (hg : g < w.heap.size ∨ w.heap.size + 3 ≤ g) : PS w t v p r b wy := ⟨hc.box h.box (by omega), hc.held h.cell (by omega), hc.box h.ans (by omega)⟩
theorem PS.set {w : World} {t : TypeId} {v : Value} {p p' : Nm} {r b r' b' : Value} {wx : World} (h : PS w t v p r b wx) {o : Nat} {x : Value} (hb : Box (wx.setCell ⟨w.heap.size, o, none⟩ x) w.heap.size p' r' b') : PS w t v p' r' b' (wx.setCell ⟨w.heap.size, o, none⟩ x) :=
  ⟨hb, h.cell.far (p := ⟨w.heap.size, o, none⟩) (by exact (by omega : w.heap.size + 1 ≠ w.heap.size)) _, h.ans.far (q := ⟨w.heap.size, o, none⟩) (by exact (by omega : w.heap.size + 2 ≠ w.heap.size)) _⟩
theorem PS.put {w : World} {t : TypeId} {v : Value} {p : Nm} {r b : Value} {wx : World} (h : PS w t v p r b wx) (p' : Nm) (r' b' : Value) : PS w t v p' r' b' (wx.setRow w.heap.size (gcs p' r' b')) :=
  ⟨h.box.setRow _ _ _, (setRow_other _ _ _ _ (by omega)).trans h.cell, (setRow_other _ _ _ _ (by omega)).trans h.ans⟩
theorem OTab.box {B : Nat} {w w' : World} {g k : Nat} {L : List (List C)} (hs : OTab B w g L) {p : Nm} {D E : Option Addr} {n c m d : Nat} (hb : Box w k p (.slice D n c) (.slice E m d)) (hz : w.heap.size ≤ w'.heap.size) (hf : ∀ b, b < w.heap.size → b ≠ k → w'.heap[b]? = w.heap[b]?) : OTab B w' g L := by
  obtain ⟨vs, h1, h2, h3⟩ := hs
  refine ⟨vs, (hf g h1.lt (Held.ne h1 hb (by decide))).trans h1, h2, h3.1, fun k a b => ?_⟩
  obtain ⟨D', c, e, hc, hr⟩ := h3.2 k a b
  exact ⟨D', c, e, hc, hr.eq hz fun b _ _ _ hl hx => hf b hl (hb.no_rune hx)⟩
/-- A screen's tables stay where a screen's variable is turned. -/
theorem OScr.box {B : Nat} {w w' : World} {g h k : Nat} {L Bk : List (List C)} (hs : OScr B w g h L Bk) {p : Nm} {D E : Option Addr} {n c m d : Nat} (hb : Box w k p (.slice D n c) (.slice E m d)) (hz : w.heap.size ≤ w'.heap.size) (hf : ∀ b, b < w.heap.size → b ≠ k → w'.heap[b]? = w.heap[b]?) : OScr B w' g h L Bk := ⟨hs.rows.box hb hz hf, hs.back.box hb hz hf, hs.ne⟩
theorem OScr.bset {B : Nat} {w : World} {g h k : Nat} {L Bk : List (List C)} (hs : OScr B w g h L Bk) {p : Nm} {D E : Option Addr} {n c m d : Nat} (hb : Box w k p (.slice D n c) (.slice E m d)) (o : Nat) (x : Value) : OScr B (w.setCell ⟨k, o, none⟩ x) g h L Bk := hs.box hb (by simp) fun b _ hn => Below.heap_setCell w ⟨k, o, none⟩ x b hn
theorem OScr.bput {B : Nat} {w : World} {g h k : Nat} {L Bk : List (List C)} (hs : OScr B w g h L Bk) {p : Nm} {D E : Option Addr} {n c m d : Nat} (hb : Box w k p (.slice D n c) (.slice E m d)) (cs : Array Value) : OScr B (w.setRow k cs) g h L Bk := hs.box hb (by simp) fun b _ hn => setRow_other w k b cs hn
theorem Chg.bset {g k : Nat} {w w' : World} (h : Chg g w w') (hg : g < w.heap.size) (hk : w.heap.size ≤ k) (o : Nat) (x : Value) : Chg g w (w'.setCell ⟨k, o, none⟩ x) :=
  ⟨fun hB h0 => (h.below hB h0).setCell (p := ⟨k, o, none⟩) (Nat.le_trans hB (Nat.le_trans (Nat.le_of_lt hg) hk)) _, fun b hb hn => (Below.heap_setCell w' ⟨k, o, none⟩ x b (by exact (by omega : b ≠ k))).trans (h.block b hb hn), by simpa using h.size⟩
/-- A call that turned nothing, and one that turned g1 behind it. -/
theorem Chg.comp {g g1 : Nat} {w wx w' : World} (hb : Below w.heap.size w wx) (h1 : g1 = g ∨ w.heap.size ≤ g1) (hg : g < w.heap.size) (ch : Chg g1 wx w') : Chg g w w' := by
  have := hb.size
  exact ⟨fun hB h0 => ch.below (by omega) (h0.trans (hb.mono (by omega))), fun b hl hn => (ch.block b (by omega) (by omega)).trans (hb.block b hl), by have := ch.size; omega⟩

/-- A screen behind a line feed comes back; nothing that was there has been turned. -/
def LinePost (B g : Nat) (w : World) (q : Nm) (L Bk : List (List C)) (e : Ending) (w' : World) : Prop := ∃ g1 h1, e = .returned (ov q g1 h1 L Bk) ∧ OScr B w' g1 h1 L Bk ∧ (g1 = g ∨ w.heap.size ≤ g1) ∧ Below w.heap.size w w'

/-- The screen's numbers behind a sign. -/
def printNm (p : Nm) : Nm := if p.w - 1 ≤ p.x then { p with wrap := !p.noWrap } else { p with wrap := false, x := p.x + 1 }

set_option maxHeartbeats 4000000 in
theorem printed_any (B : Nat) (p q : Nm) (g h : Nat) (L Bk L1 Bk1 : List (List C)) (r : Int) (y : Nat) (w : World) (hs : OScr B w g h L Bk)
    (hc : (p.wrap = false ∧ q = p ∧ L1 = L ∧ Bk1 = Bk) ∨ (p.wrap = true ∧ ∀ wx, Below w.heap.size w wx → Calls Try.prog 50 #[ov { p with x := 0 } g h L Bk] wx (LinePost B g wx q L1 Bk1)))
    (hq : On q) (hy : q.y = y) (hyl : y < L1.length) (hn : L1[y].length ≤ 1000) :
    Calls Try.prog 27 #[ov p g h L Bk, .int .i32 r] w (InPost B g w (printNm q) (L1.set y (putF L1[y] q.x ⟨r, q.a⟩)) Bk1) := by
  have HS := Lib.hid (PS.start w 21 (.int .i32 r) p (.slice (some ⟨g, 0, none⟩) L.length L.length) (.slice (some ⟨h, 0, none⟩) Bk.length Bk.length))
  have HB := Lib.hid (start_below w (.cells (gcs p (.slice (some ⟨g, 0, none⟩) L.length L.length) (.slice (some ⟨h, 0, none⟩) Bk.length Bk.length)) 35) (.cells #[.int .i32 r] 21) (.cells (gcs zeroNm nilV nilV) 35))
  have hgl := hs.rows.lt
  have HH := Lib.hid hs
  have HC := Lib.hid hc
  have HQ := Lib.hid hq
  have HY := Lib.hid hy
  obtain ⟨L2, hL2⟩ : ∃ L2, L2 = L1.set y (putF L1[y] q.x ⟨r, q.a⟩) := ⟨_, rfl⟩
  rw [← hL2]
  have HL2 := Lib.hid hL2
  obtain ⟨z, hzq⟩ : ∃ z, z = printNm q := ⟨_, rfl⟩
  rw [← hzq]
  have HZ := Lib.hid hzq
  clear hs hc hq hy hL2 hzq
  unfold ov gv gcs
  go_enter Try.func27, Try.ntmps27
  go_upto_region 1 with fail
  refine wp_world (fun wq => PS w 21 (.int .i32 r) p (.slice (some ⟨g, 0, none⟩) L.length L.length) (.slice (some ⟨h, 0, none⟩) Bk.length Bk.length) wq ∧ Below w.heap.size w wq) ⟨HS.out, HB.out⟩ ?_
  clear HS HB
  rintro w2 ⟨ps, b2⟩
  have T : Hid (∀ (g1 h1 : Nat) (wx : World), PS w 21 (.int .i32 r) q (.slice (some ⟨g1, 0, none⟩) L1.length L1.length) (.slice (some ⟨h1, 0, none⟩) Bk1.length Bk1.length) wx → OScr B wx g1 h1 L1 Bk1 → Calls Try.prog 51 #[gv q (.slice (some ⟨g1, 0, none⟩) L1.length L1.length) (.slice (some ⟨h1, 0, none⟩) Bk1.length Bk1.length), .func (.func 52) #[] #[.pointer (some ⟨w.heap.size, 0, none⟩), .pointer (some ⟨w.heap.size + 1, 0, none⟩)]] wx (TurnPost B g1 h1 wx q L2 Bk1)) := fun g1 h1 wx ps hs => by
    rw [HL2.out]
    exact changedO_any 52 _ _ q g1 h1 L1 Bk1 y _ B wx hs HY.out hyl enter43 fun wy D c hb hrow => printF_any D c L1[y] _ _ q _ _ r wy (ps.box.below hb ps.box.lt) ((ps.cell.below hb ps.cell.lt).cell 0) hrow hn
  clear HY hn HL2
  have u4 := ps.box.cells.c4
  have u2 := ps.box.cells.c2
  have uf := ps.box.cells.free
  have hz := ps.ans.lt
  rcases HC.out with ⟨hw, rfl, rfl, rfl⟩ | ⟨hw, hl⟩
  · rw [hw] at u4
    go_upto_region 4 with fail
    refine wp_world (fun wq => ∃ g1 h1, PS w 21 (.int .i32 r) q (.slice (some ⟨g1, 0, none⟩) L1.length L1.length) (.slice (some ⟨h1, 0, none⟩) Bk1.length Bk1.length) wq ∧ OScr B wq g1 h1 L1 Bk1 ∧ (g1 = g ∨ w.heap.size + 3 ≤ g1) ∧ Below w.heap.size w wq) ⟨g, h, ps, HH.out.below b2 (Nat.le_refl _), .inl rfl, b2⟩ ?_
    clear ps b2 u4 u2 uf hz HC HH hw
    rintro wa ⟨g1, h1, pa, sa, ga, ba⟩
    have xg := pa.box
    go_upto_region 5 with (first
      | (with_reducible refine wpList_loadB xg (x := .tmp 2) ?_ ?_ ?_ ?_
         · with_reducible rfl
         · rfl
         · rfl)
      | (go_at_call 51
         refine (T.out g1 h1 wa pa sa).mono ?_
         rintro e w3 ⟨rfl, s3, c3⟩
         have p3 := pa.chg c3 (by omega)
         have x3 := p3.box)
      | (with_reducible refine wpList_storeA x3 (x := .tmp 2) (y := .tmp 13) (p := q) (D := some ⟨g1, 0, none⟩) (E := some ⟨h1, 0, none⟩) (n := L2.length) (c := L2.length) (m := Bk1.length) (d := Bk1.length) ?_ ?_ ?_ ?_ ?_
         · with_reducible rfl
         · rfl
         · rfl
         · rfl))
    have hzz := pa.box.lt
    refine wp_world (fun wq => PS w 21 (.int .i32 r) q (.slice (some ⟨g1, 0, none⟩) L2.length L2.length) (.slice (some ⟨h1, 0, none⟩) Bk1.length Bk1.length) wq ∧ OScr B wq g1 h1 L2 Bk1 ∧ Chg g w wq) ⟨p3.put q _ _, s3.bput x3 _, (Chg.comp ba (by omega) hgl c3).setRow hgl (Nat.le_refl _) _⟩ ?_
    clear pa sa ba xg p3 s3 c3 x3 T hzz
    rintro w4 ⟨p4, s4, c4⟩
    obtain ⟨k0, k1, k2, k3, k4, k5, k6, k7⟩ := HQ.out
    clear HQ
    obtain ⟨pw, ph, px, py, pwr, pa, pt, pb, psx, psy, psa, pn, phd⟩ := q
    dsimp only at k0 k1 k2 k3 k4 k5 k6 k7
    have s1 : IntKind.i64.wrap (pw - 1) = pw - 1 := IntWalk.i64_in _ (by omega)
    have s2 : IntKind.i64.wrap (px + 1) = px + 1 := IntWalk.i64_in _ (by omega)
    have v0 := p4.box.cells.c0
    have v2 := p4.box.cells.c2
    have v4 := p4.box.cells.c4
    have v11 := p4.box.cells.c11
    have vf := p4.box.cells.free
    have hz4 := p4.box.lt
    dsimp only at v0 v2 v4 v11
    by_cases hl : pw - 1 ≤ px
    · have hl' : px ≥ pw - 1 := hl
      have eq : printNm ⟨pw, ph, px, py, pwr, pa, pt, pb, psx, psy, psa, pn, phd⟩ = ⟨pw, ph, px, py, !pn, pa, pt, pb, psx, psy, psa, pn, phd⟩ := by simp [printNm, hl]
      have hzq := HZ.out
      rw [eq] at hzq
      subst hzq
      clear eq
      go_upto_region 9 with fail
      have p5 := p4.set (p4.box.set_wrap (!pn))
      have s5 := s4.bset p4.box 4 (.bool (!pn))
      have c5 := c4.bset hgl (Nat.le_refl _) 4 (.bool (!pn))
      dsimp only at p5
      generalize (w4.setCell ⟨w.heap.size, 4, none⟩ (.bool (!pn))) = w5 at *
      clear p4 s4 c4 v0 v2 v4 v11 vf hz4
      have x5 := p5.box
      have a5 := p5.ans
      go_wp2_with (first
        | (with_reducible refine wpList_loadB x5 (x := .tmp 2) ?_ ?_ ?_ ?_
           · with_reducible rfl
           · rfl
           · rfl)
        | (with_reducible refine wpList_storeA a5 (x := .tmp 4) (y := .tmp 33) (p := ⟨pw, ph, px, py, !pn, pa, pt, pb, psx, psy, psa, pn, phd⟩) (D := some ⟨g1, 0, none⟩) (E := some ⟨h1, 0, none⟩) (n := L2.length) (c := L2.length) (m := Bk1.length) (d := Bk1.length) ?_ ?_ ?_ ?_ ?_
           · with_reducible rfl
           · rfl
           · rfl
           · rfl))
      refine bodyPost_ret (v := gv ⟨pw, ph, px, py, !pn, pa, pt, pb, psx, psy, psa, pn, phd⟩ (.slice (some ⟨g1, 0, none⟩) L2.length L2.length) (.slice (some ⟨h1, 0, none⟩) Bk1.length Bk1.length)) (results_cell_row (P := Try.prog) Try.results27 _ _ (w.heap.size + 2) 35 _ (0, 0) _ rfl (a5.setRow _ _ _) Try.underlying35 rfl box_size) rfl ?_
      exact ⟨g1, h1, rfl, s5.bput a5 _, c5.setRow hgl (by omega) _⟩
    · have hl' : ¬ px ≥ pw - 1 := hl
      have eq : printNm ⟨pw, ph, px, py, pwr, pa, pt, pb, psx, psy, psa, pn, phd⟩ = ⟨pw, ph, px + 1, py, false, pa, pt, pb, psx, psy, psa, pn, phd⟩ := by simp [printNm, hl]
      have hzq := HZ.out
      rw [eq] at hzq
      subst hzq
      clear eq
      go_upto_region 9 with fail
      have p50 := p4.set (p4.box.set_wrap false)
      have p5 := p50.set (p50.box.set_x (px + 1))
      have s5 := (s4.bset p4.box 4 (.bool false)).bset p50.box 2 (.int .i64 (px + 1))
      have c5 := (c4.bset hgl (Nat.le_refl _) 4 (.bool false)).bset hgl (Nat.le_refl _) 2 (.int .i64 (px + 1))
      dsimp only at p5
      generalize ((w4.setCell ⟨w.heap.size, 4, none⟩ (.bool false)).setCell ⟨w.heap.size, 2, none⟩ (.int .i64 (px + 1))) = w5 at *
      clear p4 p50 s4 c4 v0 v2 v4 v11 vf hz4
      have x5 := p5.box
      have a5 := p5.ans
      go_wp2_with (first
        | (with_reducible refine wpList_loadB x5 (x := .tmp 2) ?_ ?_ ?_ ?_
           · with_reducible rfl
           · rfl
           · rfl)
        | (with_reducible refine wpList_storeA a5 (x := .tmp 4) (y := .tmp 33) (p := ⟨pw, ph, px + 1, py, false, pa, pt, pb, psx, psy, psa, pn, phd⟩) (D := some ⟨g1, 0, none⟩) (E := some ⟨h1, 0, none⟩) (n := L2.length) (c := L2.length) (m := Bk1.length) (d := Bk1.length) ?_ ?_ ?_ ?_ ?_
           · with_reducible rfl
           · rfl
           · rfl
           · rfl))
      refine bodyPost_ret (v := gv ⟨pw, ph, px + 1, py, false, pa, pt, pb, psx, psy, psa, pn, phd⟩ (.slice (some ⟨g1, 0, none⟩) L2.length L2.length) (.slice (some ⟨h1, 0, none⟩) Bk1.length Bk1.length)) (results_cell_row (P := Try.prog) Try.results27 _ _ (w.heap.size + 2) 35 _ (0, 0) _ rfl (a5.setRow _ _ _) Try.underlying35 rfl box_size) rfl ?_
      exact ⟨g1, h1, rfl, s5.bput a5 _, c5.setRow hgl (by omega) _⟩
  · rw [hw] at u4
    go_upto_region 3 with fail
    have p1 := ps.set (ps.box.set_x 0)
    have b1 := b2.setCell (p := ⟨w.heap.size, 2, none⟩) (Nat.le_refl _) (.int .i64 0)
    have hz1 : w.heap.size + 3 ≤ (w2.setCell ⟨w.heap.size, 2, none⟩ (.int .i64 0)).heap.size := by simp; omega
    have hl1 := hl _ b1
    clear hl
    dsimp only [ov] at hl1
    generalize hp0 : ({ p with x := 0 } : Nm) = p0 at p1 hl1
    clear hp0
    have HL := Lib.hid hl1
    clear hl1
    generalize (w2.setCell ⟨w.heap.size, 2, none⟩ (.int .i64 0)) = w1 at *
    clear ps b2 u4 u2 uf hz HC HH
    have x1 := p1.box
    go_upto_region 4 with (first
      | (with_reducible refine wpList_loadB x1 (x := .tmp 2) ?_ ?_ ?_ ?_
         · with_reducible rfl
         · rfl
         · rfl)
      | (go_at_call 50
         with_reducible refine HL.out.mono ?_
         rintro e w3 ⟨g1, h1, rfl, s3, e3, b3⟩
         have p3 := p1.below b3
         have x3 := p3.box)
      | (with_reducible refine wpList_storeA x3 (x := .tmp 2) (y := .tmp 10) (p := q) (D := some ⟨g1, 0, none⟩) (E := some ⟨h1, 0, none⟩) (n := L1.length) (c := L1.length) (m := Bk1.length) (d := Bk1.length) ?_ ?_ ?_ ?_ ?_
         · with_reducible rfl
         · rfl
         · rfl
         · rfl))
    refine wp_world (fun wq => ∃ g1 h1, PS w 21 (.int .i32 r) q (.slice (some ⟨g1, 0, none⟩) L1.length L1.length) (.slice (some ⟨h1, 0, none⟩) Bk1.length Bk1.length) wq ∧ OScr B wq g1 h1 L1 Bk1 ∧ (g1 = g ∨ w.heap.size + 3 ≤ g1) ∧ Below w.heap.size w wq) ⟨g1, h1, p3.put q _ _, s3.bput x3 _, by omega, below_setRow (b1.trans (b3.mono b1.size)) (Nat.le_refl _) _⟩ ?_
    clear p1 b1 hz1 HL x1 s3 e3 b3 p3 x3 hw
    rintro wa ⟨g1, h1, pa, sa, ga, ba⟩
    have xg := pa.box
    go_upto_region 5 with (first
      | (with_reducible refine wpList_loadB xg (x := .tmp 2) ?_ ?_ ?_ ?_
         · with_reducible rfl
         · rfl
         · rfl)
      | (go_at_call 51
         refine (T.out g1 h1 wa pa sa).mono ?_
         rintro e w3 ⟨rfl, s3, c3⟩
         have p3 := pa.chg c3 (by omega)
         have x3 := p3.box)
      | (with_reducible refine wpList_storeA x3 (x := .tmp 2) (y := .tmp 13) (p := q) (D := some ⟨g1, 0, none⟩) (E := some ⟨h1, 0, none⟩) (n := L2.length) (c := L2.length) (m := Bk1.length) (d := Bk1.length) ?_ ?_ ?_ ?_ ?_
         · with_reducible rfl
         · rfl
         · rfl
         · rfl))
    have hzz := pa.box.lt
    refine wp_world (fun wq => PS w 21 (.int .i32 r) q (.slice (some ⟨g1, 0, none⟩) L2.length L2.length) (.slice (some ⟨h1, 0, none⟩) Bk1.length Bk1.length) wq ∧ OScr B wq g1 h1 L2 Bk1 ∧ Chg g w wq) ⟨p3.put q _ _, s3.bput x3 _, (Chg.comp ba (by omega) hgl c3).setRow hgl (Nat.le_refl _) _⟩ ?_
    clear pa sa ba xg p3 s3 c3 x3 T hzz
    rintro w4 ⟨p4, s4, c4⟩
    obtain ⟨k0, k1, k2, k3, k4, k5, k6, k7⟩ := HQ.out
    clear HQ
    obtain ⟨pw, ph, px, py, pwr, pa, pt, pb, psx, psy, psa, pn, phd⟩ := q
    dsimp only at k0 k1 k2 k3 k4 k5 k6 k7
    have s1 : IntKind.i64.wrap (pw - 1) = pw - 1 := IntWalk.i64_in _ (by omega)
    have s2 : IntKind.i64.wrap (px + 1) = px + 1 := IntWalk.i64_in _ (by omega)
    have v0 := p4.box.cells.c0
    have v2 := p4.box.cells.c2
    have v4 := p4.box.cells.c4
    have v11 := p4.box.cells.c11
    have vf := p4.box.cells.free
    have hz4 := p4.box.lt
    dsimp only at v0 v2 v4 v11
    by_cases hl : pw - 1 ≤ px
    · have hl' : px ≥ pw - 1 := hl
      have eq : printNm ⟨pw, ph, px, py, pwr, pa, pt, pb, psx, psy, psa, pn, phd⟩ = ⟨pw, ph, px, py, !pn, pa, pt, pb, psx, psy, psa, pn, phd⟩ := by simp [printNm, hl]
      have hzq := HZ.out
      rw [eq] at hzq
      subst hzq
      clear eq
      go_upto_region 9 with fail
      have p5 := p4.set (p4.box.set_wrap (!pn))
      have s5 := s4.bset p4.box 4 (.bool (!pn))
      have c5 := c4.bset hgl (Nat.le_refl _) 4 (.bool (!pn))
      dsimp only at p5
      generalize (w4.setCell ⟨w.heap.size, 4, none⟩ (.bool (!pn))) = w5 at *
      clear p4 s4 c4 v0 v2 v4 v11 vf hz4
      have x5 := p5.box
      have a5 := p5.ans
      go_wp2_with (first
        | (with_reducible refine wpList_loadB x5 (x := .tmp 2) ?_ ?_ ?_ ?_
           · with_reducible rfl
           · rfl
           · rfl)
        | (with_reducible refine wpList_storeA a5 (x := .tmp 4) (y := .tmp 33) (p := ⟨pw, ph, px, py, !pn, pa, pt, pb, psx, psy, psa, pn, phd⟩) (D := some ⟨g1, 0, none⟩) (E := some ⟨h1, 0, none⟩) (n := L2.length) (c := L2.length) (m := Bk1.length) (d := Bk1.length) ?_ ?_ ?_ ?_ ?_
           · with_reducible rfl
           · rfl
           · rfl
           · rfl))
      refine bodyPost_ret (v := gv ⟨pw, ph, px, py, !pn, pa, pt, pb, psx, psy, psa, pn, phd⟩ (.slice (some ⟨g1, 0, none⟩) L2.length L2.length) (.slice (some ⟨h1, 0, none⟩) Bk1.length Bk1.length)) (results_cell_row (P := Try.prog) Try.results27 _ _ (w.heap.size + 2) 35 _ (0, 0) _ rfl (a5.setRow _ _ _) Try.underlying35 rfl box_size) rfl ?_
      exact ⟨g1, h1, rfl, s5.bput a5 _, c5.setRow hgl (by omega) _⟩
    · have hl' : ¬ px ≥ pw - 1 := hl
      have eq : printNm ⟨pw, ph, px, py, pwr, pa, pt, pb, psx, psy, psa, pn, phd⟩ = ⟨pw, ph, px + 1, py, false, pa, pt, pb, psx, psy, psa, pn, phd⟩ := by simp [printNm, hl]
      have hzq := HZ.out
      rw [eq] at hzq
      subst hzq
      clear eq
      go_upto_region 9 with fail
      have p50 := p4.set (p4.box.set_wrap false)
      have p5 := p50.set (p50.box.set_x (px + 1))
      have s5 := (s4.bset p4.box 4 (.bool false)).bset p50.box 2 (.int .i64 (px + 1))
      have c5 := (c4.bset hgl (Nat.le_refl _) 4 (.bool false)).bset hgl (Nat.le_refl _) 2 (.int .i64 (px + 1))
      dsimp only at p5
      generalize ((w4.setCell ⟨w.heap.size, 4, none⟩ (.bool false)).setCell ⟨w.heap.size, 2, none⟩ (.int .i64 (px + 1))) = w5 at *
      clear p4 p50 s4 c4 v0 v2 v4 v11 vf hz4
      have x5 := p5.box
      have a5 := p5.ans
      go_wp2_with (first
        | (with_reducible refine wpList_loadB x5 (x := .tmp 2) ?_ ?_ ?_ ?_
           · with_reducible rfl
           · rfl
           · rfl)
        | (with_reducible refine wpList_storeA a5 (x := .tmp 4) (y := .tmp 33) (p := ⟨pw, ph, px + 1, py, false, pa, pt, pb, psx, psy, psa, pn, phd⟩) (D := some ⟨g1, 0, none⟩) (E := some ⟨h1, 0, none⟩) (n := L2.length) (c := L2.length) (m := Bk1.length) (d := Bk1.length) ?_ ?_ ?_ ?_ ?_
           · with_reducible rfl
           · rfl
           · rfl
           · rfl))
      refine bodyPost_ret (v := gv ⟨pw, ph, px + 1, py, false, pa, pt, pb, psx, psy, psa, pn, phd⟩ (.slice (some ⟨g1, 0, none⟩) L2.length L2.length) (.slice (some ⟨h1, 0, none⟩) Bk1.length Bk1.length)) (results_cell_row (P := Try.prog) Try.results27 _ _ (w.heap.size + 2) 35 _ (0, 0) _ rfl (a5.setRow _ _ _) Try.underlying35 rfl box_size) rfl ?_
      exact ⟨g1, h1, rfl, s5.bput a5 _, c5.setRow hgl (by omega) _⟩
end Go.Proofs.Ytpcpmeihebgncaa
