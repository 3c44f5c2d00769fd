/-
  What rewritten of package acts answers for @, P, X, S and T. Conditions: the rows have at most a thousand cells, there are at most a thousand of them, at most fifty lines that went; the cursor is on the screen.
-/
import Derived.Test.YtpcpmeihebgncaaCtl
import Derived.Test.YtpcpmeihebgncaaInsert
namespace Go.Proofs.Ytpcpmeihebgncaa
open Go.RowKit
set_option maxRecDepth 100000

theorem changedP_any (F : Nat) (c1 c2 : Value) (p : Nm) (g h : Nat) (L Bk : List (List C)) (y : Nat) (l : List C) (B : Nat) (w : World) (hs : OScr B w g h L Bk) (hp : p.y = y) (hy : y < L.length)
    (hE : ∀ args w, (callFunc F args).run Try.prog w = .ok (.enter F args) w)
    (hF : ∀ wx D c, Below w.heap.size w wx → L[y].length ≤ c → RowAt 0 wx D L[y] → Calls Try.prog F #[.slice D L[y].length c, c1, c2] wx (VPost wx l)) :
    Calls Try.prog 51 #[ov p g h L Bk, .func (.func F) #[] #[c1, c2]] w (TurnPost B g h w p (L.set y l) Bk) := by
  obtain ⟨vs, hv, hg, hr⟩ := hs.rows
  have hvy : y < vs.length := by rw [hr.1]; exact hy
  obtain ⟨D, c, e, hc, hrow⟩ := hr.2 y hvy hy
  have := changed_any F c1 c2 p g (some ⟨h, 0, none⟩) Bk.length Bk.length vs y D L[y].length c l w hv hp hvy (by rw [List.getElem?_eq_getElem hvy, e]) hE (fun wx hb => hF wx D c hb hc ((hrow.weak (Nat.zero_le _)).below hb (Nat.le_refl _)))
  rw [hr.1] at this
  refine this.mono ?_
  rintro e w' ⟨rfl, D1, c1, h1, h2, h3, h4⟩
  refine ⟨?_, hs.turn hv hr h4 h2 h1 h3, h4⟩
  unfold ov
  rw [List.length_set]

set_option maxHeartbeats 1000000 in
theorem insFn_any (D : Option Addr) (c : Nat) (l : List C) (k kp : Nat) (p : Nm) (rr bb : Value) (n : Int) (w : World) (hb : Box w k p rr bb) (hr : w.cell? ⟨kp, 0, none⟩ = some (.int .i64 n)) (hrow : RowAt 0 w D l) (hc : l.length ≤ c) (hn : l.length ≤ 1000) (x0 : 0 ≤ p.x) (x1 : p.x ≤ 1000) (n0 : 0 ≤ n) (n1 : n ≤ 1048576) :
    Calls Try.prog 107 #[.slice D l.length c, .pointer (some ⟨k, 0, none⟩), .pointer (some ⟨kp, 0, none⟩)] w (VPost w (insertF l p.x n)) := by
  have HP := Lib.hid (insert_any D c l p.x n w hrow.read hc hn)
  have u2 := hb.cells.c2
  have s1 : IntKind.i64.wrap (p.x + n) = p.x + n := IntWalk.i64_in _ (by omega)
  clear hrow hb
  go_enter Try.func107, Try.ntmps107
  go_wp2_with (
    go_at_call 108
    refine HP.out.mono ?_
    rintro e w1 hp
    obtain ⟨D1, c1, rfl, hc1, hr1, hb1⟩ := hp.v)
  go_ret
  exact ⟨D1, c1, rfl, hc1, hr1, hb1⟩
theorem enter85 : ∀ args w, (callFunc 107 args).run Try.prog w = .ok (.enter 107 args) w := enters Try.func107 (by kernel_rfl) rfl

set_option maxHeartbeats 1000000 in
theorem delFn_any (D : Option Addr) (c : Nat) (l : List C) (k kp : Nat) (p : Nm) (rr bb : Value) (n : Int) (w : World) (hb : Box w k p rr bb) (hr : w.cell? ⟨kp, 0, none⟩ = some (.int .i64 n)) (hrow : RowAt 0 w D l) (hc : l.length ≤ c) (hn : l.length ≤ 1000) (x0 : 0 ≤ p.x) (x1 : p.x ≤ 1000) (n0 : 0 ≤ n) (n1 : n ≤ 1048576) :
    Calls Try.prog 109 #[.slice D l.length c, .pointer (some ⟨k, 0, none⟩), .pointer (some ⟨kp, 0, none⟩)] w (VPost w (deleteF l p.x n)) := by
  have HP := Lib.hid (delete_any D c l p.x n w hrow.read hc hn)
  have u2 := hb.cells.c2
  have s1 : IntKind.i64.wrap (p.x + n) = p.x + n := IntWalk.i64_in _ (by omega)
  clear hrow hb
  go_enter Try.func109, Try.ntmps109
  go_wp2_with (
    go_at_call 110
    refine HP.out.mono ?_
    rintro e w1 hp
    obtain ⟨D1, c1, rfl, hc1, hr1, hb1⟩ := hp.v)
  go_ret
  exact ⟨D1, c1, rfl, hc1, hr1, hb1⟩
theorem enter87 : ∀ args w, (callFunc 109 args).run Try.prog w = .ok (.enter 109 args) w := enters Try.func109 (by kernel_rfl) rfl

set_option maxHeartbeats 1000000 in
theorem clrFn_any (D : Option Addr) (c : Nat) (l : List C) (k kp : Nat) (p : Nm) (rr bb : Value) (n : Int) (w : World) (hb : Box w k p rr bb) (hr : w.cell? ⟨kp, 0, none⟩ = some (.int .i64 n)) (hrow : RowAt 0 w D l) (_ : l.length ≤ c) (hn : l.length ≤ 1000) (x0 : 0 ≤ p.x) (x1 : p.x ≤ 1000) (n0 : 0 ≤ n) (n1 : n ≤ 1048576) :
    Calls Try.prog 111 #[.slice D l.length c, .pointer (some ⟨k, 0, none⟩), .pointer (some ⟨kp, 0, none⟩)] w (VPost w (clearF l p.x (p.x + n))) := by
  have HP := Lib.hid (clear_any D c l p.x (p.x + n) w hrow.read hn)
  have u2 := hb.cells.c2
  have s1 : IntKind.i64.wrap (p.x + n) = p.x + n := IntWalk.i64_in _ (by omega)
  clear hrow hb
  go_enter Try.func111, Try.ntmps111
  go_wp2_with (
    go_at_call 112
    refine HP.out.mono ?_
    rintro e w1 hp
    obtain ⟨D1, c1, rfl, hc1, hr1, hb1⟩ := hp.v)
  go_ret
  exact ⟨D1, c1, rfl, hc1, hr1, hb1⟩
theorem enter89 : ∀ args w, (callFunc 111 args).run Try.prog w = .ok (.enter 111 args) w := enters Try.func111 (by kernel_rfl) rfl

set_option maxHeartbeats 4000000 in
theorem rew_at (B : Nat) (p : Nm) (g h : Nat) (L Bk : List (List C)) (n part : Int) (y : Nat) (w : World) (hs : OScr B w g h L Bk) (x0 : 0 ≤ p.x) (x1 : p.x ≤ 1000) (hy : p.y = y) (hyl : y < L.length) (hn : L[y].length ≤ 1000) (n0 : 0 ≤ n) (n1 : n ≤ 1048576) :
    Calls Try.prog 59 #[ov p g h L Bk, .int .i32 64, .int .i64 n, .int .i64 part] w (InPost B g w p (L.set y (insertF L[y] p.x n)) Bk) := by
  have HS := Lib.hid (PS.start w 3 (.int .i64 n) p (.slice (some ⟨g, 0, none⟩) L.length L.length) (.slice (some ⟨h, 0, none⟩) Bk.length Bk.length))
  have HB := Lib.hid (start_below w (.cells (gcs p (.slice (some ⟨g, 0, none⟩) L.length L.length) (.slice (some ⟨h, 0, none⟩) Bk.length Bk.length)) 35) (.cells #[.int .i64 n] 3) (.cells (gcs zeroNm nilV nilV) 35))
  have hgl := hs.rows.lt
  obtain ⟨L2, hL2⟩ : ∃ L2, L2 = L.set y (insertF L[y] p.x n) := ⟨_, rfl⟩
  have T : Hid (∀ (wx : World), PS w 3 (.int .i64 n) p (.slice (some ⟨g, 0, none⟩) L.length L.length) (.slice (some ⟨h, 0, none⟩) Bk.length Bk.length) wx → OScr B wx g h L Bk → Calls Try.prog 51 #[gv p (.slice (some ⟨g, 0, none⟩) L.length L.length) (.slice (some ⟨h, 0, none⟩) Bk.length Bk.length), .func (.func 107) #[] #[.pointer (some ⟨w.heap.size, 0, none⟩), .pointer (some ⟨w.heap.size + 1, 0, none⟩)]] wx (TurnPost B g h wx p L2 Bk)) := fun wx ps hs => by
    rw [hL2]
    exact changedP_any 107 _ _ p g h L Bk y _ B wx hs hy hyl enter85 fun wy D c hb hc hrow => insFn_any D c L[y] _ _ p _ _ n wy (ps.box.below hb ps.box.lt) ((ps.cell.below hb ps.cell.lt).cell 0) hrow hc hn x0 x1 n0 n1
  have HH := Lib.hid hs
  rw [← hL2]
  clear hs hy hn hL2 x0 x1 hyl n0 n1
  unfold ov gv gcs
  go_enter Try.func59, Try.ntmps59
  go_upto_region 1 with fail
  refine wp_world (fun wq => PS w 3 (.int .i64 n) p (.slice (some ⟨g, 0, none⟩) L.length L.length) (.slice (some ⟨h, 0, none⟩) Bk.length Bk.length) wq ∧ Below w.heap.size w wq) ⟨HS.out, HB.out⟩ ?_
  clear HS HB
  rintro w2 ⟨ps, b2⟩
  have xg := ps.box
  go_wp2_with (first
    | (with_reducible refine wpList_loadB xg (x := .tmp 4) ?_ ?_ ?_ ?_
       · with_reducible rfl
       · rfl
       · rfl)
    | (go_at_call 51
       refine (T.out w2 ps (HH.out.below b2 (Nat.le_refl _))).mono ?_
       rintro e w3 ⟨rfl, s3, c3⟩
       have a3 := (ps.chg c3 (.inl hgl)).ans)
    | (with_reducible refine wpList_storeA a3 (x := .tmp 8) (y := .tmp 34) (p := p) (D := some ⟨g, 0, none⟩) (E := some ⟨h, 0, none⟩) (n := L2.length) (c := L2.length) (m := Bk.length) (d := Bk.length) ?_ ?_ ?_ ?_ ?_
       · with_reducible rfl
       · rfl
       · rfl
       · rfl))
  refine bodyPost_ret (v := gv p (.slice (some ⟨g, 0, none⟩) L2.length L2.length) (.slice (some ⟨h, 0, none⟩) Bk.length Bk.length)) (results_cell_row (P := Try.prog) Try.results59 _ _ (w.heap.size + 2) 35 _ (0, 0) _ rfl (a3.setRow _ _ _) Try.underlying35 rfl box_size) rfl ?_
  exact ⟨g, h, rfl, s3.bput a3 _, (Chg.comp b2 (.inl rfl) hgl c3).setRow hgl (by omega) _⟩

set_option maxHeartbeats 4000000 in
theorem rew_P (B : Nat) (p : Nm) (g h : Nat) (L Bk : List (List C)) (n part : Int) (y : Nat) (w : World) (hs : OScr B w g h L Bk) (x0 : 0 ≤ p.x) (x1 : p.x ≤ 1000) (hy : p.y = y) (hyl : y < L.length) (hn : L[y].length ≤ 1000) (n0 : 0 ≤ n) (n1 : n ≤ 1048576) :
    Calls Try.prog 59 #[ov p g h L Bk, .int .i32 80, .int .i64 n, .int .i64 part] w (InPost B g w p (L.set y (deleteF L[y] p.x n)) Bk) := by
  have HS := Lib.hid (PS.start w 3 (.int .i64 n) p (.slice (some ⟨g, 0, none⟩) L.length L.length) (.slice (some ⟨h, 0, none⟩) Bk.length Bk.length))
  have HB := Lib.hid (start_below w (.cells (gcs p (.slice (some ⟨g, 0, none⟩) L.length L.length) (.slice (some ⟨h, 0, none⟩) Bk.length Bk.length)) 35) (.cells #[.int .i64 n] 3) (.cells (gcs zeroNm nilV nilV) 35))
  have hgl := hs.rows.lt
  obtain ⟨L2, hL2⟩ : ∃ L2, L2 = L.set y (deleteF L[y] p.x n) := ⟨_, rfl⟩
  have T : Hid (∀ (wx : World), PS w 3 (.int .i64 n) p (.slice (some ⟨g, 0, none⟩) L.length L.length) (.slice (some ⟨h, 0, none⟩) Bk.length Bk.length) wx → OScr B wx g h L Bk → Calls Try.prog 51 #[gv p (.slice (some ⟨g, 0, none⟩) L.length L.length) (.slice (some ⟨h, 0, none⟩) Bk.length Bk.length), .func (.func 109) #[] #[.pointer (some ⟨w.heap.size, 0, none⟩), .pointer (some ⟨w.heap.size + 1, 0, none⟩)]] wx (TurnPost B g h wx p L2 Bk)) := fun wx ps hs => by
    rw [hL2]
    exact changedP_any 109 _ _ p g h L Bk y _ B wx hs hy hyl enter87 fun wy D c hb hc hrow => delFn_any D c L[y] _ _ p _ _ n wy (ps.box.below hb ps.box.lt) ((ps.cell.below hb ps.cell.lt).cell 0) hrow hc hn x0 x1 n0 n1
  have HH := Lib.hid hs
  rw [← hL2]
  clear hs hy hn hL2 x0 x1 hyl n0 n1
  unfold ov gv gcs
  go_enter Try.func59, Try.ntmps59
  go_upto_region 1 with fail
  refine wp_world (fun wq => PS w 3 (.int .i64 n) p (.slice (some ⟨g, 0, none⟩) L.length L.length) (.slice (some ⟨h, 0, none⟩) Bk.length Bk.length) wq ∧ Below w.heap.size w wq) ⟨HS.out, HB.out⟩ ?_
  clear HS HB
  rintro w2 ⟨ps, b2⟩
  have xg := ps.box
  go_wp2_with (first
    | (with_reducible refine wpList_loadB xg (x := .tmp 4) ?_ ?_ ?_ ?_
       · with_reducible rfl
       · rfl
       · rfl)
    | (go_at_call 51
       refine (T.out w2 ps (HH.out.below b2 (Nat.le_refl _))).mono ?_
       rintro e w3 ⟨rfl, s3, c3⟩
       have a3 := (ps.chg c3 (.inl hgl)).ans)
    | (with_reducible refine wpList_storeA a3 (x := .tmp 8) (y := .tmp 39) (p := p) (D := some ⟨g, 0, none⟩) (E := some ⟨h, 0, none⟩) (n := L2.length) (c := L2.length) (m := Bk.length) (d := Bk.length) ?_ ?_ ?_ ?_ ?_
       · with_reducible rfl
       · rfl
       · rfl
       · rfl))
  refine bodyPost_ret (v := gv p (.slice (some ⟨g, 0, none⟩) L2.length L2.length) (.slice (some ⟨h, 0, none⟩) Bk.length Bk.length)) (results_cell_row (P := Try.prog) Try.results59 _ _ (w.heap.size + 2) 35 _ (0, 0) _ rfl (a3.setRow _ _ _) Try.underlying35 rfl box_size) rfl ?_
  exact ⟨g, h, rfl, s3.bput a3 _, (Chg.comp b2 (.inl rfl) hgl c3).setRow hgl (by omega) _⟩

set_option maxHeartbeats 4000000 in
theorem rew_X (B : Nat) (p : Nm) (g h : Nat) (L Bk : List (List C)) (n part : Int) (y : Nat) (w : World) (hs : OScr B w g h L Bk) (x0 : 0 ≤ p.x) (x1 : p.x ≤ 1000) (hy : p.y = y) (hyl : y < L.length) (hn : L[y].length ≤ 1000) (n0 : 0 ≤ n) (n1 : n ≤ 1048576) :
    Calls Try.prog 59 #[ov p g h L Bk, .int .i32 88, .int .i64 n, .int .i64 part] w (InPost B g w p (L.set y (clearF L[y] p.x (p.x + n))) Bk) := by
  have HS := Lib.hid (PS.start w 3 (.int .i64 n) p (.slice (some ⟨g, 0, none⟩) L.length L.length) (.slice (some ⟨h, 0, none⟩) Bk.length Bk.length))
  have HB := Lib.hid (start_below w (.cells (gcs p (.slice (some ⟨g, 0, none⟩) L.length L.length) (.slice (some ⟨h, 0, none⟩) Bk.length Bk.length)) 35) (.cells #[.int .i64 n] 3) (.cells (gcs zeroNm nilV nilV) 35))
  have hgl := hs.rows.lt
  obtain ⟨L2, hL2⟩ : ∃ L2, L2 = L.set y (clearF L[y] p.x (p.x + n)) := ⟨_, rfl⟩
  have T : Hid (∀ (wx : World), PS w 3 (.int .i64 n) p (.slice (some ⟨g, 0, none⟩) L.length L.length) (.slice (some ⟨h, 0, none⟩) Bk.length Bk.length) wx → OScr B wx g h L Bk → Calls Try.prog 51 #[gv p (.slice (some ⟨g, 0, none⟩) L.length L.length) (.slice (some ⟨h, 0, none⟩) Bk.length Bk.length), .func (.func 111) #[] #[.pointer (some ⟨w.heap.size, 0, none⟩), .pointer (some ⟨w.heap.size + 1, 0, none⟩)]] wx (TurnPost B g h wx p L2 Bk)) := fun wx ps hs => by
    rw [hL2]
    exact changedP_any 111 _ _ p g h L Bk y _ B wx hs hy hyl enter89 fun wy D c hb hc hrow => clrFn_any D c L[y] _ _ p _ _ n wy (ps.box.below hb ps.box.lt) ((ps.cell.below hb ps.cell.lt).cell 0) hrow hc hn x0 x1 n0 n1
  have HH := Lib.hid hs
  rw [← hL2]
  clear hs hy hn hL2 x0 x1 hyl n0 n1
  unfold ov gv gcs
  go_enter Try.func59, Try.ntmps59
  go_upto_region 1 with fail
  refine wp_world (fun wq => PS w 3 (.int .i64 n) p (.slice (some ⟨g, 0, none⟩) L.length L.length) (.slice (some ⟨h, 0, none⟩) Bk.length Bk.length) wq ∧ Below w.heap.size w wq) ⟨HS.out, HB.out⟩ ?_
  clear HS HB
  rintro w2 ⟨ps, b2⟩
  have xg := ps.box
  go_wp2_with (first
    | (with_reducible refine wpList_loadB xg (x := .tmp 4) ?_ ?_ ?_ ?_
       · with_reducible rfl
       · rfl
       · rfl)
    | (go_at_call 51
       refine (T.out w2 ps (HH.out.below b2 (Nat.le_refl _))).mono ?_
       rintro e w3 ⟨rfl, s3, c3⟩
       have a3 := (ps.chg c3 (.inl hgl)).ans)
    | (with_reducible refine wpList_storeA a3 (x := .tmp 8) (y := .tmp 44) (p := p) (D := some ⟨g, 0, none⟩) (E := some ⟨h, 0, none⟩) (n := L2.length) (c := L2.length) (m := Bk.length) (d := Bk.length) ?_ ?_ ?_ ?_ ?_
       · with_reducible rfl
       · rfl
       · rfl
       · rfl))
  refine bodyPost_ret (v := gv p (.slice (some ⟨g, 0, none⟩) L2.length L2.length) (.slice (some ⟨h, 0, none⟩) Bk.length Bk.length)) (results_cell_row (P := Try.prog) Try.results59 _ _ (w.heap.size + 2) 35 _ (0, 0) _ rfl (a3.setRow _ _ _) Try.underlying35 rfl box_size) rfl ?_
  exact ⟨g, h, rfl, s3.bput a3 _, (Chg.comp b2 (.inl rfl) hgl c3).setRow hgl (by omega) _⟩

/-- The rows behind n lines up, from top to bottom, and the lines that went; behind n lines down. -/
def upT (L : List (List C)) (w top bottom n : Int) : List (List C) := upL L (fromF L.length top) (toF L.length top bottom) (withinF n (toF L.length top bottom - fromF L.length top)).toNat w
def upTB (L Bk : List (List C)) (top bottom n : Int) : List (List C) := upBack L Bk (fromF L.length top) (withinF n (toF L.length top bottom - fromF L.length top)).toNat
def downT (L : List (List C)) (w top bottom n : Int) : List (List C) := downL L (fromF L.length top) (toF L.length top bottom) (withinF n (toF L.length top bottom - fromF L.length top)).toNat w

set_option maxHeartbeats 4000000 in
theorem rew_S (B : Nat) (p : Nm) (g h : Nat) (L Bk : List (List C)) (n part : Int) (w : World) (hs : OScr B w g h L Bk) (h0 : 1 ≤ L.length) (hn : L.length ≤ 1000) (hm : Bk.length ≤ 50) (hl : ∀ r ∈ L, r.length ≤ 1000) (hlb : ∀ r ∈ Bk, r.length ≤ 1000) :
    Calls Try.prog 59 #[ov p g h L Bk, .int .i32 83, .int .i64 n, .int .i64 part] w (InPost B g w p (upT L p.w p.top p.bottom n) (upTB L Bk p.top p.bottom n)) := by
  have HS := Lib.hid (PS.start w 3 (.int .i64 n) p (.slice (some ⟨g, 0, none⟩) L.length L.length) (.slice (some ⟨h, 0, none⟩) Bk.length Bk.length))
  have HB := Lib.hid (start_below w (.cells (gcs p (.slice (some ⟨g, 0, none⟩) L.length L.length) (.slice (some ⟨h, 0, none⟩) Bk.length Bk.length)) 35) (.cells #[.int .i64 n] 3) (.cells (gcs zeroNm nilV nilV) 35))
  have hgl := hs.rows.lt
  have hB : B ≤ w.heap.size := by have := hs.rows.low; omega
  have HU : Hid (∀ wx, Below w.heap.size w wx → Calls Try.prog 96 #[gv p (.slice (some ⟨g, 0, none⟩) L.length L.length) (.slice (some ⟨h, 0, none⟩) Bk.length Bk.length), .int .i64 p.top, .int .i64 p.bottom, .int .i64 n] wx (OwnPost wx p (upT L p.w p.top p.bottom n) (upTB L Bk p.top p.bottom n))) := fun wx hb => upO_any p _ _ L.length L.length Bk.length Bk.length L Bk p.top p.bottom n wx ((hs.below hb (Nat.le_refl _)).weak (Nat.zero_le _)).scr h0 hn hm hl hlb
  clear hs hl hlb hn hm h0
  obtain ⟨L2, hL2⟩ : ∃ L2, L2 = upT L p.w p.top p.bottom n := ⟨_, rfl⟩
  obtain ⟨B2, hB2⟩ : ∃ B2, B2 = upTB L Bk p.top p.bottom n := ⟨_, rfl⟩
  rw [← hL2] at HU ⊢
  rw [← hB2] at HU ⊢
  clear hL2
  clear hB2
  unfold ov gv gcs
  go_enter Try.func59, Try.ntmps59
  go_upto_region 1 with fail
  refine wp_world (fun wq => PS w 3 (.int .i64 n) p (.slice (some ⟨g, 0, none⟩) L.length L.length) (.slice (some ⟨h, 0, none⟩) Bk.length Bk.length) wq ∧ Below w.heap.size w wq) ⟨HS.out, HB.out⟩ ?_
  clear HS HB
  rintro w2 ⟨ps, b2⟩
  have xg := ps.box
  have u6 := xg.cells.c6
  have u7 := xg.cells.c7
  have un := ps.cell.cell 0
  simp only [List.getElem?_toArray, List.getElem?_cons_zero] at un
  go_wp2_with (first
    | (with_reducible refine wpList_loadB xg (x := .tmp 4) ?_ ?_ ?_ ?_
       · with_reducible rfl
       · rfl
       · rfl)
    | (go_at_call 96
       refine (HU.out w2 b2).mono ?_
       rintro e w3 ⟨g3, h3, rfl, s3, b3⟩
       have a3 := ps.ans.below b3 ps.ans.lt)
    | (with_reducible refine wpList_storeA a3 (x := .tmp 8) (y := .tmp 53) (p := p) (D := some ⟨g3, 0, none⟩) (E := some ⟨h3, 0, none⟩) (n := L2.length) (c := L2.length) (m := B2.length) (d := B2.length) ?_ ?_ ?_ ?_ ?_
       · with_reducible rfl
       · rfl
       · rfl
       · rfl))
  have hz := b2.size
  refine bodyPost_ret (v := gv p (.slice (some ⟨g3, 0, none⟩) L2.length L2.length) (.slice (some ⟨h3, 0, none⟩) B2.length B2.length)) (results_cell_row (P := Try.prog) Try.results59 _ _ (w.heap.size + 2) 35 _ (0, 0) _ rfl (a3.setRow _ _ _) Try.underlying35 rfl box_size) rfl ?_
  exact ⟨g3, h3, rfl, (s3.bput a3 _).weak (by omega), Chg.of (below_setRow (b2.trans (b3.mono b2.size)) (by omega) _) hgl⟩

set_option maxHeartbeats 4000000 in
theorem rew_T (B : Nat) (p : Nm) (g h : Nat) (L Bk : List (List C)) (n part : Int) (w : World) (hs : OScr B w g h L Bk) (h0 : 1 ≤ L.length) (hn : L.length ≤ 1000) (hm : Bk.length ≤ 50) (hl : ∀ r ∈ L, r.length ≤ 1000) (hlb : ∀ r ∈ Bk, r.length ≤ 1000) :
    Calls Try.prog 59 #[ov p g h L Bk, .int .i32 84, .int .i64 n, .int .i64 part] w (InPost B g w p (downT L p.w p.top p.bottom n) (Bk)) := by
  have HS := Lib.hid (PS.start w 3 (.int .i64 n) p (.slice (some ⟨g, 0, none⟩) L.length L.length) (.slice (some ⟨h, 0, none⟩) Bk.length Bk.length))
  have HB := Lib.hid (start_below w (.cells (gcs p (.slice (some ⟨g, 0, none⟩) L.length L.length) (.slice (some ⟨h, 0, none⟩) Bk.length Bk.length)) 35) (.cells #[.int .i64 n] 3) (.cells (gcs zeroNm nilV nilV) 35))
  have hgl := hs.rows.lt
  have hB : B ≤ w.heap.size := by have := hs.rows.low; omega
  have HU : Hid (∀ wx, Below w.heap.size w wx → Calls Try.prog 100 #[gv p (.slice (some ⟨g, 0, none⟩) L.length L.length) (.slice (some ⟨h, 0, none⟩) Bk.length Bk.length), .int .i64 p.top, .int .i64 p.bottom, .int .i64 n] wx (OwnPost wx p (downT L p.w p.top p.bottom n) (Bk))) := fun wx hb => downO_any p _ _ L.length L.length Bk.length Bk.length L Bk p.top p.bottom n wx ((hs.below hb (Nat.le_refl _)).weak (Nat.zero_le _)).scr h0 hn hm hl hlb
  clear hs hl hlb hn hm h0
  obtain ⟨L2, hL2⟩ : ∃ L2, L2 = downT L p.w p.top p.bottom n := ⟨_, rfl⟩
  rw [← hL2] at HU ⊢
  clear hL2
  unfold ov gv gcs
  go_enter Try.func59, Try.ntmps59
  go_upto_region 1 with fail
  refine wp_world (fun wq => PS w 3 (.int .i64 n) p (.slice (some ⟨g, 0, none⟩) L.length L.length) (.slice (some ⟨h, 0, none⟩) Bk.length Bk.length) wq ∧ Below w.heap.size w wq) ⟨HS.out, HB.out⟩ ?_
  clear HS HB
  rintro w2 ⟨ps, b2⟩
  have xg := ps.box
  have u6 := xg.cells.c6
  have u7 := xg.cells.c7
  have un := ps.cell.cell 0
  simp only [List.getElem?_toArray, List.getElem?_cons_zero] at un
  go_wp2_with (first
    | (with_reducible refine wpList_loadB xg (x := .tmp 4) ?_ ?_ ?_ ?_
       · with_reducible rfl
       · rfl
       · rfl)
    | (go_at_call 100
       refine (HU.out w2 b2).mono ?_
       rintro e w3 ⟨g3, h3, rfl, s3, b3⟩
       have a3 := ps.ans.below b3 ps.ans.lt)
    | (with_reducible refine wpList_storeA a3 (x := .tmp 8) (y := .tmp 62) (p := p) (D := some ⟨g3, 0, none⟩) (E := some ⟨h3, 0, none⟩) (n := L2.length) (c := L2.length) (m := Bk.length) (d := Bk.length) ?_ ?_ ?_ ?_ ?_
       · with_reducible rfl
       · rfl
       · rfl
       · rfl))
  have hz := b2.size
  refine bodyPost_ret (v := gv p (.slice (some ⟨g3, 0, none⟩) L2.length L2.length) (.slice (some ⟨h3, 0, none⟩) Bk.length Bk.length)) (results_cell_row (P := Try.prog) Try.results59 _ _ (w.heap.size + 2) 35 _ (0, 0) _ rfl (a3.setRow _ _ _) Try.underlying35 rfl box_size) rfl ?_
  exact ⟨g3, h3, rfl, (s3.bput a3 _).weak (by omega), Chg.of (below_setRow (b2.trans (b3.mono b2.size)) (by omega) _) hgl⟩
end Go.Proofs.Ytpcpmeihebgncaa
