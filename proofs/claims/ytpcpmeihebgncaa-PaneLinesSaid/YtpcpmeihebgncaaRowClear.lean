/-
  What rowCleared of package acts answers: of the cursor's row the cells from the cursor on, up to it, or all of them are blank. Conditions: what is asked is 0, 1 or 2; the cursor's row is there and has at most a thousand cells, the cursor stands at 0 to 1,000.
-/
import Derived.Test.YtpcpmeihebgncaaPrinted
import Derived.Test.YtpcpmeihebgncaaClear
import Derived.Deep.MidRow
namespace Go.Proofs.Ytpcpmeihebgncaa
open Go.RowKit
set_option maxRecDepth 100000

/-- The cursor's row, cleared as it is asked. -/
def rclearF (l : List C) (part x : Int) : List C := if part = 0 then clearF l x l.length else if part = 1 then clearF l 0 (x + 1) else clearF l 0 l.length
theorem rclearF_len (l : List C) (part x : Int) : (rclearF l part x).length = l.length := by
  unfold rclearF
  split
  · exact clearF_len _ _ _
  · split <;> exact clearF_len _ _ _

set_option maxHeartbeats 1000000 in
theorem clearFn_any (D : Option Addr) (c : Nat) (l : List C) (k kp : Nat) (p : Nm) (rr bb : Value) (part : Int) (w : World) (hb : Box w k p rr bb) (hr : w.cell? ⟨kp, 0, none⟩ = some (.int .i64 part)) (hrow : RowAt 0 w D l) (hn : l.length ≤ 1000) (x0 : 0 ≤ p.x) (x1 : p.x ≤ 1000) (hp : part = 0 ∨ part = 1 ∨ part = 2) :
    Calls Try.prog 138 #[.slice D l.length c, .pointer (some ⟨kp, 0, none⟩), .pointer (some ⟨k, 0, none⟩)] w (VPost w (rclearF l part p.x)) := by
  have HP := Lib.hid (fun a b => clear_any D c l a b w hrow.read hn)
  have u2 := hb.cells.c2
  have s1 : IntKind.i64.wrap (p.x + 1) = p.x + 1 := IntWalk.i64_in _ (by omega)
  clear hrow hb
  rcases hp with rfl | rfl | rfl
  all_goals
    simp only [rclearF, if_true, if_false, Int.reduceEq]
    go_enter Try.func138, Try.ntmps138
    go_wp2_with (
      go_at_call 112
      refine (HP.out _ _).mono ?_
      rintro e w1 hp
      obtain ⟨D1, c1, rfl, hc1, hr1, hb1⟩ := hp.v)
    go_ret
    exact ⟨D1, c1, rfl, hc1, hr1, hb1⟩
theorem enter104 : ∀ args w, (callFunc 138 args).run Try.prog w = .ok (.enter 138 args) w := enters Try.func138 (by kernel_rfl) rfl

set_option maxHeartbeats 4000000 in
theorem rowCleared_any (B : Nat) (p : Nm) (g h : Nat) (L Bk : List (List C)) (part : Int) (y : Nat) (w : World) (hs : OScr B w g h L Bk) (x0 : 0 ≤ p.x) (x1 : p.x ≤ 1000) (hy : p.y = y) (hyl : y < L.length) (hn : L[y].length ≤ 1000) (hp : part = 0 ∨ part = 1 ∨ part = 2) :
    Calls Try.prog 105 #[ov p g h L Bk, .int .i64 part] w (TurnPost B g h w p (L.set y (rclearF L[y] part p.x)) Bk) := by
  have HS := Lib.hid (PS.start w 3 (.int .i64 part) p (.slice (some ⟨g, 0, none⟩) L.length L.length) (.slice (some ⟨h, 0, none⟩) Bk.length Bk.length))
  have HB := Lib.hid (start_below w (.cells (gcs p (.slice (some ⟨g, 0, none⟩) L.length L.length) (.slice (some ⟨h, 0, none⟩) Bk.length Bk.length)) 35) (.cells #[.int .i64 part] 3) (.cells (gcs zeroNm nilV nilV) 35))
  have hgl := hs.rows.lt
  obtain ⟨L2, hL2⟩ : ∃ L2, L2 = L.set y (rclearF L[y] part p.x) := ⟨_, rfl⟩
  have T : Hid (∀ (wx : World), PS w 3 (.int .i64 part) p (.slice (some ⟨g, 0, none⟩) L.length L.length) (.slice (some ⟨h, 0, none⟩) Bk.length Bk.length) wx → OScr B wx g h L Bk → Calls Try.prog 51 #[gv p (.slice (some ⟨g, 0, none⟩) L.length L.length) (.slice (some ⟨h, 0, none⟩) Bk.length Bk.length), .func (.func 138) #[] #[.pointer (some ⟨w.heap.size + 1, 0, none⟩), .pointer (some ⟨w.heap.size, 0, none⟩)]] wx (TurnPost B g h wx p L2 Bk)) := fun wx ps hs => by
    rw [hL2]
    exact changedO_any 138 _ _ p g h L Bk y _ B wx hs hy hyl enter104 fun wy D c hb hrow => clearFn_any D c L[y] _ _ p _ _ part wy (ps.box.below hb ps.box.lt) ((ps.cell.below hb ps.cell.lt).cell 0) hrow hn x0 x1 hp
  have HH := Lib.hid hs
  rw [← hL2]
  have HL : Hid (L2.length = L.length) := by rw [hL2, List.length_set]; exact Lib.hid rfl
  clear hs hy hn hp hL2 x0 x1 hyl
  unfold ov gv gcs
  go_enter Try.func105, Try.ntmps105
  go_upto_region 1 with fail
  refine wp_world (fun wq => PS w 3 (.int .i64 part) p (.slice (some ⟨g, 0, none⟩) L.length L.length) (.slice (some ⟨h, 0, none⟩) Bk.length Bk.length) wq ∧ Below w.heap.size w wq) ⟨HS.out, HB.out⟩ ?_
  clear HS HB
  rintro w2 ⟨ps, b2⟩
  have xg := ps.box
  go_wp2_with (first
    | (with_reducible refine wpList_loadB xg (x := .tmp 2) ?_ ?_ ?_ ?_
       · with_reducible rfl
       · rfl
       · rfl)
    | (go_at_call 51
       refine (T.out w2 ps (HH.out.below b2 (Nat.le_refl _))).mono ?_
       rintro e w3 ⟨rfl, s3, c3⟩
       have a3 := (ps.chg c3 (.inl hgl)).ans)
    | (with_reducible refine wpList_storeA a3 (x := .tmp 4) (y := .tmp 7) (p := p) (D := some ⟨g, 0, none⟩) (E := some ⟨h, 0, none⟩) (n := L2.length) (c := L2.length) (m := Bk.length) (d := Bk.length) ?_ ?_ ?_ ?_ ?_
       · with_reducible rfl
       · rfl
       · rfl
       · rfl))
  refine bodyPost_ret (v := gv p (.slice (some ⟨g, 0, none⟩) L2.length L2.length) (.slice (some ⟨h, 0, none⟩) Bk.length Bk.length)) (results_cell_row (P := Try.prog) Try.results105 _ _ (w.heap.size + 2) 35 _ (0, 0) _ rfl (a3.setRow _ _ _) Try.underlying35 rfl box_size) rfl ?_
  exact ⟨rfl, s3.bput a3 _, (Chg.comp b2 (.inl rfl) hgl c3).setRow hgl (by omega) _⟩
end Go.Proofs.Ytpcpmeihebgncaa
