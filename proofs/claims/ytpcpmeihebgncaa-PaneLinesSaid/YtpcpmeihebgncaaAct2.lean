/-
  What escaped, rewritten, sequenced and Apply of package acts answer, told by the plain functions of an action. Conditions: the screen is whole, at most a million parameters.
-/
import Derived.Test.YtpcpmeihebgncaaAct
namespace Go.Proofs.Ytpcpmeihebgncaa
open Go.RowKit
set_option maxRecDepth 100000

set_option maxHeartbeats 4000000 in
theorem lineBack_else (p : Nm) (D E : Option Addr) (n c m d : Nat) (w : World) (hp : On p) (hy : ¬ p.y = p.top) :
    Calls Try.prog 55 #[gv p (.slice D n c) (.slice E m d)] w (ValPost (gv (movedNm p p.x (p.y - 1)) (.slice D n c) (.slice E m d)) w) := by
  have HS := Lib.hid (MS.start w p (.slice D n c) (.slice E m d))
  obtain ⟨w0, w1, h0, h1, x0, x1, y0, y1⟩ := hp
  have s1 : IntKind.i64.wrap (p.y - 1) = p.y - 1 := IntWalk.i64_in _ (by omega)
  unfold gv gcs
  go_enter Try.func55, Try.ntmps55
  go_upto_region 1 with fail
  refine wp_world (fun wq => MS w p (.slice D n c) (.slice E m d) wq) HS.out ?_
  clear HS
  intro w2 rs
  have xg := rs.box
  have u2 := xg.cells.c2
  have u3 := xg.cells.c3
  have u6 := xg.cells.c6
  have HM := Lib.hid (moved_any p D E n c m d p.x (p.y - 1) w2 w0 w1 h0 h1)
  have HR := Lib.hid rs
  clear rs w0 w1 h0 h1 x0 x1 y0 y1
  go_wp2_with (first
    | (with_reducible refine wpList_loadB xg (x := .tmp 1) ?_ ?_ ?_ ?_
       · with_reducible rfl
       · rfl
       · rfl)
    | (go_at_call 54
       refine HM.out.mono ?_
       clear HM
       rintro e w5 ⟨rfl, hb5⟩
       have xa := HR.out.ans.below hb5 HR.out.ans.lt
       generalize hq : movedNm p p.x (p.y - 1) = q at *)
    | (with_reducible refine wpList_storeA xa (x := .tmp 2) (y := .tmp 26) (p := q) (D := D) (E := E) (n := n) (c := c) (m := m) (d := d) ?_ ?_ ?_ ?_ ?_
       · with_reducible rfl
       · rfl
       · rfl
       · rfl))
  refine bodyPost_ret (v := gv q (.slice D n c) (.slice E m d)) (results_cell_row (P := Try.prog) Try.results55 _ _ (w.heap.size + 1) 35 _ (0, 0) _ rfl (xa.setRow q _ _) Try.underlying35 rfl box_size) rfl ?_
  exact ⟨rfl, below_setRow (HR.out.below.trans (hb5.mono HR.out.below.size)) (Nat.le_succ _) _⟩

set_option maxHeartbeats 4000000 in
theorem backS_any {W H B : Nat} {s : WS} {g h : Nat} (w : World) (hs : OScr B w g h s.L s.B) (k : Wk W H s) : Calls Try.prog 55 #[ov s.p g h s.L s.B] w (LinePost B g w (backS s).p (backS s).L (backS s).B) := by
  by_cases e : s.p.y = s.p.top
  · have e1 : backS s = ⟨movedNm s.p s.p.x s.p.y, downG s.p s.L, s.B⟩ := by unfold backS; rw [if_pos e]
    rw [e1]
    exact lineBack_any B s.p g h s.L s.B w hs k.on e (by rw [k.ok.ln]; exact k.H1) (by rw [k.ok.ln]; exact k.H2) k.ok.bn k.rows k.ok.back
  · have e1 : backS s = mvS s s.p.x (s.p.y - 1) := by unfold backS; rw [if_neg e]
    rw [e1]
    refine (lineBack_else s.p _ _ _ _ _ _ w k.on e).mono ?_
    rintro e w' ⟨rfl, hb⟩
    exact ⟨g, h, rfl, hs.below hb (Nat.le_refl _), .inl rfl, hb⟩
set_option maxHeartbeats 4000000 in
theorem esc_all {W H B : Nat} {s : WS} {g h : Nat} (r : Int) (w : World) (hs : OScr B w g h s.L s.B) (k : Wk W H s) : Calls Try.prog 29 #[ov s.p g h s.L s.B, .int .i32 r] w (InPost B g w (escF s r).p (escF s r).L (escF s r).B) := by
  have hT : ∀ wx, Below w.heap.size w wx → Calls Try.prog 50 #[ov s.p g h s.L s.B] wx (LinePost B g wx (lineS s).p (lineS s).L (lineS s).B) := fun wx hb => lineS_any wx (hs.below hb (Nat.le_refl _)) k
  unfold escF
  by_cases h1 : r = 68
  · subst h1
    exact escD_any B s.p (lineS s).p g h s.L s.B _ _ w hs k.line.on hT
  rw [if_neg h1]
  by_cases h2 : r = 77
  · subst h2
    exact escM_any B s.p (backS s).p g h s.L s.B _ _ w hs fun wx hb => backS_any wx (hs.below hb (Nat.le_refl _)) k
  rw [if_neg h2]
  by_cases h3 : r = 69
  · subst h3
    exact esc_E B s.p (lineS s).p g h s.L s.B _ _ w hs k.line.on hT
  rw [if_neg h3]
  by_cases h4 : r = 55
  · subst h4
    exact into hs (esc_7 s.p _ _ _ _ _ _ w)
  rw [if_neg h4]
  by_cases h5 : r = 56
  · subst h5
    exact into hs (esc_8 s.p _ _ _ _ _ _ w k.on)
  rw [if_neg h5]
  by_cases h6 : r = 99
  · subst h6
    exact esc_c B s.p g h s.L s.B w hs k.on
  rw [if_neg h6]
  exact into hs (esc_no s.p _ _ _ _ _ _ r w ⟨h1, h2, h3, h4, h5, h6⟩)
set_option maxHeartbeats 4000000 in
theorem rew_all {W H B : Nat} {s : WS} {g h : Nat} (r n part : Int) (w : World) (hs : OScr B w g h s.L s.B) (k : Wk W H s) (n0 : 0 ≤ n) (n1 : n ≤ 1048576) : Calls Try.prog 59 #[ov s.p g h s.L s.B, .int .i32 r, .int .i64 n, .int .i64 part] w (InPost B g w (rewF s r n part).p (rewF s r n part).L (rewF s r n part).B) := by
  obtain ⟨y, hy, e1, e2, e3, e4, e5⟩ := k.at
  have x0 := k.ok.x0
  have x1 : s.p.x ≤ 1000 := by have := k.ok.x1; have := k.W2; omega
  have l0 : 1 ≤ s.L.length := by rw [k.ok.ln]; exact k.H1
  have l1 : s.L.length ≤ 1000 := by rw [k.ok.ln]; exact k.H2
  unfold rewF
  by_cases h1 : r = 74
  · subst h1
    rw [if_pos rfl]
    by_cases hp : part = 0 ∨ part = 1 ∨ part = 2
    · rw [if_pos hp]
      refine rew_J B s.p g h s.L s.B _ n part w hs fun wx hx => ?_
      have := screenCleared_any B s.p g h s.L s.B part y wx hx x0 x1 e1 hy k.rows l1 hp
      simp only [rowS, e2, e3]
      exact this
    · rw [if_neg hp]
      exact rew_J B s.p g h s.L s.B _ n part w hs fun wx hx => screenCleared_no B s.p g h s.L s.B part y wx hx e1 hy l1 (fun e => hp (.inl e)) (fun e => hp (.inr (.inl e))) (fun e => hp (.inr (.inr e)))
  rw [if_neg h1]
  by_cases h2 : r = 75
  · subst h2
    rw [if_pos rfl]
    by_cases hp : part = 0 ∨ part = 1 ∨ part = 2
    · rw [if_pos hp]
      refine rew_K B s.p g h s.L s.B _ n part w hs fun wx hx => ?_
      have := rowCleared_any B s.p g h s.L s.B part y wx hx x0 x1 e1 hy e5 hp
      simp only [rowS, e2, e3]
      exact this
    · rw [if_neg hp]
      exact rew_K B s.p g h s.L s.B _ n part w hs fun wx hx => rowCleared_no B s.p g h s.L s.B part y wx hx e1 hy (fun e => hp (.inl e)) (fun e => hp (.inr (.inl e))) (fun e => hp (.inr (.inr e)))
  rw [if_neg h2]
  by_cases h3 : r = 76
  · subst h3
    rw [if_pos rfl]
    by_cases hq : s.p.y < s.p.top ∨ s.p.bottom < s.p.y
    · rw [if_pos hq]
      exact rew_L B s.p s.p g h s.L s.B _ _ n part w hs fun wx hx _ => into hx (here_no s.p _ _ _ _ _ _ n 100 wx hq)
    · rw [if_neg hq]
      refine rew_L B s.p _ g h s.L s.B _ _ n part w hs fun wx hx _ => ?_
      exact here_yes B s.p g h s.L s.B (downT s.L s.p.w s.p.y s.p.bottom n) s.B n 100 wx hx k.on (fun e => hq (.inl e)) (fun e => hq (.inr e)) enter76 fun wy hb => downO_any s.p _ _ _ _ _ _ s.L s.B s.p.y s.p.bottom n wy ((hx.below hb (Nat.le_refl _)).weak (Nat.zero_le _)).scr l0 l1 k.ok.bn k.rows k.ok.back
  rw [if_neg h3]
  by_cases h4 : r = 77
  · subst h4
    rw [if_pos rfl]
    by_cases hq : s.p.y < s.p.top ∨ s.p.bottom < s.p.y
    · rw [if_pos hq]
      exact rew_M B s.p s.p g h s.L s.B _ _ n part w hs fun wx hx _ => into hx (here_no s.p _ _ _ _ _ _ n 96 wx hq)
    · rw [if_neg hq]
      refine rew_M B s.p _ g h s.L s.B _ _ n part w hs fun wx hx _ => ?_
      exact here_yes B s.p g h s.L s.B (upT s.L s.p.w s.p.y s.p.bottom n) (upTB s.L s.B s.p.y s.p.bottom n) n 96 wx hx k.on (fun e => hq (.inl e)) (fun e => hq (.inr e)) enter72 fun wy hb => upO_any s.p _ _ _ _ _ _ s.L s.B s.p.y s.p.bottom n wy ((hx.below hb (Nat.le_refl _)).weak (Nat.zero_le _)).scr l0 l1 k.ok.bn k.rows k.ok.back
  rw [if_neg h4]
  by_cases h5 : r = 64
  · subst h5
    have := rew_at B s.p g h s.L s.B n part y w hs x0 x1 e1 hy e5 n0 n1
    simp only [if_true, rowS, e2, e3]
    exact this
  rw [if_neg h5]
  by_cases h6 : r = 80
  · subst h6
    have := rew_P B s.p g h s.L s.B n part y w hs x0 x1 e1 hy e5 n0 n1
    simp only [if_true, rowS, e2, e3]
    exact this
  rw [if_neg h6]
  by_cases h7 : r = 88
  · subst h7
    have := rew_X B s.p g h s.L s.B n part y w hs x0 x1 e1 hy e5 n0 n1
    simp only [if_true, rowS, e2, e3]
    exact this
  rw [if_neg h7]
  by_cases h8 : r = 83
  · subst h8
    exact rew_S B s.p g h s.L s.B n part w hs l0 l1 k.ok.bn k.rows k.ok.back
  rw [if_neg h8]
  by_cases h9 : r = 84
  · subst h9
    exact rew_T B s.p g h s.L s.B n part w hs l0 l1 k.ok.bn k.rows k.ok.back
  rw [if_neg h9]
  exact into hs (rew_no s.p _ _ _ _ _ _ r n part w ⟨h1, h2, h3, h4, h5, h6, h7, h8, h9⟩)
set_option maxHeartbeats 4000000 in
theorem csi_all {W H B : Nat} {s : WS} {g h : Nat} (r : Int) (PD : Option Addr) (pc : Nat) (xs : List Int) (w : World) (hs : OScr B w g h s.L s.B) (k : Wk W H s) (hr : ReadI w (.slice PD xs.length pc) xs) (hx : xs.length ≤ 1000000) :
    Calls Try.prog 30 #[ov s.p g h s.L s.B, .int .i32 r, .slice PD xs.length pc] w (InPost B g w (csiF s r xs).p (csiF s r xs).L (csiF s r xs).B) := by
  unfold csiF
  by_cases h65 : r = 65
  · subst h65
    exact into hs (seq_A s.p _ _ PD _ _ _ _ pc xs w hr k.on)
  rw [if_neg h65]
  by_cases h66 : r = 66
  · subst h66
    exact into hs (seq_B s.p _ _ PD _ _ _ _ pc xs w hr k.on)
  rw [if_neg h66]
  by_cases h67 : r = 67
  · subst h67
    exact into hs (seq_C s.p _ _ PD _ _ _ _ pc xs w hr k.on)
  rw [if_neg h67]
  by_cases h68 : r = 68
  · subst h68
    exact into hs (seq_D s.p _ _ PD _ _ _ _ pc xs w hr k.on)
  rw [if_neg h68]
  by_cases h71 : r = 71
  · subst h71
    exact into hs (seq_G s.p _ _ PD _ _ _ _ pc xs w hr k.on)
  rw [if_neg h71]
  by_cases h100 : r = 100
  · subst h100
    exact into hs (seq_d s.p _ _ PD _ _ _ _ pc xs w hr k.on)
  rw [if_neg h100]
  by_cases h72 : r = 72 ∨ r = 102
  · rw [if_pos h72]
    rcases h72 with rfl | rfl
    · exact into hs (seq_H s.p _ _ PD _ _ _ _ pc xs w hr k.on)
    · exact into hs (seq_f s.p _ _ PD _ _ _ _ pc xs w hr k.on)
  rw [if_neg h72]
  by_cases h114 : r = 114
  · subst h114
    rw [if_pos rfl]
    by_cases htu : withinF (toldF xs 0 1 - 1) (s.p.h - 1) < withinF (toldF xs 1 s.p.h - 1) (s.p.h - 1)
    · rw [if_pos htu]
      exact into hs (seq_r s.p _ _ PD _ _ _ _ pc xs _ _ w hr k.on rfl rfl htu)
    · rw [if_neg htu]
      exact into hs (seq_r0 s.p _ _ PD _ _ _ _ pc xs _ _ w hr k.on rfl rfl htu)
  rw [if_neg h114]
  by_cases h109 : r = 109
  · subst h109
    exact into hs (seq_m s.p _ _ PD _ _ _ _ pc xs w hr hx)
  rw [if_neg h109]
  have tl := told_le (xs := xs) (i := 0) (o := 1) (by omega) (by omega)
  exact seq_rw B s.p _ g h s.L s.B _ _ r PD pc xs w hs hr ⟨h65, h66, h67, h68, h71, h100, fun e => h72 (.inl e), fun e => h72 (.inr e), h114, h109⟩ fun wx ho => rew_all r _ _ wx ho k (by omega) tl.2

set_option maxHeartbeats 4000000 in
theorem app_none (p : Nm) (D E PD : Option Addr) (n c m d pn pc : Nat) (L Bk : List (List C)) (kind r : Int) (w : World) (hs : Scr 0 w D E n c m d L Bk) (hn : n ≤ 1000) (hm : m ≤ 50) (hl : ∀ r ∈ L, r.length ≤ 1000) (hlb : ∀ r ∈ Bk, r.length ≤ 1000)
    (k1 : kind ≠ 1) (k2 : kind ≠ 2) (k3 : kind ≠ 3) (k4 : kind ≠ 4) (k5 : kind ≠ 5) :
    Calls Try.prog 14 #[gv p (.slice D n c) (.slice E m d), .agg #[.int .i64 kind, .int .i32 r, .slice PD pn pc]] w (GridPost w p L Bk) := by
  have HS := Lib.hid (AS.start w #[.int .i64 kind, .int .i32 r, .slice PD pn pc] p (.slice D n c) (.slice E m d))
  have HB := Lib.hid (start_below w (.cells (gcs p (.slice D n c) (.slice E m d)) 35) (.cells #[.int .i64 kind, .int .i32 r, .slice PD pn pc] 44) (.cells (gcs zeroNm nilV nilV) 35))
  have HO : Hid (∀ wx, Below w.heap.size w wx → Calls Try.prog 26 #[gv p (.slice D n c) (.slice E m d)] wx (OwnPost wx p L Bk)) := fun wx hb => aownS_any p D E n c m d L Bk wx (hs.below hb (Nat.le_refl _)) hn hm hl hlb
  clear hs hn hm hl hlb
  unfold gv gcs
  go_enter Try.func14, Try.ntmps14
  go_upto_region 1 with fail
  refine wp_world (fun wq => AS w #[.int .i64 kind, .int .i32 r, .slice PD pn pc] p (.slice D n c) (.slice E m d) wq ∧ Below w.heap.size w wq) ⟨HS.out, HB.out⟩ ?_
  clear HS HB
  rintro w2 ⟨ps, b2⟩
  have xg := ps.box
  have hz2 := ps.ans.lt
  go_upto_region 2 with (first
    | (with_reducible refine wpList_loadB xg (x := .tmp 2) ?_ ?_ ?_ ?_
       · with_reducible rfl
       · rfl
       · rfl)
    | (go_at_call 26
       refine (HO.out w2 b2).mono ?_
       rintro e w3 ⟨g, h, rfl, s3, b3⟩
       have p3 := ps.below b3
       have x3 := p3.box)
    | (with_reducible refine wpList_storeA x3 (x := .tmp 2) (y := .tmp 6) (p := p) (D := some ⟨g, 0, none⟩) (E := some ⟨h, 0, none⟩) (n := L.length) (c := L.length) (m := Bk.length) (d := Bk.length) ?_ ?_ ?_ ?_ ?_
       · with_reducible rfl
       · rfl
       · rfl
       · rfl))
  have hgl := s3.rows.low
  refine wp_world (fun wq => AS w #[.int .i64 kind, .int .i32 r, .slice PD pn pc] p (.slice (some ⟨g, 0, none⟩) L.length L.length) (.slice (some ⟨h, 0, none⟩) Bk.length Bk.length) wq ∧ OScr w2.heap.size wq g h L Bk ∧ Below w.heap.size w wq) ⟨p3.put p _ _, s3.bput x3 _, below_setRow (b2.trans (b3.mono b2.size)) (Nat.le_refl _) _⟩ ?_
  clear ps xg p3 s3 x3 b3 HO b2
  rintro w4 ⟨p4, s4, b4⟩
  have u0 := p4.act.cell 0
  have x4 := p4.box
  have a5 := p4.ans
  simp only [List.getElem?_toArray, List.getElem?_cons_zero] at u0
  go_wp2_with (first
    | (with_reducible refine wpList_loadB x4 (x := .tmp 2) ?_ ?_ ?_ ?_
       · with_reducible rfl
       · rfl
       · rfl)
    | (with_reducible refine wpList_storeA a5 (x := .tmp 4) (y := .tmp 43) (p := p) (D := some ⟨g, 0, none⟩) (E := some ⟨h, 0, none⟩) (n := L.length) (c := L.length) (m := Bk.length) (d := Bk.length) ?_ ?_ ?_ ?_ ?_
       · with_reducible rfl
       · rfl
       · rfl
       · rfl))
  refine bodyPost_ret (v := gv p (.slice (some ⟨g, 0, none⟩) L.length L.length) (.slice (some ⟨h, 0, none⟩) Bk.length Bk.length)) (results_cell_row (P := Try.prog) Try.results14 _ _ (w.heap.size + 2) 35 _ (0, 0) _ rfl (a5.setRow _ _ _) Try.underlying35 rfl box_size) rfl ?_
  exact ⟨_, _, _, _, _, _, rfl, ((s4.bput a5 _).weak (by omega)).scr, below_setRow b4 (by omega) _⟩

set_option maxHeartbeats 4000000 in
/-- Apply. -/
theorem act_all {W H : Nat} {s : WS} (kind r : Int) (PD D E : Option Addr) (pc n c m d : Nat) (xs : List Int) (w : World) (hs : Scr 0 w D E n c m d s.L s.B) (k : Wk W H s) (hr : ReadI w (.slice PD xs.length pc) xs) (hx : xs.length ≤ 1000000) :
    Calls Try.prog 14 #[gv s.p (.slice D n c) (.slice E m d), .agg #[.int .i64 kind, .int .i32 r, .slice PD xs.length pc]] w (GridPost w (actF s kind r xs).p (actF s kind r xs).L (actF s kind r xs).B) := by
  have hn : n ≤ 1000 := by have := hs.nr; have := k.ok.ln; have := k.H2; omega
  have hm : m ≤ 50 := by have := hs.nb; have := k.ok.bn; omega
  unfold actF
  by_cases h1 : kind = 1
  · subst h1
    exact app_print s.p _ D E PD n c m d _ pc s.L s.B _ _ r w hs hn hm k.rows k.ok.back fun B wx g h hb ho => wprint_any B s W H g h r wx ho k.W2 k.H2 k.ok k.wline.ok
  rw [if_neg h1]
  by_cases h2 : kind = 2
  · subst h2
    exact app_ctl s.p _ D E PD n c m d _ pc s.L s.B _ _ r w hs hn hm k.rows k.ok.back fun B wx g h hb ho => ctl_all r wx ho k
  rw [if_neg h2]
  by_cases h3 : kind = 3
  · subst h3
    exact app_esc s.p _ D E PD n c m d _ pc s.L s.B _ _ r w hs hn hm k.rows k.ok.back fun B wx g h hb ho => esc_all r wx ho k
  rw [if_neg h3]
  by_cases h4 : kind = 4
  · subst h4
    exact app_csi s.p _ D E PD n c m d _ pc s.L s.B _ _ r w hs hn hm k.rows k.ok.back fun B wx g h hb ho => csi_all r PD pc xs wx ho k (hr.below hb (Nat.le_refl _)) hx
  rw [if_neg h4]
  by_cases h5 : kind = 5
  · subst h5
    exact app_priv s.p _ D E PD n c m d _ pc s.L s.B _ _ r w hs hn hm k.rows k.ok.back fun B wx g h hb ho => into ho (switched_any s.p _ _ PD _ _ _ _ pc xs r wx (hr.below hb (Nat.le_refl _)) hx)
  rw [if_neg h5]
  exact app_none s.p D E PD n c m d _ pc s.L s.B kind r w hs hn hm k.rows k.ok.back h1 h2 h3 h4 h5
end Go.Proofs.Ytpcpmeihebgncaa
