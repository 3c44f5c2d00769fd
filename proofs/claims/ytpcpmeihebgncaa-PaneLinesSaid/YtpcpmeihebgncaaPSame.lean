/-
  What Same of package pane answers, of equal panes and of panes whose modes differ. Conditions: at most a thousand rows and lines of at most a thousand cells, at most a thousand parameters.
-/
import Derived.Test.YtpcpmeihebgncaaPFun
import Derived.Test.YtpcpmeihebgncaaGSame
import Derived.Deep.RegionHeld3
import Derived.Deep.QuietTactic
import Derived.BigQuiet
namespace Go.Proofs.Ytpcpmeihebgncaa
open Go.RowKit
set_option maxRecDepth 100000

set_option maxHeartbeats 1000000 in
theorem equalInts_any (va vb : Value) (l : List Int) (B B' : Nat) (w : World) (ha : Esca.Ints w B va l) (hb : Esca.Ints w B' vb l) (hn : l.length ≤ 1000) :
    Calls Try.prog 129 #[va, vb] w (Quiet true w) := by
  obtain ⟨D, c, rfl, hA⟩ := ha.read
  obtain ⟨D', c', rfl, hB⟩ := hb.read
  have HA := Lib.hid hA
  have HB := Lib.hid hB
  clear hA hB ha hb
  go_enter Try.func129, Try.ntmps129
  go_wp2_with fail
  go_loopw [13] (QRel w l.length) (fun i _ => l.length - (intOf i).toNat)
  case atStart => exact ⟨0, rfl, Nat.zero_le _, 0, rfl⟩
  case round =>
    obtain ⟨k, rfl, hk, m, hm⟩ := hrel
    by_cases hlt : k < l.length
    · have hki : (k : Int) < (l.length : Int) := by omega
      obtain ⟨b1, z1, rfl, e1, c1⟩ := HA.out k hlt
      obtain ⟨b2, z2, rfl, e2, c2⟩ := HB.out k hlt
      rw [e1] at e2
      cases e2
      have d1 : wr.cell? ⟨b1, k, none⟩ = some (.int .i64 z1) := by rw [hm]; simpa using c1
      have d2 : wr.cell? ⟨b2, k, none⟩ = some (.int .i64 z1) := by rw [hm]; simpa using c2
      have HM := Lib.hid hm
      clear c1 c2 e1 hm
      go_wp2_with fail
      go_quiet (fail)
      go_wp2_with fail
      go_roundw
      case rel => exact ⟨k + 1, by go_num, by omega, _, by rw [HM.out, World.drewN_drewN]⟩
      case measure => simp [intOf]; omega
    · have hki : ¬ (k : Int) < (l.length : Int) := by omega
      have HM := Lib.hid hm
      clear hm
      go_wp2_with fail
      go_ret
      exact ⟨rfl, m, HM.out⟩

theorem quiet_below {w w' : World} (h : ∃ m, w' = w.drewN m) : Below w.heap.size w w' := by
  obtain ⟨m, rfl⟩ := h
  exact below_drewN (Below.refl _ _) m
set_option maxHeartbeats 1000000 in
theorem sameEscT_any (e : Esca.E) (p q : Value) (B B' : Nat) (w : World) (hp : Esca.Ints w B p e.par) (hq : Esca.Ints w B' q e.par) (hn : e.par.length ≤ 1000) :
    Calls Try.prog 93 #[Esca.escV e p, Esca.escV e q] w (BoolPost true w) := by
  have SI : Hid (∀ w, Esca.Ints w B p e.par → Esca.Ints w B' q e.par → Calls Try.prog 129 #[p, q] w (Quiet true w)) := fun w h1 h2 => equalInts_any p q e.par B B' w h1 h2 hn
  have hp2 : ∀ o o', Esca.Ints ((w.alloc o).alloc o') B p e.par := fun o o' => (hp.alloc o).alloc o'
  have hq2 : ∀ o o', Esca.Ints ((w.alloc o).alloc o') B' q e.par := fun o o' => (hq.alloc o).alloc o'
  obtain ⟨D, c, rfl⟩ := Esca.ints_form hp
  obtain ⟨D', c', rfl⟩ := Esca.ints_form hq
  unfold Esca.escV
  go_enter Try.func93, Try.ntmps93
  go_wp2_with (
    go_at_call 129
    go_loud (
    refine (SI.out _ (by exact hp2 _ _) (by exact hq2 _ _)).mono ?_
    rintro x w3 ⟨rfl, hw3⟩
    have hb3 := quiet_below hw3
    clear hw3))
  go_ret
  exact ⟨rfl, (Esca.below_alloc2 w _ _).trans (hb3.mono (by simp; omega))⟩
set_option maxHeartbeats 1000000 in
theorem sameEscF_any (e e' : Esca.E) (D D' : Option Addr) (n c n' c' : Nat) (w : World) (hne : ¬ e.mode = e'.mode) :
    Calls Try.prog 93 #[Esca.escV e (.slice D n c), Esca.escV e' (.slice D' n' c')] w (BoolPost false w) := by
  have g1 : (e.mode == e'.mode) = false := by simpa using hne
  unfold Esca.escV
  go_enter Try.func93, Try.ntmps93
  go_wp2_with fail
  go_ret
  exact ⟨rfl, Esca.below_alloc2 w _ _⟩

theorem two_panes (w : World) (e e2 : Esca.E) (P P2 : Value) (p p2 : Nm) (r b r2 b2 : Value) : PBox ((w.alloc (.cells (pcs e P p r b) 37)).alloc (.cells (pcs e2 P2 p2 r2 b2) 37)) w.heap.size e P p r b ∧ PBox ((w.alloc (.cells (pcs e P p r b) 37)).alloc (.cells (pcs e2 P2 p2 r2 b2) 37)) (w.heap.size + 1) e2 P2 p2 r2 b2 ∧ Below w.heap.size w ((w.alloc (.cells (pcs e P p r b) 37)).alloc (.cells (pcs e2 P2 p2 r2 b2) 37)) :=
  ⟨(PBox.new w e P p r b).alloc _, by have := PBox.new (w.alloc (.cells (pcs e P p r b) 37)) e2 P2 p2 r2 b2; simpa using this, ((Below.refl _ _).alloc (Nat.le_refl _) _).alloc (by simp) _⟩
set_option maxHeartbeats 4000000 in
theorem psameF_any (e e' : Esca.E) (p p' : Nm) (F D E F' D' E' : Option Addr) (f q n c m d f' q' n' c' m' d' : Nat) (w : World) (hne : ¬ e.mode = e'.mode) :
    Calls Try.prog 46 #[pv e (.slice F f q) p (.slice D n c) (.slice E m d), pv e' (.slice F' f' q') p' (.slice D' n' c') (.slice E' m' d')] w (BoolPost false w) := by
  have HF : Hid (∀ w, Calls Try.prog 93 #[Esca.escV e (.slice F f q), Esca.escV e' (.slice F' f' q')] w (BoolPost false w)) := fun w => sameEscF_any e e' F F' f q f' q' w hne
  have H2 := Lib.hid (two_panes w e e' (.slice F f q) (.slice F' f' q') p p' (.slice D n c) (.slice E m d) (.slice D' n' c') (.slice E' m' d'))
  clear hne
  unfold pv pcs
  go_enter Try.func46, Try.ntmps46
  go_upto_region 1 with fail
  refine wp_world (fun wq => PBox wq w.heap.size e (.slice F f q) p (.slice D n c) (.slice E m d) ∧ PBox wq (w.heap.size + 1) e' (.slice F' f' q') p' (.slice D' n' c') (.slice E' m' d') ∧ Below w.heap.size w wq) H2.out ?_
  clear H2
  rintro w2 ⟨x1, x2, b2⟩
  go_wp2_with (first
    | (with_reducible refine wpList_loadPE x1 (x := .tmp 5) ?_ ?_ ?_ ?_
       · with_reducible rfl
       · rfl
       · rfl)
    | (with_reducible refine wpList_loadPE x2 (x := .tmp 7) ?_ ?_ ?_ ?_
       · with_reducible rfl
       · rfl
       · rfl)
    | (go_at_call 93
       refine (HF.out _).mono ?_
       rintro x w3 ⟨rfl, b3⟩))
  go_ret
  exact ⟨rfl, b2.trans (b3.mono b2.size)⟩
set_option maxHeartbeats 4000000 in
theorem psameT_any (e : Esca.E) (p : Nm) (F D E F' D' E' : Option Addr) (f q n c m d f' q' c' d' B B' : Nat) (L Bk : List (List C)) (w : World) (hp : Esca.Ints w B (.slice F f q) e.par) (hp' : Esca.Ints w B' (.slice F' f' q') e.par) (he : e.par.length ≤ 1000) (h1 : Scr 0 w D E n c m d L Bk) (h2 : Scr 0 w D' E' n c' m d' L Bk) (hn : n ≤ 1000) (hm : m ≤ 1000) (hl : ∀ r ∈ L, r.length ≤ 1000) (hlb : ∀ r ∈ Bk, r.length ≤ 1000) :
    Calls Try.prog 46 #[pv e (.slice F f q) p (.slice D n c) (.slice E m d), pv e (.slice F' f' q') p (.slice D' n c') (.slice E' m d')] w (BoolPost true w) := by
  have HF : Hid (∀ wx, Below w.heap.size w wx → Calls Try.prog 93 #[Esca.escV e (.slice F f q), Esca.escV e (.slice F' f' q')] wx (BoolPost true wx)) := fun wx hb => sameEscT_any e _ _ B B' wx (hp.below hb (Nat.le_refl _)) (hp'.below hb (Nat.le_refl _)) he
  have HG : Hid (∀ wx, Below w.heap.size w wx → Calls Try.prog 94 #[gv p (.slice D n c) (.slice E m d), gv p (.slice D' n c') (.slice E' m d')] wx (BoolPost true wx)) := fun wx hb => same_true p D E D' E' n c m d c' d' L Bk wx (h1.below hb (Nat.le_refl _)) (h2.below hb (Nat.le_refl _)) hn hm hl hlb
  have H2 := Lib.hid (two_panes w e e (.slice F f q) (.slice F' f' q') p p (.slice D n c) (.slice E m d) (.slice D' n c') (.slice E' m d'))
  clear hp hp' he h1 h2 hn hm hl hlb
  unfold pv pcs
  go_enter Try.func46, Try.ntmps46
  go_upto_region 1 with fail
  refine wp_world (fun wq => PBox wq w.heap.size e (.slice F f q) p (.slice D n c) (.slice E m d) ∧ PBox wq (w.heap.size + 1) e (.slice F' f' q') p (.slice D' n c') (.slice E' m d') ∧ Below w.heap.size w wq) H2.out ?_
  clear H2
  rintro w2 ⟨x1, x2, b2⟩
  go_wp2_with (first
    | (with_reducible refine wpList_loadPE x1 (x := .tmp 5) ?_ ?_ ?_ ?_
       · with_reducible rfl
       · rfl
       · rfl)
    | (with_reducible refine wpList_loadPE x2 (x := .tmp 7) ?_ ?_ ?_ ?_
       · with_reducible rfl
       · rfl
       · rfl)
    | (go_at_call 93
       refine (HF.out _ b2).mono ?_
       rintro x w3 ⟨rfl, b3⟩
       have y1 := x1.below b3 x1.lt
       have y2 := x2.below b3 x2.lt
       have b03 := b2.trans (b3.mono b2.size))
    | (with_reducible refine wpList_loadPG y1 (x := .tmp 11) ?_ ?_ ?_ ?_
       · with_reducible rfl
       · rfl
       · rfl)
    | (with_reducible refine wpList_loadPG y2 (x := .tmp 13) ?_ ?_ ?_ ?_
       · with_reducible rfl
       · rfl
       · rfl)
    | (go_at_call 94
       refine (HG.out _ b03).mono ?_
       rintro x w4 ⟨rfl, b4⟩))
  go_ret
  exact ⟨rfl, b03.trans (b4.mono b03.size)⟩
end Go.Proofs.Ytpcpmeihebgncaa
