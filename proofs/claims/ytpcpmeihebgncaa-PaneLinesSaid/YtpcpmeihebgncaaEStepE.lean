/-
  Step of package esca, as one plain function of where it is and a byte. Conditions: a byte is 0 to 255; where it is is what steps from nothing make.
-/
import Derived.Test.YtpcpmeihebgncaaECsi2
namespace Go.Proofs.Ytpcpmeihebgncaa.Esca
open Go.RowKit
set_option maxRecDepth 100000

/-- What Step answers. -/
def nxE (e : E) (b : Int) : E × List A :=
  if e.mode = 0 then (⟨if b = 27 then 1 else e.mode, nx e.u b, e.par, e.num, e.priv, e.skip⟩, prints (nxR e.u b) ++ ctl b)
  else if e.mode = 1 then escE e b
  else if e.mode = 2 then csiE e b
  else if e.mode = 3 then (⟨inStr b, e.u, e.par, e.num, e.priv, e.skip⟩, [])
  else if e.mode = 5 then (⟨inEn b, e.u, e.par, e.num, e.priv, e.skip⟩, [])
  else if e.mode = 4 then (⟨inSk b, e.u, e.par, e.num, e.priv, e.skip⟩, [])
  else (e, [])

set_option maxHeartbeats 2000000 in
theorem step_call (e : E) (b : Int) (f : Nat) (hf : (f = 81 ∧ e.mode = 0) ∨ (f = 82 ∧ e.mode = 1) ∨ (f = 83 ∧ e.mode = 2)) (e' : E) (l : List A) (p : Value) (B : Nat) (w : World) (hp : Ints w B p e.par) (hl : e.par.length ≤ 1000)
    (h : ∀ (q : Value) (C : Nat) (w : World), Ints w C q e.par → C ≤ w.heap.size → Calls Try.prog f #[escV e q, .int .u8 b] w (StepP C w e' l)) :
    Calls Try.prog 41 #[escV e p, .int .u8 b] w (StepP w.heap.size w e' l) := by
  have HH := Lib.hid h
  clear h
  obtain ⟨mo, ⟨n, m, g⟩, par, num, pr, sk⟩ := e
  dsimp only at hf hp hl
  have hp2 : ∀ o o', Ints ((w.alloc o).alloc o') B p par := fun o o' => (hp.alloc o).alloc o'
  obtain ⟨D, c, rfl⟩ := ints_form hp
  have HI : Hid (∀ w, Ints w B (.slice D par.length c) par → Calls Try.prog 80 #[escV ⟨mo, ⟨n, m, g⟩, par, num, pr, sk⟩ (.slice D par.length c)] w (EscPost w.heap.size w ⟨mo, ⟨n, m, g⟩, par, num, pr, sk⟩)) := fun w hp => own_any ⟨mo, ⟨n, m, g⟩, par, num, pr, sk⟩ (.slice D par.length c) B w hp hl
  unfold escV
  dsimp only
  rcases hf with ⟨rfl, rfl⟩ | ⟨rfl, rfl⟩ | ⟨rfl, rfl⟩
  all_goals
    go_enter Try.func41, Try.ntmps41
    go_wp2_with (first
      | (go_at_call 80
         refine (HI.out _ (by exact hp2 _ _)).mono ?_
         rintro x w2 ⟨p2, rfl, hr2, hb2⟩
         unfold escV
         dsimp only at hr2 ⊢
         obtain ⟨D2, c2, rfl⟩ := ints_form hr2
         obtain ⟨H1, H2⟩ := two_new hb2
         have hz1 := H1.lt
         have hz2 := H2.lt
         have hr2' : Ints w2 (w.heap.size + 2) (.slice D2 par.length c2) par := hr2.base (by simp)
         have hb2' : Below w.heap.size w w2 := (below_alloc2 w _ _).trans (hb2.mono (by simp; omega))
         obtain ⟨x0, x1, x2, x3, x4, x5, x6, x7, xf⟩ := esc_cells H1
         obtain ⟨y0, y1, y2, y3, y4, y5, y6, y7, yf⟩ := esc_cells H2)
      | (first | go_at_call 81 | go_at_call 82 | go_at_call 83
         refine (HH.out (.slice D2 par.length c2) (w.heap.size + 2) _ (by exact Ints.setlo8 hr2' (by omega) _ _ _ _ _ _ _ _) (by simp; omega)).mono ?_
         rintro x w3 ⟨p3, v3, rfl, hr3, ha3, hb3⟩
         unfold escV
         dsimp only
         obtain ⟨D3, c3, rfl⟩ := ints_form hr3
         have H3 : Held w3 (w.heap.size + 1) 32 _ := Held.below (Held.far8 H2 (by omega) _ _ _ _ _ _ _ _) hb3 (by omega)
         have hz3 := H3.lt
         have hb3' : Below w.heap.size w w3 := (below_set8 hb2' (Nat.le_refl _) _ _ _ _ _ _ _ _).trans (hb3.mono (by omega))
         obtain ⟨z0, z1, z2, z3, z4, z5, z6, z7, zf⟩ := esc_cells H3))
    refine bodyPost_ret (v := .tuple #[escV e' (.slice D3 e'.par.length c3), v3]) (by simp [results, Try.results41, go_sem, escV, z0, z1, z2, z3, z4, z5, z6, z7]) rfl ⟨_, _, rfl, ?_, ?_, ?_⟩
    · exact (Ints.setlo8 hr3 (by omega) _ _ _ _ _ _ _ _).base (by omega)
    · exact (Acts.setlo8 ha3 (by omega) _ _ _ _ _ _ _ _).base (by omega)
    · exact below_set8 hb3' (by omega) _ _ _ _ _ _ _ _

set_option maxHeartbeats 2000000 in
theorem step_set (n m g num b m' mo : Int) (par : List Int) (pr sk : Bool) (hm : (mo = 3 ∧ m' = inStr b) ∨ (mo = 5 ∧ m' = inEn b) ∨ (mo = 4 ∧ m' = inSk b)) (p : Value) (B : Nat) (w : World) (hp : Ints w B p par) (hl : par.length ≤ 1000) :
    Calls Try.prog 41 #[escV ⟨mo, ⟨n, m, g⟩, par, num, pr, sk⟩ p, .int .u8 b] w (StepP w.heap.size w ⟨m', ⟨n, m, g⟩, par, num, pr, sk⟩ []) := by
  have hp2 : ∀ o o', Ints ((w.alloc o).alloc o') B p par := fun o o' => (hp.alloc o).alloc o'
  obtain ⟨D, c, rfl⟩ := ints_form hp
  have HI : Hid (∀ w, Ints w B (.slice D par.length c) par → Calls Try.prog 80 #[escV ⟨mo, ⟨n, m, g⟩, par, num, pr, sk⟩ (.slice D par.length c)] w (EscPost w.heap.size w ⟨mo, ⟨n, m, g⟩, par, num, pr, sk⟩)) := fun w hp => own_any ⟨mo, ⟨n, m, g⟩, par, num, pr, sk⟩ (.slice D par.length c) B w hp hl
  unfold escV
  dsimp only
  rcases hm with ⟨rfl, hm'⟩ | ⟨rfl, hm'⟩ | ⟨rfl, hm'⟩
  all_goals
    have HM := Lib.hid hm'
    clear hm'
    go_enter Try.func41, Try.ntmps41
    go_wp2_with (first
      | (go_at_call 80
         refine (HI.out _ (by exact hp2 _ _)).mono ?_
         rintro x w2 ⟨p2, rfl, hr2, hb2⟩
         unfold escV
         dsimp only at hr2 ⊢
         obtain ⟨D2, c2, rfl⟩ := ints_form hr2
         obtain ⟨H1, H2⟩ := two_new hb2
         have hz1 := H1.lt
         have hz2 := H2.lt
         have hr2' : Ints w2 (w.heap.size + 2) (.slice D2 par.length c2) par := hr2.base (by simp)
         have hb2' : Below w.heap.size w w2 := (below_alloc2 w _ _).trans (hb2.mono (by simp; omega))
         obtain ⟨x0, x1, x2, x3, x4, x5, x6, x7, xf⟩ := esc_cells H1
         obtain ⟨y0, y1, y2, y3, y4, y5, y6, y7, yf⟩ := esc_cells H2)
      | (go_at_call 84; refine (inString_any b _).mono ?_; rintro x w3 ⟨he, rfl⟩; rw [← HM.out] at he; subst he)
      | (go_at_call 85; refine (inEnd_any b _).mono ?_; rintro x w3 ⟨he, rfl⟩; rw [← HM.out] at he; subst he)
      | (go_at_call 86; refine (inSkip_any b _).mono ?_; rintro x w3 ⟨he, rfl⟩; rw [← HM.out] at he; subst he))
    refine bodyPost_ret (v := .tuple #[escV ⟨m', ⟨n, m, g⟩, par, num, pr, sk⟩ (.slice D2 par.length c2), .slice none 0 0]) (by simp [results, Try.results41, go_sem, escV, y0, y1, y2, y3, y4, y5, y6, y7]) rfl ⟨_, _, rfl, ?_, acts_nil _ _, ?_⟩
    · refine Ints.base (B := w.heap.size + 2) ?_ (by omega)
      repeat (with_reducible refine Ints.setlo ?_ (by omega) _)
      exact hr2'
    · repeat (with_reducible refine below_set ?_ (by omega) _)
      exact hb2'

/-- What steps from nothing make. -/
structure E.Ok (e : E) : Prop where
  u : e.u.Ok
  mode0 : 0 ≤ e.mode
  mode5 : e.mode ≤ 5
  num : e.num ≤ 65535
  par : e.par.length ≤ 16
def E.zero : E := ⟨0, U.zero, [], 0, false, false⟩
theorem E.zero_ok : E.zero.Ok := ⟨U.zero_ok, by decide, by decide, by decide, by decide⟩

theorem wPar_len (par : List Int) (n : Int) (h : par.length ≤ 16) : (wPar par n).length ≤ 16 := by
  unfold wPar
  split
  · exact h
  · simp; omega
theorem inStr_ok (b : Int) : 0 ≤ inStr b ∧ inStr b ≤ 5 := by unfold inStr; repeat' split
                                                             all_goals omega
theorem inEn_ok (b : Int) : 0 ≤ inEn b ∧ inEn b ≤ 5 := by unfold inEn; repeat' split
                                                          all_goals omega
theorem inSk_ok (b : Int) : 0 ≤ inSk b ∧ inSk b ≤ 5 := by unfold inSk; repeat' split
                                                          all_goals omega
theorem wDigit_le (n d : Int) (h1 : d ≤ 9) : wDigit n d ≤ 65535 := by unfold wDigit; split <;> omega

theorem nxE_ok (e : E) (b : Int) (he : e.Ok) : (nxE e b).1.Ok := by
  obtain ⟨h1, h2, h3, h4, h5⟩ := he
  unfold nxE
  repeat' split
  · exact ⟨nx_ok _ _ h1, by dsimp only; omega, by dsimp only; omega, h4, h5⟩
  · exact ⟨nx_ok _ _ h1, h2, h3, h4, h5⟩
  · unfold escE
    repeat' split
    all_goals first | exact ⟨h1, by dsimp only; omega, by dsimp only; omega, by dsimp only; omega, by dsimp only; simp⟩ | exact ⟨h1, by dsimp only; omega, by dsimp only; omega, h4, h5⟩ | exact ⟨h1, h2, h3, h4, h5⟩
  · unfold csiE
    repeat' split
    all_goals first | exact ⟨h1, by dsimp only; omega, by dsimp only; omega, by dsimp only; omega, by dsimp only; simp⟩ | exact ⟨h1, h2, h3, h4, h5⟩ | exact ⟨h1, h2, h3, wDigit_le _ _ (by omega), h5⟩ | exact ⟨h1, h2, h3, by dsimp only; omega, wPar_len _ _ h5⟩
  · exact ⟨h1, (inStr_ok b).1, (inStr_ok b).2, h4, h5⟩
  · exact ⟨h1, (inEn_ok b).1, (inEn_ok b).2, h4, h5⟩
  · exact ⟨h1, (inSk_ok b).1, (inSk_ok b).2, h4, h5⟩
  · exact ⟨h1, h2, h3, h4, h5⟩
theorem nxE_len (e : E) (b : Int) : (nxE e b).2.length ≤ 3 := by
  have h1 := prints_len (nxR e.u b)
  have h2 := nxR_len e.u b
  have h3 := ctl_len b
  have h4 : (fin e b).length ≤ 1 := by unfold fin; split <;> simp
  unfold nxE
  repeat' split
  · simp only [List.length_append]; omega
  · simp only [List.length_append]; omega
  · unfold escE
    repeat' split
    all_goals first | exact Nat.zero_le _ | exact Nat.le_trans h3 (by decide) | (simp; done)
  · unfold csiE
    repeat' split
    all_goals first | exact Nat.zero_le _ | exact Nat.le_trans h3 (by decide) | exact Nat.le_trans h4 (by decide)
  all_goals exact Nat.zero_le _

theorem stepE_any (e : E) (b : Int) (p : Value) (B : Nat) (w : World) (hp : Ints w B p e.par) (he : e.Ok) (hb0 : 0 ≤ b) (hb1 : b ≤ 255) :
    Calls Try.prog 41 #[escV e p, .int .u8 b] w (StepP w.heap.size w (nxE e b).1 (nxE e b).2) := by
  obtain ⟨h1, h2, h3, h4, h5⟩ := he
  have hl : e.par.length ≤ 1000 := by omega
  unfold nxE
  by_cases c0 : e.mode = 0
  · rw [if_pos c0]
    exact step_call e b 81 (.inl ⟨rfl, c0⟩) _ _ p B w hp hl fun q C w hq hC => ground_any e b q C w hq h1 hC hb0 hb1
  rw [if_neg c0]
  by_cases c1 : e.mode = 1
  · rw [if_pos c1]
    exact step_call e b 82 (.inr (.inl ⟨rfl, c1⟩)) _ _ p B w hp hl fun q C w hq hC => escape_any e b q C w hq hC hb0
  rw [if_neg c1]
  by_cases c2 : e.mode = 2
  · rw [if_pos c2]
    exact step_call e b 83 (.inr (.inr ⟨rfl, c2⟩)) _ _ p B w hp hl fun q C w hq hC => csi_any e b q C w hq hC hb0 h4 hl
  rw [if_neg c2]
  obtain ⟨mo, ⟨n, m, g⟩, par, num, pr, sk⟩ := e
  dsimp only at *
  by_cases c3 : mo = 3
  · rw [if_pos c3]
    exact step_set n m g num b _ mo par pr sk (.inl ⟨c3, rfl⟩) p B w hp hl
  rw [if_neg c3]
  by_cases c4 : mo = 5
  · rw [if_pos c4]
    exact step_set n m g num b _ mo par pr sk (.inr (.inl ⟨c4, rfl⟩)) p B w hp hl
  rw [if_neg c4]
  rw [if_pos (by omega)]
  exact step_set n m g num b _ mo par pr sk (.inr (.inr ⟨by omega, rfl⟩)) p B w hp hl
end Go.Proofs.Ytpcpmeihebgncaa.Esca
