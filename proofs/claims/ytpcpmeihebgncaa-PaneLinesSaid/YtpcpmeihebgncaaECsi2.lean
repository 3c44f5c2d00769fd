/-
  What csi of package esca does with a byte of a control sequence. Conditions: a byte is 0 to 255; a number is at most 65535, and there are at most a thousand.
-/
import Derived.Test.YtpcpmeihebgncaaEEsc
import Derived.Test.YtpcpmeihebgncaaECsi
namespace Go.Proofs.Ytpcpmeihebgncaa.Esca
open Go.RowKit
set_option maxRecDepth 100000

set_option maxHeartbeats 2000000 in
theorem csi_ctl (mo n m g num b : Int) (par : List Int) (pr sk : Bool) (p : Value) (B : Nat) (w : World) (hp : Ints w B p par) (hB : B ≤ w.heap.size) (h0 : 0 ≤ b) (h1 : b ≤ 31)
    (n1 : ¬ b = 27) (n2 : ¬ b = 24) (n3 : ¬ b = 26) :
    Calls Try.prog 83 #[escV ⟨mo, ⟨n, m, g⟩, par, num, pr, sk⟩ p, .int .u8 b] w (StepP B w ⟨mo, ⟨n, m, g⟩, par, num, pr, sk⟩ (ctl b)) := by
  unfold escV
  dsimp only at *
  obtain ⟨D, c, rfl⟩ := ints_form hp
  go_enter Try.func83, Try.ntmps83
  go_upto_region 7 with fail
  refine wp_world _ (box_new w _ _ _ _ _ _ _ _) ?_
  rintro wq ⟨hQ, hR, hbq⟩
  have hQd := hQ.drew
  have hRd := hR.drew
  have hzd1 := hQd.lt
  have hzd2 := hRd.lt
  go_region_held3 (fun w' => w'.cell? ⟨w.heap.size, 0, none⟩ = some (.int .i64 mo) ∧ w'.cell? ⟨w.heap.size, 1, none⟩ = some (.int .i64 n) ∧ w'.cell? ⟨w.heap.size, 2, none⟩ = some (.int .i64 m) ∧ w'.cell? ⟨w.heap.size, 3, none⟩ = some (.int .i64 g) ∧ w'.cell? ⟨w.heap.size, 4, none⟩ = some (.slice D par.length c) ∧ w'.cell? ⟨w.heap.size, 5, none⟩ = some (.int .i64 num) ∧ w'.cell? ⟨w.heap.size, 6, none⟩ = some (.bool pr) ∧ w'.cell? ⟨w.heap.size, 7, none⟩ = some (.bool sk))
    (first
      | with_reducible exact esc_S hQd
      | with_reducible exact esc_S hQ4
      | with_reducible exact esc_S (hQ4.far8 (by omega) _ _ _ _ _ _ _ _)
      | fail)
    ((go_at_call 121
      (with_reducible refine (control_any b wq.drew h0 (by omega)).mono ?_)
      rintro e w4 ⟨v4, rfl, ha4, hb4⟩
      have hQ4 := hQd.below hb4 hzd1
      have hR4 := hRd.below hb4 hzd2
      have hR4l := hR4.lt
      have hb5 : Below w.heap.size w w4 := hbq.drew.trans (hb4.mono hbq.size)
      obtain ⟨y0, y1, y2, y3, y4, y5, y6, y7, yf⟩ := esc_cells hR4))
  go_wp2
  refine bodyPost_ret (v := .tuple #[escV ⟨mo, ⟨n, m, g⟩, par, num, pr, sk⟩ (.slice D par.length c), v4]) (by simp [results, Try.results83, go_sem, escV, y0, y1, y2, y3, y4, y5, y6, y7]) rfl
    (stepP_keep hp hB ((Acts.setlo8 ha4 hzd2 _ _ _ _ _ _ _ _).base hbq.size) (below_set8 hb5 (Nat.le_succ _) _ _ _ _ _ _ _ _))

set_option maxHeartbeats 2000000 in
theorem csi_leave (mo n m g num b m' : Int) (par : List Int) (pr sk : Bool) (p : Value) (B : Nat) (w : World) (hp : Ints w B p par) (hB : B ≤ w.heap.size) (hb : (b = 27 ∧ m' = 1) ∨ ((b = 24 ∨ b = 26) ∧ m' = 0)) :
    Calls Try.prog 83 #[escV ⟨mo, ⟨n, m, g⟩, par, num, pr, sk⟩ p, .int .u8 b] w (StepP B w ⟨m', ⟨n, m, g⟩, [], 0, false, false⟩ []) := by
  unfold escV
  dsimp only at *
  obtain ⟨D, c, rfl⟩ := ints_form hp
  rcases hb with ⟨rfl, rfl⟩ | ⟨rfl | rfl, rfl⟩
  all_goals
    go_enter Try.func83, Try.ntmps83
    go_wp2_with (
      go_at_call 122
      refine (leave_any ⟨mo, ⟨n, m, g⟩, par, num, pr, sk⟩ _ _ B _ (Ints.alloc (Ints.alloc hp _) _)).mono ?_
      rintro e w2 ⟨rfl, hb2⟩
      unfold escV
      dsimp only
      obtain ⟨H1, H2⟩ := two_new hb2
      have hz1 := H1.lt
      have hz2 := H2.lt
      obtain ⟨y0, y1, y2, y3, y4, y5, y6, y7, yf⟩ := esc_cells H2)
    refine bodyPost_ret (v := .tuple #[escV ⟨_, ⟨n, m, g⟩, [], 0, false, false⟩ (.slice none 0 0), .slice none 0 0]) (by simp [results, Try.results83, go_sem, escV, y0, y1, y2, y3, y4, y5, y6, y7]) rfl (stepP_keep (ints_nil _ _) hB (acts_nil _ _) ?_)
    repeat (with_reducible refine below_set ?_ (by omega) _)
    exact (below_alloc2 w _ _).trans (hb2.mono (by simp; omega))

set_option maxHeartbeats 2000000 in
theorem csi_digit (mo n m g num b : Int) (par : List Int) (pr sk : Bool) (p : Value) (B : Nat) (w : World) (hp : Ints w B p par) (hB : B ≤ w.heap.size) (h0 : 48 ≤ b) (h1 : b ≤ 57) (hn : num ≤ 65535) :
    Calls Try.prog 83 #[escV ⟨mo, ⟨n, m, g⟩, par, num, pr, sk⟩ p, .int .u8 b] w (StepP B w ⟨mo, ⟨n, m, g⟩, par, wDigit num (b - 48), pr, sk⟩ []) := by
  unfold escV
  dsimp only at *
  obtain ⟨D, c, rfl⟩ := ints_form hp
  go_enter Try.func83, Try.ntmps83
  go_wp2_with (
    go_at_call 123
    refine (withDigit_any num (b - 48) _ (by omega) (by omega) hn).mono ?_
    rintro e w2 ⟨rfl, rfl⟩)
  refine bodyPost_ret (v := .tuple #[escV ⟨mo, ⟨n, m, g⟩, par, wDigit num (b - 48), pr, sk⟩ (.slice D par.length c), .slice none 0 0]) (by simp [results, Try.results83, go_sem, escV]) rfl (stepP_keep hp hB (acts_nil _ _) ?_)
  repeat (with_reducible refine below_set ?_ (by omega) _)
  exact below_alloc2 _ _ _

set_option maxHeartbeats 2000000 in
theorem csi_high (mo n m g num b : Int) (par : List Int) (pr sk : Bool) (p : Value) (B : Nat) (w : World) (hp : Ints w B p par) (hB : B ≤ w.heap.size) (h0 : 127 ≤ b) :
    Calls Try.prog 83 #[escV ⟨mo, ⟨n, m, g⟩, par, num, pr, sk⟩ p, .int .u8 b] w (StepP B w ⟨mo, ⟨n, m, g⟩, par, num, pr, sk⟩ []) := by
  unfold escV
  dsimp only at *
  obtain ⟨D, c, rfl⟩ := ints_form hp
  go_enter Try.func83, Try.ntmps83
  go_wp2
  refine bodyPost_ret (v := .tuple #[escV ⟨mo, ⟨n, m, g⟩, par, num, pr, sk⟩ (.slice D par.length c), .slice none 0 0]) (by simp [results, Try.results83, go_sem, escV]) rfl (stepP_keep hp hB (acts_nil _ _) ?_)
  repeat (with_reducible refine below_set ?_ (by omega) _)
  exact below_alloc2 _ _ _

set_option maxHeartbeats 2000000 in
theorem csi_skip (mo n m g num b : Int) (par : List Int) (pr sk : Bool) (p : Value) (B : Nat) (w : World) (hp : Ints w B p par) (hB : B ≤ w.heap.size) (h0 : 32 ≤ b) (h1 : b ≤ 62) (h2 : b < 48 ∨ 57 < b) (h3 : ¬ b = 59) :
    Calls Try.prog 83 #[escV ⟨mo, ⟨n, m, g⟩, par, num, pr, sk⟩ p, .int .u8 b] w (StepP B w ⟨mo, ⟨n, m, g⟩, par, num, pr, true⟩ []) := by
  unfold escV
  dsimp only at *
  obtain ⟨D, c, rfl⟩ := ints_form hp
  rcases h2 with h2 | h2
  all_goals
    go_enter Try.func83, Try.ntmps83
    go_wp2
    refine bodyPost_ret (v := .tuple #[escV ⟨mo, ⟨n, m, g⟩, par, num, pr, true⟩ (.slice D par.length c), .slice none 0 0]) (by simp [results, Try.results83, go_sem, escV]) rfl (stepP_keep hp hB (acts_nil _ _) ?_)
    repeat (with_reducible refine below_set ?_ (by omega) _)
    exact below_alloc2 _ _ _

set_option maxHeartbeats 2000000 in
theorem csi_63 (mo n m g num : Int) (par : List Int) (pr sk : Bool) (p : Value) (B : Nat) (w : World) (hp : Ints w B p par) (hB : B ≤ w.heap.size) :
    Calls Try.prog 83 #[escV ⟨mo, ⟨n, m, g⟩, par, num, pr, sk⟩ p, .int .u8 63] w (StepP B w ⟨mo, ⟨n, m, g⟩, par, num, pr || fresh ⟨mo, ⟨n, m, g⟩, par, num, pr, sk⟩, sk || !(fresh ⟨mo, ⟨n, m, g⟩, par, num, pr, sk⟩)⟩ []) := by
  unfold escV
  dsimp only at *
  obtain ⟨D, c, rfl⟩ := ints_form hp
  have hfr : ∃ f, f = fresh ⟨mo, ⟨n, m, g⟩, par, num, pr, sk⟩ := ⟨_, rfl⟩
  obtain ⟨f, hf⟩ := hfr
  rw [← hf]
  have HF := Lib.hid hf
  clear hf
  cases f
  all_goals
    simp only [Bool.or_false, Bool.or_true, Bool.not_false, Bool.not_true]
    go_enter Try.func83, Try.ntmps83
    go_wp2_with (
      go_at_call 125
      refine (isFresh_any ⟨mo, ⟨n, m, g⟩, par, num, pr, sk⟩ _ B _ (Ints.alloc (Ints.alloc hp _) _)).mono ?_
      rintro e w2 ⟨he, hb2⟩
      rw [← HF.out] at he
      subst he
      obtain ⟨H1, H2⟩ := two_new hb2
      have hz1 := H1.lt
      have hz2 := H2.lt
      obtain ⟨x0, x1, x2, x3, x4, x5, x6, x7, xf⟩ := esc_cells H1
      obtain ⟨y0, y1, y2, y3, y4, y5, y6, y7, yf⟩ := esc_cells H2)
    refine bodyPost_ret (v := .tuple #[escV ⟨mo, ⟨n, m, g⟩, par, num, _, _⟩ (.slice D par.length c), .slice none 0 0]) (by simp [results, Try.results83, go_sem, escV, y0, y1, y2, y3, y4, y5, y6, y7]) rfl (stepP_keep hp hB (acts_nil _ _) ?_)
    repeat (with_reducible refine below_set ?_ (by omega) _)
    exact (below_alloc2 w _ _).trans (hb2.mono (by simp; omega))

set_option maxHeartbeats 2000000 in
theorem csi_semi (mo n m g num : Int) (par : List Int) (pr sk : Bool) (p : Value) (B : Nat) (w : World) (hp : Ints w B p par) (hB : B ≤ w.heap.size) (hl : par.length ≤ 1000) :
    Calls Try.prog 83 #[escV ⟨mo, ⟨n, m, g⟩, par, num, pr, sk⟩ p, .int .u8 59] w (StepP B w ⟨mo, ⟨n, m, g⟩, wPar par num, -1, pr, sk⟩ []) := by
  unfold escV
  dsimp only at *
  obtain ⟨D, c, rfl⟩ := ints_form hp
  have hl1 := own_ge_ne hp (Nat.le_refl _)
  have hl2 := own_ge_ne hp (Nat.le_succ w.heap.size)
  go_enter Try.func83, Try.ntmps83
  go_wp2_with (
    go_at_call 124
    refine (withPar_any _ par num B _ (Ints.alloc (Ints.alloc hp _) _) hl (by simp; omega)).mono ?_
    rintro e w2 ⟨v2, rfl, hr2, hb2, hk2, hk3⟩
    obtain ⟨D2, c2, rfl⟩ := ints_form hr2
    have H1 : Held w2 w.heap.size 32 _ := (hk2 w.heap.size (by simp; omega) (Ne.symm hl1)).trans (box_new w _ _ _ _ _ _ _ _).box
    have H2 : Held w2 (w.heap.size + 1) 32 _ := (hk2 (w.heap.size + 1) (by simp) (Ne.symm hl2)).trans (box_new w _ _ _ _ _ _ _ _).ans
    have hz1 := H1.lt
    have hz2 := H2.lt
    obtain ⟨x0, x1, x2, x3, x4, x5, x6, x7, xf⟩ := esc_cells H1
    obtain ⟨y0, y1, y2, y3, y4, y5, y6, y7, yf⟩ := esc_cells H2)
  have hd1 : (Value.slice D2 (wPar par num).length c2).ownBlock ≠ some w.heap.size := fun he => by
    rcases hk3 _ he with h | h
    · exact hl1 h.symm
    · rw [World.size_alloc, World.size_alloc] at h; omega
  have hd2 : (Value.slice D2 (wPar par num).length c2).ownBlock ≠ some (w.heap.size + 1) := fun he => by
    rcases hk3 _ he with h | h
    · exact hl2 h.symm
    · rw [World.size_alloc, World.size_alloc] at h; omega
  refine bodyPost_ret (v := .tuple #[escV ⟨mo, ⟨n, m, g⟩, wPar par num, -1, pr, sk⟩ (.slice D2 (wPar par num).length c2), .slice none 0 0]) (by simp [results, Try.results83, go_sem, escV, y0, y1, y2, y3, y4, y5, y6, y7]) rfl ⟨_, _, rfl, ?_, acts_nil _ _, ?_⟩
  · exact (((((((((hr2.set hd1 _).set hd1 _).set hd2 _).set hd2 _).set hd2 _).set hd2 _).set hd2 _).set hd2 _).set hd2 _).set hd2 _
  · repeat (with_reducible refine below_set ?_ (by omega) _)
    exact ((below_alloc2 w _ _).mono hB).trans hb2

set_option maxHeartbeats 2000000 in
theorem csi_fin (mo n m g num b : Int) (par : List Int) (pr sk : Bool) (p : Value) (B : Nat) (w : World) (hp : Ints w B p par) (hB : B ≤ w.heap.size) (hl : par.length ≤ 1000) (h0 : 64 ≤ b) (h1 : b ≤ 126) :
    Calls Try.prog 83 #[escV ⟨mo, ⟨n, m, g⟩, par, num, pr, sk⟩ p, .int .u8 b] w (StepP B w ⟨0, ⟨n, m, g⟩, [], 0, false, false⟩ (fin ⟨mo, ⟨n, m, g⟩, par, num, pr, sk⟩ b)) := by
  unfold escV
  dsimp only at *
  obtain ⟨D, c, rfl⟩ := ints_form hp
  go_enter Try.func83, Try.ntmps83
  go_upto_region 18 with fail
  refine wp_world _ (box_new w _ _ _ _ _ _ _ _) ?_
  rintro wq ⟨hQ, hR, hbq⟩
  have hpq := hp.below hbq (Nat.le_refl _)
  have hpqd := hpq.drew
  have hQd := hQ.drew
  have hRd := hR.drew
  have hzd1 := hQd.lt
  have hzd2 := hRd.lt
  have hl1 := own_ge_ne hp (Nat.le_refl _)
  have hl2 := own_ge_ne hp (Nat.le_succ w.heap.size)
  go_region_held3 (fun w' => w'.cell? ⟨w.heap.size, 0, none⟩ = some (.int .i64 mo) ∧ w'.cell? ⟨w.heap.size, 1, none⟩ = some (.int .i64 n) ∧ w'.cell? ⟨w.heap.size, 2, none⟩ = some (.int .i64 m) ∧ w'.cell? ⟨w.heap.size, 3, none⟩ = some (.int .i64 g) ∧ w'.cell? ⟨w.heap.size, 4, none⟩ = some (.slice D par.length c) ∧ w'.cell? ⟨w.heap.size, 5, none⟩ = some (.int .i64 num) ∧ w'.cell? ⟨w.heap.size, 6, none⟩ = some (.bool pr) ∧ w'.cell? ⟨w.heap.size, 7, none⟩ = some (.bool sk))
    (first
      | with_reducible exact esc_S hQd
      | with_reducible exact esc_S hQ3
      | with_reducible exact esc_S hQ4
      | with_reducible exact esc_S (hQ4.far8 (by omega) _ _ _ _ _ _ _ _)
      | fail)
    (first
      | (go_at_call 122
         refine (leave_any ⟨mo, ⟨n, m, g⟩, par, num, pr, sk⟩ _ _ B wq.drew hpqd).mono ?_
         rintro e w3 ⟨rfl, hb3⟩
         unfold escV
         dsimp only
         have hQ3 := hQd.below hb3 hzd1
         have hR3 := hRd.below hb3 hzd2
         have hp3 := hpqd.below hb3 (Nat.le_refl _))
      | (go_at_call 126
         refine (final_any ⟨mo, ⟨n, m, g⟩, par, num, pr, sk⟩ b _ B w3 hp3 hl (by exact Nat.le_trans hB (Nat.le_trans hbq.size hb3.size)) (by omega) (by omega)).mono ?_
         rintro e w4 ⟨v4, rfl, ha4, hb4, hk4⟩
         have hQ4 : Held w4 w.heap.size 32 _ := (hk4 _ hQ3.lt (Ne.symm hl1)).1.trans hQ3
         have hR4 : Held w4 (w.heap.size + 1) 32 _ := (hk4 _ hR3.lt (Ne.symm hl2)).1.trans hR3
         have hz4 := hR4.lt
         have hoff := (hk4 _ hR3.lt (Ne.symm hl2)).2
         have hb5 : Below B w w4 := ((hbq.drew.mono hB).trans (hb3.mono (Nat.le_trans hB hbq.size))).trans hb4
         obtain ⟨y0, y1, y2, y3, y4, y5, y6, y7, yf⟩ := esc_cells hR4))
  go_wp2
  refine bodyPost_ret (v := .tuple #[escV ⟨0, ⟨n, m, g⟩, [], 0, false, false⟩ (.slice none 0 0), v4]) (by simp [results, Try.results83, go_sem, escV, y0, y1, y2, y3, y4, y5, y6, y7]) rfl ⟨_, _, rfl, ints_nil _ _, ?_, ?_⟩
  · exact ((((((((hoff.set 0 _).set 1 _).set 2 _).set 3 _).set 4 _).set 5 _).set 6 _).set 7 _).acts
  · exact below_set8 hb5 (by omega) _ _ _ _ _ _ _ _

/-- What csi answers. -/
def csiE (e : E) (b : Int) : E × List A :=
  if b = 27 then (⟨1, e.u, [], 0, false, false⟩, [])
  else if b = 24 ∨ b = 26 then (⟨0, e.u, [], 0, false, false⟩, [])
  else if b ≤ 31 then (e, ctl b)
  else if 48 ≤ b ∧ b ≤ 57 then (⟨e.mode, e.u, e.par, wDigit e.num (b - 48), e.priv, e.skip⟩, [])
  else if b = 59 then (⟨e.mode, e.u, wPar e.par e.num, -1, e.priv, e.skip⟩, [])
  else if b = 63 then (⟨e.mode, e.u, e.par, e.num, e.priv || fresh e, e.skip || !(fresh e)⟩, [])
  else if b ≤ 63 then (⟨e.mode, e.u, e.par, e.num, e.priv, true⟩, [])
  else if b ≤ 126 then (⟨0, e.u, [], 0, false, false⟩, fin e b)
  else (e, [])

theorem csi_any (e : E) (b : Int) (p : Value) (B : Nat) (w : World) (hp : Ints w B p e.par) (hB : B ≤ w.heap.size) (hb0 : 0 ≤ b) (hn : e.num ≤ 65535) (hl : e.par.length ≤ 1000) :
    Calls Try.prog 83 #[escV e p, .int .u8 b] w (StepP B w (csiE e b).1 (csiE e b).2) := by
  obtain ⟨mo, ⟨n, m, g⟩, par, num, pr, sk⟩ := e
  dsimp only at hp hn hl
  unfold csiE
  by_cases c1 : b = 27
  · rw [if_pos c1]
    exact csi_leave mo n m g num b 1 par pr sk p B w hp hB (.inl ⟨c1, rfl⟩)
  rw [if_neg c1]
  by_cases c2 : b = 24 ∨ b = 26
  · rw [if_pos c2]
    exact csi_leave mo n m g num b 0 par pr sk p B w hp hB (.inr ⟨c2, rfl⟩)
  rw [if_neg c2]
  by_cases c3 : b ≤ 31
  · rw [if_pos c3]
    exact csi_ctl mo n m g num b par pr sk p B w hp hB hb0 c3 c1 (by omega) (by omega)
  rw [if_neg c3]
  by_cases c4 : 48 ≤ b ∧ b ≤ 57
  · rw [if_pos c4]
    exact csi_digit mo n m g num b par pr sk p B w hp hB c4.1 c4.2 hn
  rw [if_neg c4]
  by_cases c5 : b = 59
  · subst c5
    exact csi_semi mo n m g num par pr sk p B w hp hB hl
  rw [if_neg c5]
  by_cases c6 : b = 63
  · subst c6
    exact csi_63 mo n m g num par pr sk p B w hp hB
  rw [if_neg c6]
  by_cases c7 : b ≤ 63
  · rw [if_pos c7]
    exact csi_skip mo n m g num b par pr sk p B w hp hB (by omega) (by omega) (by omega) c5
  rw [if_neg c7]
  by_cases c8 : b ≤ 126
  · rw [if_pos c8]
    exact csi_fin mo n m g num b par pr sk p B w hp hB hl (by omega) c8
  rw [if_neg c8]
  exact csi_high mo n m g num b par pr sk p B w hp hB (by omega)
end Go.Proofs.Ytpcpmeihebgncaa.Esca
