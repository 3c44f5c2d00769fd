/-
  What escape of package esca does with the byte behind an escape. Conditions: a byte is 0 to 255.
-/
import Derived.Test.YtpcpmeihebgncaaEGr2
namespace Go.Proofs.Ytpcpmeihebgncaa.Esca
open Go.RowKit
set_option maxRecDepth 100000

theorem stepP_keep {w w' : World} {B : Nat} {p v : Value} {e' : E} {l : List A} (hp : Ints w B p e'.par) (hB : B ≤ w.heap.size) (ha : Acts w' w.heap.size v l) (hb : Below w.heap.size w w') : StepP B w e' l (.returned (.tuple #[escV e' p, v])) w' :=
  ⟨p, v, rfl, hp.below hb (Nat.le_refl _), ha.base hB, hb.mono hB⟩

set_option maxHeartbeats 1000000 in
theorem escape_91 (mo n m g num : Int) (par : List Int) (pr sk : Bool) (p : Value) (B : Nat) (w : World) (hp : Ints w B p par) (hB : B ≤ w.heap.size) :
    Calls Try.prog 82 #[escV ⟨mo, ⟨n, m, g⟩, par, num, pr, sk⟩ p, .int .u8 91] w (StepP B w ⟨2, ⟨n, m, g⟩, [], -1, false, false⟩ []) := by
  unfold escV
  dsimp only at *
  obtain ⟨D, c, rfl⟩ := ints_form hp
  go_enter Try.func82, Try.ntmps82
  go_wp2
  refine bodyPost_ret (v := .tuple #[escV ⟨2, ⟨n, m, g⟩, [], -1, false, false⟩ (.slice none 0 0), .slice none 0 0]) (by simp [results, Try.results82, go_sem, escV]) rfl (stepP_keep (ints_nil _ _) hB (acts_nil _ _) ?_)
  repeat (with_reducible refine below_set ?_ (by omega) _)
  exact below_alloc2 _ _ _

set_option maxHeartbeats 2000000 in
theorem escape_set (mo n m g num b m' : Int) (par : List Int) (pr sk : Bool) (p : Value) (B : Nat) (w : World) (hp : Ints w B p par) (hB : B ≤ w.heap.size)
    (hb : ((b = 93 ∨ b = 80 ∨ b = 88 ∨ b = 94 ∨ b = 95) ∧ m' = 3) ∨ (b = 27 ∧ m' = 1) ∨ ((b = 24 ∨ b = 26) ∧ m' = 0)) :
    Calls Try.prog 82 #[escV ⟨mo, ⟨n, m, g⟩, par, num, pr, sk⟩ p, .int .u8 b] w (StepP B w ⟨m', ⟨n, m, g⟩, par, num, pr, sk⟩ []) := by
  unfold escV
  dsimp only at *
  obtain ⟨D, c, rfl⟩ := ints_form hp
  rcases hb with ⟨rfl | rfl | rfl | rfl | rfl, rfl⟩ | ⟨rfl, rfl⟩ | ⟨rfl | rfl, rfl⟩
  all_goals
    go_enter Try.func82, Try.ntmps82
    go_wp2
    refine bodyPost_ret (v := .tuple #[escV ⟨_, ⟨n, m, g⟩, par, num, pr, sk⟩ (.slice D par.length c), .slice none 0 0]) (by simp [results, Try.results82, go_sem, escV]) rfl (stepP_keep hp hB (acts_nil _ _) ?_)
    repeat (with_reducible refine below_set ?_ (by omega) _)
    exact below_alloc2 _ _ _

set_option maxHeartbeats 2000000 in
theorem escape_mid (mo n m g num b : Int) (par : List Int) (pr sk : Bool) (p : Value) (B : Nat) (w : World) (hp : Ints w B p par) (hB : B ≤ w.heap.size) (h0 : 32 ≤ b) (h1 : b ≤ 47) :
    Calls Try.prog 82 #[escV ⟨mo, ⟨n, m, g⟩, par, num, pr, sk⟩ p, .int .u8 b] w (StepP B w ⟨4, ⟨n, m, g⟩, par, num, pr, sk⟩ []) := by
  unfold escV
  dsimp only at *
  obtain ⟨D, c, rfl⟩ := ints_form hp
  go_enter Try.func82, Try.ntmps82
  go_wp2
  refine bodyPost_ret (v := .tuple #[escV ⟨_, ⟨n, m, g⟩, par, num, pr, sk⟩ (.slice D par.length c), .slice none 0 0]) (by simp [results, Try.results82, go_sem, escV]) rfl (stepP_keep hp hB (acts_nil _ _) ?_)
  repeat (with_reducible refine below_set ?_ (by omega) _)
  exact below_alloc2 _ _ _

set_option maxHeartbeats 2000000 in
theorem escape_high (mo n m g num b : Int) (par : List Int) (pr sk : Bool) (p : Value) (B : Nat) (w : World) (hp : Ints w B p par) (hB : B ≤ w.heap.size) (h0 : 127 ≤ b) :
    Calls Try.prog 82 #[escV ⟨mo, ⟨n, m, g⟩, par, num, pr, sk⟩ p, .int .u8 b] w (StepP B w ⟨0, ⟨n, m, g⟩, par, num, pr, sk⟩ []) := by
  unfold escV
  dsimp only at *
  obtain ⟨D, c, rfl⟩ := ints_form hp
  go_enter Try.func82, Try.ntmps82
  go_wp2
  refine bodyPost_ret (v := .tuple #[escV ⟨_, ⟨n, m, g⟩, par, num, pr, sk⟩ (.slice D par.length c), .slice none 0 0]) (by simp [results, Try.results82, go_sem, escV]) rfl (stepP_keep hp hB (acts_nil _ _) ?_)
  repeat (with_reducible refine below_set ?_ (by omega) _)
  exact below_alloc2 _ _ _

theorem acts_one3 (w : World) (o o' : Obj) (k r : Int) : Acts (((w.alloc o).alloc o').alloc (.cells #[.int .i64 k, .int .i32 r, .slice none 0 0] 44)) w.heap.size (.slice (some ⟨w.heap.size + 1 + 1, 0, none⟩) 1 1) [⟨k, r, []⟩] := by
  have := acts_one ((w.alloc o).alloc o') w.heap.size k r (by rw [World.size_alloc, World.size_alloc]; omega)
  rwa [World.size_alloc, World.size_alloc] at this
set_option maxHeartbeats 2000000 in
theorem escape_act (mo n m g num b : Int) (par : List Int) (pr sk : Bool) (p : Value) (B : Nat) (w : World) (hp : Ints w B p par) (hB : B ≤ w.heap.size) (h0 : 48 ≤ b) (h1 : b ≤ 126)
    (n1 : ¬ b = 91) (n2 : ¬ b = 93) (n3 : ¬ b = 80) (n4 : ¬ b = 88) (n5 : ¬ b = 94) (n6 : ¬ b = 95) :
    Calls Try.prog 82 #[escV ⟨mo, ⟨n, m, g⟩, par, num, pr, sk⟩ p, .int .u8 b] w (StepP B w ⟨0, ⟨n, m, g⟩, par, num, pr, sk⟩ [⟨3, b, []⟩]) := by
  unfold escV
  dsimp only at *
  obtain ⟨D, c, rfl⟩ := ints_form hp
  go_enter Try.func82, Try.ntmps82
  go_wp2
  refine bodyPost_ret (v := .tuple #[escV ⟨_, ⟨n, m, g⟩, par, num, pr, sk⟩ (.slice D par.length c), .slice (some ⟨w.heap.size + 1 + 1, 0, none⟩) 1 1]) (by simp [results, Try.results82, go_sem, escV]) rfl (stepP_keep hp hB (acts_one3 _ _ _ _ _) (below_alloc3 _ _ _ _))

/-- s lies in block w.heap.size, the answer's place behind it. -/
structure BoxAt (w : World) (a0 a1 a2 a3 a4 a5 a6 a7 : Value) (wq : World) : Prop where
  box : Held wq w.heap.size 32 #[a0, a1, a2, a3, a4, a5, a6, a7]
  ans : Held wq (w.heap.size + 1) 32 #[.int .i64 0, .int .i64 0, .int .i64 0, .int .i64 0, .slice none 0 0, .int .i64 0, .bool false, .bool false]
  below : Below w.heap.size w wq
theorem box_new (w : World) (a0 a1 a2 a3 a4 a5 a6 a7 : Value) : BoxAt w a0 a1 a2 a3 a4 a5 a6 a7 ((w.alloc (.cells #[a0, a1, a2, a3, a4, a5, a6, a7] 32)).alloc (.cells #[.int .i64 0, .int .i64 0, .int .i64 0, .int .i64 0, .slice none 0 0, .int .i64 0, .bool false, .bool false] 32)) :=
  ⟨Held.alloc (Held.new _ _ _) _, Held.new2 _ _ _ _, below_alloc2 _ _ _⟩

set_option maxHeartbeats 2000000 in
theorem escape_ctl (mo n m g num b : Int) (par : List Int) (pr sk : Bool) (p : Value) (B : Nat) (w : World) (hp : Ints w B p par) (hB : B ≤ w.heap.size) (h0 : 0 ≤ b) (h1 : b ≤ 31)
    (n1 : ¬ b = 27) (n2 : ¬ b = 24) (n3 : ¬ b = 26) :
    Calls Try.prog 82 #[escV ⟨mo, ⟨n, m, g⟩, par, num, pr, sk⟩ p, .int .u8 b] w (StepP B w ⟨mo, ⟨n, m, g⟩, par, num, pr, sk⟩ (ctl b)) := by
  unfold escV
  dsimp only at *
  obtain ⟨D, c, rfl⟩ := ints_form hp
  go_enter Try.func82, Try.ntmps82
  go_upto_region 16 with fail
  refine wp_world _ (box_new w _ _ _ _ _ _ _ _) ?_
  rintro wq ⟨hQ, hR, hbq⟩
  have hQd := hQ.drew
  have hRd := hR.drew
  have hzd1 := hQd.lt
  have hzd2 := hRd.lt
  go_region_held3 (fun w' => w'.cell? ⟨w.heap.size, 0, none⟩ = some (.int .i64 mo) ∧ w'.cell? ⟨w.heap.size, 1, none⟩ = some (.int .i64 n) ∧ w'.cell? ⟨w.heap.size, 2, none⟩ = some (.int .i64 m) ∧ w'.cell? ⟨w.heap.size, 3, none⟩ = some (.int .i64 g) ∧ w'.cell? ⟨w.heap.size, 4, none⟩ = some (.slice D par.length c) ∧ w'.cell? ⟨w.heap.size, 5, none⟩ = some (.int .i64 num) ∧ w'.cell? ⟨w.heap.size, 6, none⟩ = some (.bool pr) ∧ w'.cell? ⟨w.heap.size, 7, none⟩ = some (.bool sk))
    (first
      | with_reducible exact esc_S hQd
      | with_reducible exact esc_S hQ4
      | with_reducible exact esc_S (hQ4.far8 (by omega) _ _ _ _ _ _ _ _)
      | fail)
    ((go_at_call 121
      (with_reducible refine (control_any b wq.drew h0 (by omega)).mono ?_)
      rintro e w4 ⟨v4, rfl, ha4, hb4⟩
      have hQ4 := hQd.below hb4 hzd1
      have hR4 := hRd.below hb4 hzd2
      have hR4l := hR4.lt
      have hb5 : Below w.heap.size w w4 := hbq.drew.trans (hb4.mono hbq.size)
      obtain ⟨y0, y1, y2, y3, y4, y5, y6, y7, yf⟩ := esc_cells hR4))
  go_wp2
  refine bodyPost_ret (v := .tuple #[escV ⟨mo, ⟨n, m, g⟩, par, num, pr, sk⟩ (.slice D par.length c), v4]) (by simp [results, Try.results82, go_sem, escV, y0, y1, y2, y3, y4, y5, y6, y7]) rfl
    (stepP_keep hp hB ((Acts.setlo8 ha4 hzd2 _ _ _ _ _ _ _ _).base hbq.size) (below_set8 hb5 (Nat.le_succ _) _ _ _ _ _ _ _ _))

/-- What escape answers. -/
def escE (e : E) (b : Int) : E × List A :=
  if b = 91 then (⟨2, e.u, [], -1, false, false⟩, [])
  else if b = 93 ∨ b = 80 ∨ b = 88 ∨ b = 94 ∨ b = 95 then (⟨3, e.u, e.par, e.num, e.priv, e.skip⟩, [])
  else if b = 27 then (⟨1, e.u, e.par, e.num, e.priv, e.skip⟩, [])
  else if b = 24 ∨ b = 26 then (⟨0, e.u, e.par, e.num, e.priv, e.skip⟩, [])
  else if b ≤ 31 then (e, ctl b)
  else if b ≤ 47 then (⟨4, e.u, e.par, e.num, e.priv, e.skip⟩, [])
  else if b ≤ 126 then (⟨0, e.u, e.par, e.num, e.priv, e.skip⟩, [⟨3, b, []⟩])
  else (⟨0, e.u, e.par, e.num, e.priv, e.skip⟩, [])

theorem escape_any (e : E) (b : Int) (p : Value) (B : Nat) (w : World) (hp : Ints w B p e.par) (hB : B ≤ w.heap.size) (hb0 : 0 ≤ b) :
    Calls Try.prog 82 #[escV e p, .int .u8 b] w (StepP B w (escE e b).1 (escE e b).2) := by
  obtain ⟨mo, ⟨n, m, g⟩, par, num, pr, sk⟩ := e
  dsimp only at hp
  unfold escE
  by_cases c1 : b = 91
  · subst c1
    exact escape_91 mo n m g num par pr sk p B w hp hB
  rw [if_neg c1]
  by_cases c2 : b = 93 ∨ b = 80 ∨ b = 88 ∨ b = 94 ∨ b = 95
  · rw [if_pos c2]
    exact escape_set mo n m g num b 3 par pr sk p B w hp hB (.inl ⟨c2, rfl⟩)
  rw [if_neg c2]
  by_cases c3 : b = 27
  · rw [if_pos c3]
    exact escape_set mo n m g num b 1 par pr sk p B w hp hB (.inr (.inl ⟨c3, rfl⟩))
  rw [if_neg c3]
  by_cases c4 : b = 24 ∨ b = 26
  · rw [if_pos c4]
    exact escape_set mo n m g num b 0 par pr sk p B w hp hB (.inr (.inr ⟨c4, rfl⟩))
  rw [if_neg c4]
  by_cases c5 : b ≤ 31
  · rw [if_pos c5]
    exact escape_ctl mo n m g num b par pr sk p B w hp hB hb0 c5 c3 (by omega) (by omega)
  rw [if_neg c5]
  by_cases c6 : b ≤ 47
  · rw [if_pos c6]
    exact escape_mid mo n m g num b par pr sk p B w hp hB (by omega) c6
  rw [if_neg c6]
  by_cases c7 : b ≤ 126
  · rw [if_pos c7]
    exact escape_act mo n m g num b par pr sk p B w hp hB (by omega) c7 c1 (by omega) (by omega) (by omega) (by omega) (by omega)
  rw [if_neg c7]
  exact escape_high mo n m g num b par pr sk p B w hp hB (by omega)
end Go.Proofs.Ytpcpmeihebgncaa.Esca
