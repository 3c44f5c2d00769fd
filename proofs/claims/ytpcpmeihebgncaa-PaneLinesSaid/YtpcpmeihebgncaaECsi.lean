/-
  What package esca does with a control sequence's bytes: its small functions. Conditions: a byte is 0 to 255; at most a thousand numbers.
-/
import Derived.Test.YtpcpmeihebgncaaELeaf
namespace Go.Proofs.Ytpcpmeihebgncaa.Esca
open Go.RowKit
set_option maxRecDepth 100000

def fresh (e : E) : Bool := decide (e.par = [] ∧ e.num = -1 ∧ e.priv = false)
def finPar (e : E) : List Int := if e.num ≠ -1 ∨ e.par ≠ [] then wPar e.par e.num else e.par
def fin (e : E) (b : Int) : List A := if e.skip then [] else [⟨if e.priv then 5 else 4, b, finPar e⟩]

theorem ints_one (w : World) (B : Nat) (n : Int) (hB : B ≤ w.heap.size) : Ints (w.alloc (.cells #[.int .i64 n] 3)) B (.slice (some ⟨w.heap.size, 0, none⟩) 1 1) [n] :=
  World.ownsRow_lit w #[.int .i64 n] 1 hB (by simp [maxLen]) rfl

/-- What withPar leaves: the numbers l, and all blocks as they were but for that of the old row. -/
def ParPost (B : Nat) (w : World) (row : Option Nat) (l : List Int) (e : Ending) (w' : World) : Prop := ∃ v, e = .returned v ∧ Ints w' B v l ∧ Below B w w' ∧ (∀ k, k < w.heap.size → some k ≠ row → w'.heap[k]? = w.heap[k]?) ∧ ∀ k, v.ownBlock = some k → some k = row ∨ w.heap.size ≤ k

set_option maxHeartbeats 400000 in
theorem withPar_any (p : Value) (par : List Int) (n : Int) (B : Nat) (w : World) (hp : Ints w B p par) (hl : par.length ≤ 1000) (hB : B ≤ w.heap.size) :
    Calls Try.prog 124 #[p, .int .i64 n] w (ParPost B w p.ownBlock (wPar par n)) := by
  by_cases c : 16 ≤ par.length
  · rw [show wPar par n = par by simp [wPar, c]]
    obtain ⟨D, cp, rfl⟩ := ints_form hp
    go_enter Try.func124, Try.ntmps124
    go_wp2
    go_ret
    exact ⟨_, rfl, hp, Below.refl _ _, fun _ _ _ => rfl, fun k hk => .inl hk.symm⟩
  · rw [show wPar par n = par ++ [n] by simp [wPar, c]]
    obtain ⟨D, cp, rfl⟩ := ints_form hp
    have hp' := Ints.alloc hp (.cells #[.int .i64 n] 3)
    have hu := ints_one w w.heap.size n (Nat.le_refl _)
    go_enter Try.func124, Try.ntmps124
    go_wp2_with (refine wpList_append_rows _ (by rfl) _ _ _ (by rfl) rowInt B w.heap.size par.length 1 (.slice D par.length cp) (.slice (some ⟨w.heap.size, 0, none⟩) 1 1) (i64s par) (i64s [n]) (by rfl) (by rfl) (by exact hp') (by exact hu) (i64s_one _) (by omega) (by simp; omega) ?_; intro v3 w3 hap)
    go_ret
    refine ⟨v3, rfl, ?_, ((Below.refl _ w).alloc hB _).trans (hap.below hp' (by simp; omega)), fun k hk hne => (hap.grown.block k (by simp; omega) hne).trans (Below.heap_alloc w _ k hk), fun k hk => ?_⟩
    · have := hap.own
      rw [i64s_app] at this
      unfold Ints
      rwa [List.length_append]
    · rcases hap.lies with hl2 | hl2
      · exact .inl (hk.symm.trans hl2)
      · rw [hl2] at hk
        simp only [World.size_alloc, Option.some.injEq] at hk
        exact .inr (by omega)

set_option maxHeartbeats 400000 in
theorem leave_any (e : E) (p : Value) (mode : Int) (B : Nat) (w : World) (hp : Ints w B p e.par) :
    Calls Try.prog 122 #[escV e p, .int .i64 mode] w fun x w' => x = .returned (escV ⟨mode, e.u, [], 0, false, false⟩ (.slice none 0 0)) ∧ Below w.heap.size w w' := by
  obtain ⟨mo, ⟨n, m, g⟩, par, num, pr, sk⟩ := e
  unfold escV
  dsimp only at *
  obtain ⟨D, c, rfl⟩ := ints_form hp
  go_enter Try.func122, Try.ntmps122
  go_wp2
  refine bodyPost_ret (v := escV ⟨mode, ⟨n, m, g⟩, [], 0, false, false⟩ (.slice none 0 0)) (by simp [results, Try.results122, go_sem, escV]) rfl ⟨rfl, ?_⟩
  repeat (with_reducible refine below_set ?_ (by omega) _)
  exact below_alloc2 _ _ _

set_option maxHeartbeats 400000 in
theorem isFresh_any (e : E) (p : Value) (B : Nat) (w : World) (hp : Ints w B p e.par) :
    Calls Try.prog 125 #[escV e p] w fun x w' => x = .returned (.bool (fresh e)) ∧ Below w.heap.size w w' := by
  obtain ⟨mo, ⟨n, m, g⟩, par, num, pr, sk⟩ := e
  have hf : fresh ⟨mo, ⟨n, m, g⟩, par, num, pr, sk⟩ = (decide (par.length = 0) && (decide (num = -1) && !pr)) := by
    cases par <;> cases pr <;> simp [fresh]
  rw [hf]
  unfold escV
  dsimp only at *
  obtain ⟨D, c, rfl⟩ := ints_form hp
  go_enter Try.func125, Try.ntmps125
  go_wp2
  all_goals go_ret
  all_goals (refine ⟨?_, (Below.refl _ _).alloc (Nat.le_refl _) _⟩)
  all_goals simp [*]

/-- A row of actions no part of which lies in block j. -/
def ActsOff (w : World) (B : Nat) (v : Value) (l : List A) (j : Nat) : Prop := ∃ ps : List (A × Value), ps.map (·.1) = l ∧ ActsOf w B v ps ∧ v.ownBlock ≠ some j ∧ ∀ x ∈ ps, x.2.ownBlock ≠ some j
theorem ActsOff.acts {w : World} {B : Nat} {v : Value} {l : List A} {j : Nat} (h : ActsOff w B v l j) : Acts w B v l := by
  obtain ⟨ps, h1, h2, _⟩ := h
  exact ⟨ps, h1, h2⟩
theorem ActsOff.set {w : World} {B : Nat} {v : Value} {l : List A} {j : Nat} (h : ActsOff w B v l j) (o : Nat) (u : Value) : ActsOff (w.setCell ⟨j, o, none⟩ u) B v l j := by
  obtain ⟨ps, h1, ⟨h2, h3⟩, h4, h5⟩ := h
  exact ⟨ps, h1, ⟨own_set h2 h4 u, fun x hx => ⟨(h3 x hx).1.set (h5 x hx) u, (h3 x hx).2⟩⟩, h4, h5⟩
theorem actsOff_onep {w : World} {B : Nat} {p : Value} {l : List Int} (k r : Int) (hp : Ints w B p l) (hB : B ≤ w.heap.size) {j : Nat} (hj : j < w.heap.size) (hne : p.ownBlock ≠ some j) : ActsOff (w.alloc (.cells #[.int .i64 k, .int .i32 r, p] 44)) B (.slice (some ⟨w.heap.size, 0, none⟩) 1 1) [⟨k, r, l⟩] j :=
  ⟨[(⟨k, r, l⟩, p)], rfl, ⟨World.ownsRow_lit w #[.int .i64 k, .int .i32 r, p] 1 hB (by simp [maxLen]) rfl, fun x hx => by
    simp only [List.mem_singleton] at hx
    subst hx
    exact ⟨hp.alloc _, .inr (own_ge_ne hp (Nat.le_refl _))⟩⟩, fun h => by simp only [Value.ownBlock, Option.some.injEq] at h; omega, fun x hx => by
    simp only [List.mem_singleton] at hx
    subst hx
    exact hne⟩
theorem actsOff_onep2 {w : World} {B : Nat} {p : Value} {l : List Int} (o : Obj) (k r : Int) (hp : Ints w B p l) (hB : B ≤ w.heap.size) {j : Nat} (hj : j < w.heap.size) (hne : p.ownBlock ≠ some j) : ActsOff ((w.alloc o).alloc (.cells #[.int .i64 k, .int .i32 r, p] 44)) B (.slice (some ⟨w.heap.size + 1, 0, none⟩) 1 1) [⟨k, r, l⟩] j := by
  have := actsOff_onep k r (hp.alloc o) (by rw [World.size_alloc]; omega) (j := j) (by rw [World.size_alloc]; omega) hne
  rwa [World.size_alloc] at this
theorem actsOff_nil (w : World) (B j : Nat) : ActsOff w B (.slice none 0 0) [] j := ⟨[], rfl, ⟨World.ownsRow_nil w B 44 3, fun _ h => by cases h⟩, by simp [Value.ownBlock], fun _ h => by cases h⟩

/-- What final leaves: the actions l, and all blocks as they were but for that of the old row. -/
def FinPost (B : Nat) (w : World) (row : Option Nat) (l : List A) (e : Ending) (w' : World) : Prop := ∃ v, e = .returned v ∧ Acts w' B v l ∧ Below B w w' ∧ ∀ k, k < w.heap.size → some k ≠ row → w'.heap[k]? = w.heap[k]? ∧ ActsOff w' B v l k

theorem acts_onep {w : World} {B : Nat} {p : Value} {l : List Int} (k r : Int) (hp : Ints w B p l) (hB : B ≤ w.heap.size) : Acts (w.alloc (.cells #[.int .i64 k, .int .i32 r, p] 44)) B (.slice (some ⟨w.heap.size, 0, none⟩) 1 1) [⟨k, r, l⟩] :=
  ⟨[(⟨k, r, l⟩, p)], rfl, World.ownsRow_lit w #[.int .i64 k, .int .i32 r, p] 1 hB (by simp [maxLen]) rfl, fun x hx => by
    simp only [List.mem_singleton] at hx
    subst hx
    exact ⟨hp.alloc _, .inr (own_ge_ne hp (Nat.le_refl _))⟩⟩

theorem acts_onep2 {w : World} {B : Nat} {p : Value} {l : List Int} (o : Obj) (k r : Int) (hp : Ints w B p l) (hB : B ≤ w.heap.size) : Acts ((w.alloc o).alloc (.cells #[.int .i64 k, .int .i32 r, p] 44)) B (.slice (some ⟨w.heap.size + 1, 0, none⟩) 1 1) [⟨k, r, l⟩] := by
  have := acts_onep k r (hp.alloc o) (by rw [World.size_alloc]; omega)
  rwa [World.size_alloc] at this

set_option maxHeartbeats 800000 in
theorem final_some (mo n m g num : Int) (par : List Int) (pr : Bool) (b : Int) (p : Value) (B : Nat) (w : World) (hp : Ints w B p par) (hl : par.length ≤ 1000) (hB : B ≤ w.heap.size) (h0 : 0 ≤ b) (h1 : b ≤ 255)
    (hc : ¬ num = -1 ∨ num = -1 ∧ 0 < par.length) :
    Calls Try.prog 126 #[escV ⟨mo, ⟨n, m, g⟩, par, num, pr, false⟩ p, .int .u8 b] w (FinPost B w p.ownBlock [⟨if pr then 5 else 4, b, wPar par num⟩]) := by
  unfold escV
  dsimp only at *
  obtain ⟨D, c, rfl⟩ := ints_form hp
  rcases hc with hc | ⟨rfl, hc⟩
  all_goals
    cases pr
    all_goals
      go_enter Try.func126, Try.ntmps126
      go_wp2_with (
        go_at_call 124
        refine (withPar_any _ par _ B _ (Ints.alloc hp _) hl (by simp; omega)).mono ?_
        rintro e w2 ⟨v, rfl, hr, hb2, hk2, hk3⟩
        obtain ⟨D2, c2, rfl⟩ := ints_form hr
        have hz := hb2.size
        have H1 : Held w2 w.heap.size 32 _ := (hk2 w.heap.size (by simp) (Ne.symm (own_ge_ne hp (Nat.le_refl _)))).trans (Held.new w 32 _)
        obtain ⟨x0, x1, x2, x3, x4, x5, x6, x7, xf⟩ := esc_cells H1)
      go_ret
      exact ⟨_, rfl, acts_onep _ _ hr (by simp at hz; omega), (((Below.refl _ w).alloc hB _).trans hb2).alloc (by simp at hz; omega) _, fun k hk hne => ⟨((Below.heap_alloc w2 _ k (by simp at hz; omega)).trans (hk2 k (by simp; omega) hne)).trans (Below.heap_alloc w _ k hk), actsOff_onep _ _ hr (by simp at hz; omega) (by simp at hz; omega) (fun he => by
        rcases hk3 _ he with h | h
        · exact hne h
        · rw [World.size_alloc] at h; omega)⟩⟩

set_option maxHeartbeats 800000 in
theorem final_none (mo n m g : Int) (pr : Bool) (b : Int) (p : Value) (B : Nat) (w : World) (hp : Ints w B p []) (hB : B ≤ w.heap.size) (h0 : 0 ≤ b) (h1 : b ≤ 255) :
    Calls Try.prog 126 #[escV ⟨mo, ⟨n, m, g⟩, [], -1, pr, false⟩ p, .int .u8 b] w (FinPost B w p.ownBlock [⟨if pr then 5 else 4, b, []⟩]) := by
  unfold escV
  dsimp only at *
  obtain ⟨D, c, rfl⟩ := ints_form hp
  cases pr
  all_goals
    go_enter Try.func126, Try.ntmps126
    go_wp2
    go_ret
    exact ⟨_, rfl, acts_onep2 _ _ _ hp hB, ((Below.refl _ w).alloc hB _).alloc (by simp; omega) _, fun k hk hne => ⟨(Below.heap_alloc (w.alloc _) _ k (by simp; omega)).trans (Below.heap_alloc w _ k hk), actsOff_onep2 _ _ _ hp hB hk (Ne.symm hne)⟩⟩

set_option maxHeartbeats 400000 in
theorem final_skip (mo n m g num : Int) (par : List Int) (pr : Bool) (b : Int) (p : Value) (B : Nat) (w : World) (hp : Ints w B p par) (hB : B ≤ w.heap.size) :
    Calls Try.prog 126 #[escV ⟨mo, ⟨n, m, g⟩, par, num, pr, true⟩ p, .int .u8 b] w (FinPost B w p.ownBlock []) := by
  unfold escV
  dsimp only at *
  obtain ⟨D, c, rfl⟩ := ints_form hp
  go_enter Try.func126, Try.ntmps126
  go_wp2
  go_ret
  exact ⟨_, rfl, acts_nil _ _, (Below.refl _ w).alloc hB _, fun k hk _ => ⟨Below.heap_alloc w _ k hk, actsOff_nil _ _ _⟩⟩

theorem final_any (e : E) (b : Int) (p : Value) (B : Nat) (w : World) (hp : Ints w B p e.par) (hl : e.par.length ≤ 1000) (hB : B ≤ w.heap.size) (h0 : 0 ≤ b) (h1 : b ≤ 255) :
    Calls Try.prog 126 #[escV e p, .int .u8 b] w (FinPost B w p.ownBlock (fin e b)) := by
  obtain ⟨mo, ⟨n, m, g⟩, par, num, pr, sk⟩ := e
  dsimp only at hp hl
  cases sk
  · by_cases c : ¬ num = -1 ∨ num = -1 ∧ 0 < par.length
    · have e1 : finPar ⟨mo, ⟨n, m, g⟩, par, num, pr, false⟩ = wPar par num := by
        unfold finPar
        rw [if_pos]
        rcases c with c | ⟨_, c⟩
        · exact .inl c
        · exact .inr (by intro h; simp only at h; subst h; simp at c)
      simp only [fin, e1, Bool.false_eq_true, if_false]
      exact final_some mo n m g num par pr b p B w hp hl hB h0 h1 c
    · have c1 : num = -1 := by omega
      have c2 : par = [] := List.eq_nil_of_length_eq_zero (by omega)
      subst c1 c2
      have e1 : finPar ⟨mo, ⟨n, m, g⟩, [], -1, pr, false⟩ = [] := by simp [finPar]
      simp only [fin, e1, Bool.false_eq_true, if_false]
      exact final_none mo n m g pr b p B w hp hB h0 h1
  · simp only [fin, if_true]
    exact final_skip mo n m g num par pr b p B w hp hB

end Go.Proofs.Ytpcpmeihebgncaa.Esca
