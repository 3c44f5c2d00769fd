/-
  What the small functions of package esca do to the world, as plain functions of numbers. Conditions: a byte is 0 to 255.
-/
import Derived.Test.YtpcpmeihebgncaaERep
import Derived.Lib.SliceRun
namespace Go.Proofs.Ytpcpmeihebgncaa.Esca
open Go.RowKit
set_option maxRecDepth 100000

/-! ### the plain functions -/
def inStr (b : Int) : Int := if b = 7 ∨ b = 24 ∨ b = 26 then 0 else if b = 27 then 5 else 3
def inEn (b : Int) : Int := if b = 92 then 0 else if b = 27 then 5 else 3
def inSk (b : Int) : Int := if b = 24 ∨ b = 26 ∨ (48 ≤ b ∧ b ≤ 126) then 0 else if b = 27 then 1 else 4
def ctl (b : Int) : List A := if b < 7 ∨ 13 < b then [] else [⟨2, b, []⟩]
def prt (r : Int) : Bool := decide (32 ≤ r ∧ r ≤ 126 ∨ 160 ≤ r)
def prints (rs : List Int) : List A := (rs.filter prt).map fun r => ⟨1, r, []⟩
def wDigit (n d : Int) : Int := if n < 0 then d else min (10 * min n 65535 + d) 65535
def wPar (par : List Int) (n : Int) : List Int := if 16 ≤ par.length then par else par ++ [n]

/-- What a function that answers actions leaves. -/
def ActPost (B : Nat) (w : World) (l : List A) (e : Ending) (w' : World) : Prop := ∃ v, e = .returned v ∧ Acts w' B v l ∧ Below B w w'
/-- What a function that answers numbers leaves. -/
def IntPost (B : Nat) (w : World) (l : List Int) (e : Ending) (w' : World) : Prop := ∃ v, e = .returned v ∧ Ints w' B v l ∧ Below B w w'

set_option maxHeartbeats 400000 in
theorem inString_any (b : Int) (w : World) : Calls Try.prog 84 #[.int .u8 b] w fun e w' => e = .returned (.int .i64 (inStr b)) ∧ w = w' := by
  go_enter Try.func84, Try.ntmps84
  go_wp2
  all_goals (go_ret; (refine ⟨congrArg (fun z => Ending.returned (Value.int .i64 z)) ?_, rfl⟩); simp only [beq_iff_eq, beq_eq_false_iff_ne, ne_eq] at *; unfold inStr; (repeat' split) <;> omega)
set_option maxHeartbeats 400000 in
theorem inEnd_any (b : Int) (w : World) : Calls Try.prog 85 #[.int .u8 b] w fun e w' => e = .returned (.int .i64 (inEn b)) ∧ w = w' := by
  go_enter Try.func85, Try.ntmps85
  go_wp2
  all_goals (go_ret; (refine ⟨congrArg (fun z => Ending.returned (Value.int .i64 z)) ?_, rfl⟩); simp only [beq_iff_eq, beq_eq_false_iff_ne, ne_eq] at *; unfold inEn; (repeat' split) <;> omega)
set_option maxHeartbeats 400000 in
theorem inSkip_any (b : Int) (w : World) : Calls Try.prog 86 #[.int .u8 b] w fun e w' => e = .returned (.int .i64 (inSk b)) ∧ w = w' := by
  go_enter Try.func86, Try.ntmps86
  go_wp2
  all_goals (go_ret; (refine ⟨congrArg (fun z => Ending.returned (Value.int .i64 z)) ?_, rfl⟩); simp only [beq_iff_eq, beq_eq_false_iff_ne, ne_eq] at *; unfold inSk; (repeat' split) <;> omega)
theorem acts_one (w : World) (B : Nat) (k r : Int) (hB : B ≤ w.heap.size) : Acts (w.alloc (.cells #[.int .i64 k, .int .i32 r, .slice none 0 0] 44)) B (.slice (some ⟨w.heap.size, 0, none⟩) 1 1) [⟨k, r, []⟩] :=
  ⟨[(⟨k, r, []⟩, .slice none 0 0)], rfl, World.ownsRow_lit w #[.int .i64 k, .int .i32 r, .slice none 0 0] 1 hB (by simp [maxLen]) rfl, fun x hx => by
    simp only [List.mem_singleton] at hx
    subst hx
    exact ⟨ints_nil _ _, .inl rfl⟩⟩
set_option maxHeartbeats 400000 in
theorem control_any (b : Int) (w : World) (h0 : 0 ≤ b) (h1 : b ≤ 255) : Calls Try.prog 121 #[.int .u8 b] w (ActPost w.heap.size w (ctl b)) := by
  by_cases c : b < 7 ∨ 13 < b
  · rw [show ctl b = [] by simp [ctl, c]]
    rcases c with c | c
    all_goals
      go_enter Try.func121, Try.ntmps121
      go_wp2
      all_goals (go_ret; exact ⟨_, rfl, acts_nil _ _, Below.refl _ _⟩)
  · rw [show ctl b = [⟨2, b, []⟩] by simp [ctl, c]]
    have c1 : 7 ≤ b := by omega
    have c2 : b ≤ 13 := by omega
    go_enter Try.func121, Try.ntmps121
    go_wp2
    go_ret
    exact ⟨_, rfl, acts_one _ _ _ _ (Nat.le_refl _), (Below.refl _ _).alloc (Nat.le_refl _) _⟩
set_option maxHeartbeats 400000 in
theorem isPrinted_any (r : Int) (w : World) : Calls Try.prog 148 #[.int .i32 r] w fun e w' => e = .returned (.bool (prt r)) ∧ w = w' := by
  go_enter Try.func148, Try.ntmps148
  go_wp2
  all_goals (go_ret; (refine ⟨congrArg (fun z => Ending.returned (Value.bool z)) ?_, rfl⟩); unfold prt; apply Bool.eq_iff_iff.2; simp <;> omega)
set_option maxHeartbeats 400000 in
theorem withDigit_any (n d : Int) (w : World) (h0 : 0 ≤ d) (h1 : d ≤ 9) (hn : n ≤ 65535) : Calls Try.prog 123 #[.int .i64 n, .int .i64 d] w fun e w' => e = .returned (.int .i64 (wDigit n d)) ∧ w = w' := by
  go_enter Try.func123, Try.ntmps123
  go_wp2
  all_goals (go_ret; (refine ⟨congrArg (fun z => Ending.returned (Value.int .i64 z)) ?_, rfl⟩); unfold wDigit; (repeat' split) <;> omega)
set_option maxHeartbeats 400000 in
theorem clone_any (v : Value) (l : List Int) (B : Nat) (w : World) (hv : Ints w B v l) (hl : l.length ≤ 1000) : Calls Try.prog 89 #[v] w (IntPost w.heap.size w l) := by
  rcases hv.2 with ⟨rfl, h0⟩ | ⟨g, cap, cur, rfl, _⟩
  · have hr : l = [] := List.eq_nil_of_length_eq_zero h0
    subst hr
    have hnil : ∀ W, (binOp .eql 28 (.slice none 0 0) (.slice none 0 0)).run Try.prog W = .ok (.bool true) W := fun W => Lib.run_eql_slice_nil W _ _ _ _ _ _ _ Try.underlying28
    go_enter Try.func89, Try.ntmps89
    go_wp2
    go_ret
    exact ⟨_, rfl, ints_nil _ _, Below.refl _ _⟩
  · have hrow := World.ownsRow_lit (base := w.heap.size) (e := 3) (size := 1) w #[] 0 (by simp) (by simp [maxLen]) rfl
    have hv' := Ints.alloc hv (.cells #[] 3)
    have hnil : ∀ W, (binOp .eql 28 (.slice (some ⟨g, 0, none⟩) l.length cap) (.slice none 0 0)).run Try.prog W = .ok (.bool false) W := fun W => Lib.run_eql_slice_nil W _ _ _ _ _ _ _ Try.underlying28
    go_enter Try.func89, Try.ntmps89
    go_wp2_with (refine wpList_append_rows _ (by rfl) _ _ _ (by rfl) rowInt w.heap.size B 0 l.length (.slice (some ⟨w.heap.size, 0, none⟩) 0 0) _ [] (i64s l) (by rfl) (by rfl) (by exact hrow) (by exact hv') (i64s_one _) (by omega) (by simp) ?_; intro v3 w3 hap)
    go_ret
    refine ⟨v3, rfl, ?_, ((Below.refl _ w).alloc (Nat.le_refl _) _).trans (hap.below hrow (by simp))⟩
    have := hap.own
    rwa [Nat.zero_add] at this

/-! ### where it is -/
/-- Where it is: an api.Esc but for where its Par lies. -/
structure E where
  mode : Int
  u : U
  par : List Int
  num : Int
  priv : Bool
  skip : Bool
def escV (e : E) (p : Value) : Value := .agg #[.int .i64 e.mode, .int .i64 e.u.n, .int .i64 e.u.m, .int .i64 e.u.g, p, .int .i64 e.num, .bool e.priv, .bool e.skip]
def escC (e : E) (p : Value) : Array Value := #[.int .i64 e.mode, .int .i64 e.u.n, .int .i64 e.u.m, .int .i64 e.u.g, p, .int .i64 e.num, .bool e.priv, .bool e.skip]
/-- What a function that answers where it is leaves. -/
def EscPost (B : Nat) (w : World) (e' : E) (x : Ending) (w' : World) : Prop := ∃ p, x = .returned (escV e' p) ∧ Ints w' B p e'.par ∧ Below B w w'
theorem Ints.setlo {w : World} {B : Nat} {v : Value} {l : List Int} (h : Ints w B v l) {k o : Nat} (hk : k < B) (u : Value) : Ints (w.setCell ⟨k, o, none⟩ u) B v l := h.set (own_ne h hk) u
theorem Acts.setlo {w : World} {B : Nat} {v : Value} {l : List A} (h : Acts w B v l) {k o : Nat} (hk : k < B) (u : Value) : Acts (w.setCell ⟨k, o, none⟩ u) B v l := h.set (p := ⟨k, o, none⟩) hk u
theorem below_set {a w : World} {B k o : Nat} (h : Below B a w) (hk : B ≤ k) (x : Value) : Below B a (w.setCell ⟨k, o, none⟩ x) := h.setCell (p := ⟨k, o, none⟩) hk x

theorem esc_cells {w : World} {g : Nat} {a0 a1 a2 a3 a4 a5 a6 a7 : Value} (h : Held w g 32 #[a0, a1, a2, a3, a4, a5, a6, a7]) :
    w.cell? ⟨g, 0, none⟩ = some a0 ∧ w.cell? ⟨g, 1, none⟩ = some a1 ∧ w.cell? ⟨g, 2, none⟩ = some a2 ∧ w.cell? ⟨g, 3, none⟩ = some a3 ∧ w.cell? ⟨g, 4, none⟩ = some a4 ∧ w.cell? ⟨g, 5, none⟩ = some a5 ∧ w.cell? ⟨g, 6, none⟩ = some a6 ∧ w.cell? ⟨g, 7, none⟩ = some a7 ∧ (∀ o, w.frozen? ⟨g, o, none⟩ = false) :=
  ⟨(h.cell 0).trans rfl, (h.cell 1).trans rfl, (h.cell 2).trans rfl, (h.cell 3).trans rfl, (h.cell 4).trans rfl, (h.cell 5).trans rfl, (h.cell 6).trans rfl, (h.cell 7).trans rfl, h.frozen⟩

theorem two_new {w w2 : World} {t t' : TypeId} {cs cs' : Array Value} (hb : Below ((w.alloc (.cells cs t)).alloc (.cells cs' t')).heap.size ((w.alloc (.cells cs t)).alloc (.cells cs' t')) w2) : Held w2 w.heap.size t cs ∧ Held w2 (w.heap.size + 1) t' cs' :=
  ⟨Held.below (Held.alloc (Held.new w t cs) _) hb (by rw [World.size_alloc, World.size_alloc]; omega), Held.below (Held.new2 w _ t' cs') hb (by rw [World.size_alloc, World.size_alloc]; omega)⟩

set_option maxHeartbeats 800000 in
theorem own_any (e : E) (p : Value) (B : Nat) (w : World) (hp : Ints w B p e.par) (hl : e.par.length ≤ 1000) : Calls Try.prog 80 #[escV e p] w (EscPost w.heap.size w e) := by
  obtain ⟨mo, ⟨n, m, g⟩, par, num, pr, sk⟩ := e
  unfold escV
  dsimp only at *
  obtain ⟨D, c, rfl⟩ := ints_form hp
  go_enter Try.func80, Try.ntmps80
  go_wp2_with (
    go_at_call 89
    refine (clone_any _ par B _ (Ints.alloc (Ints.alloc hp _) _) hl).mono ?_
    rintro e w2 ⟨v, rfl, hr, hb2⟩
    obtain ⟨D2, c2, rfl⟩ := ints_form hr
    obtain ⟨H1, H2⟩ := two_new hb2
    obtain ⟨x0, x1, x2, x3, x4, x5, x6, x7, xf⟩ := esc_cells H1
    obtain ⟨y0, y1, y2, y3, y4, y5, y6, y7, yf⟩ := esc_cells H2)
  refine bodyPost_ret (v := escV ⟨mo, ⟨n, m, g⟩, par, num, pr, sk⟩ (.slice D2 par.length c2)) (by simp [results, Try.results80, go_sem, escV, y0, y1, y2, y3, y4, y5, y6, y7]) rfl ⟨_, rfl, ?_, ?_⟩
  · have hr' : Ints w2 (w.heap.size + 2) (.slice D2 par.length c2) par := hr.base (by simp)
    refine Ints.base (B := w.heap.size + 2) ?_ (by omega)
    repeat (first | with_reducible exact hr' | with_reducible refine Ints.setlo ?_ (by omega) _)
  · repeat (with_reducible refine below_set ?_ (by omega) _)
    exact (below_alloc2 _ _ _).trans (hb2.mono (by simp; omega))
end Go.Proofs.Ytpcpmeihebgncaa.Esca
