/-
  A pane that lines are fed to: what it is behind n lines, reckoned for all heights up to 8 and all n up to 64. No condition.
-/
import Derived.Test.YtpcpmeihebgncaaB7
namespace Go.Proofs.Ytpcpmeihebgncaa
open Go.RowKit
set_option maxRecDepth 100000

def plB (i : Nat) : List Int := [65 + (i % 26 : Nat), 97 + (i / 26 : Nat)]
/-- Ahead of line i: on a new line. -/
def plN (i : Nat) (q : PM) : PM := if i = 0 then q else feedP q [13, 10]
def pl (h : Nat) : Nat → PM
  | 0 => newP 4 h
  | i + 1 => feedP (plN i (pl h i)) (plB i)
def wantL (n i : Nat) : Int × Int := if i < n then (65 + (i % 26 : Nat), 97 + (i / 26 : Nat)) else (32, 32)
def lchk (h n : Nat) (q : PM) : Bool := decide (q.s.L.length = h) && decide (q.s.B.length = min (n - h) 50) && decide (q.s.p.y = (min n h : Nat) - 1) && decide (q.s.p.x = 2) && ((List.range h).all fun y => decide (runeAt q.s.L y 0 = (wantL n (n - h + y)).1) && decide (runeAt q.s.L y 1 = (wantL n (n - h + y)).2)) && ((List.range q.s.B.length).all fun j => decide (runeAt q.s.B j 0 = 65 + ((n - h - q.s.B.length + j) % 26 : Nat)) && decide (1 ≤ (rowAt q.s.B j).length))
def lrun (h : Nat) : Nat → Nat → PM → Bool
  | 0, _, _ => true
  | f + 1, i, q => let q1 := feedP (plN i q) (plB i); lchk h (i + 1) q1 && lrun h f (i + 1) q1
theorem lrun_all : ((List.range 8).all fun h => lrun (h + 1) 64 0 (newP 4 (h + 1))) = true := by decide +kernel
theorem lrun_at {h : Nat} : ∀ (f i : Nat), lrun h f i (pl h i) = true → ∀ j, j < f → lchk h (i + j + 1) (pl h (i + j + 1)) = true
  | 0, _, _, j, hj => absurd hj (Nat.not_lt_zero _)
  | f + 1, i, hr, j, hj => by
    have hr' : (lchk h (i + 1) (pl h (i + 1)) && lrun h f (i + 1) (pl h (i + 1))) = true := hr
    rw [Bool.and_eq_true] at hr'
    cases j with
    | zero => exact hr'.1
    | succ j =>
      have := lrun_at f (i + 1) hr'.2 j (by omega)
      rwa [show i + 1 + j + 1 = i + (j + 1) + 1 by omega] at this
theorem lchk_all (h n : Nat) (hh : h < 8) (h0 : 1 ≤ n) (h1 : n ≤ 64) : lchk (h + 1) n (pl (h + 1) n) = true := by
  have := List.all_eq_true.1 lrun_all h (List.mem_range.2 hh)
  have := lrun_at 64 0 this (n - 1) (by omega)
  rwa [show 0 + (n - 1) + 1 = n by omega] at this
theorem pl_ok (h : Nat) (h0 : 1 ≤ h) (h1 : h ≤ 1000) : ∀ i, (pl h i).Ok 4 h
  | 0 => newP_ok 4 h (by omega) (by omega) h0 h1
  | i + 1 => by
    refine PM.Ok.feedP _ ?_
    unfold plN
    split
    · exact pl_ok h h0 h1 i
    · exact (pl_ok h h0 h1 i).feedP _
end Go.Proofs.Ytpcpmeihebgncaa
