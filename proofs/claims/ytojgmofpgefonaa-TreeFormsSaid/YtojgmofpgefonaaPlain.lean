/-
  Trees of panes as plain data: their nodes in a row, least sizes, places, fitting. Nothing of the program is walked here. No condition.
-/
import Derived.Test.YtojgmofpgefonaaMem
import Derived.Test.YtojgmofpgefonaaCut
namespace Go.Proofs.Ytojgmofpgefonaa
open Go.RowKit

inductive T where
  | leaf (p : Int)
  | fork (d f : Int) (x y : T)
deriving DecidableEq

def leafN (p : Int) : N := ⟨p, 0, 0, 0, 0⟩
namespace T
def size : T → Nat
  | leaf _ => 1
  | fork _ _ x y => x.size + y.size + 1
def forkN (d f : Int) (i : Nat) (x : T) : N := ⟨0, d, f, ((i + 1 : Nat) : Int), ((i + 1 + x.size : Nat) : Int)⟩
def flat : T → Nat → List N
  | leaf p, _ => [leafN p]
  | fork d f x y, i => forkN d f i x :: (x.flat (i + 1) ++ y.flat (i + 1 + x.size))
def panes : T → List Int
  | leaf p => [p]
  | fork _ _ x y => x.panes ++ y.panes
def ok : T → Prop
  | leaf p => 0 < p
  | fork d f x y => (d = 1 ∨ d = 2) ∧ 1 ≤ f ∧ f ≤ 1000 ∧ x.ok ∧ y.ok
/-- The tree t stands in l from i on. -/
def At (l : List N) : Nat → T → Prop
  | i, leaf p => l[i]? = some (leafN p)
  | i, fork d f x y => l[i]? = some (forkN d f i x) ∧ At l (i + 1) x ∧ At l (i + 1 + x.size) y
theorem size_pos (t : T) : 0 < t.size := by cases t <;> simp [size]
theorem flat_len (t : T) (i : Nat) : (t.flat i).length = t.size := by
  induction t generalizing i with
  | leaf p => rfl
  | fork d f x y hx hy => simp [flat, size, hx, hy]
theorem at_flat (t : T) (pre post : List N) : At (pre ++ t.flat pre.length ++ post) pre.length t := by
  induction t generalizing pre post with
  | leaf p => simp [At, flat]
  | fork d f x y hx hy =>
    refine ⟨by simp [flat], ?_, ?_⟩
    · have := hx (pre ++ [forkN d f pre.length x]) (y.flat (pre.length + 1 + x.size) ++ post)
      simpa [flat, List.append_assoc] using this
    · have := hy (pre ++ [forkN d f pre.length x] ++ x.flat (pre.length + 1)) post
      have e : (pre ++ [forkN d f pre.length x] ++ x.flat (pre.length + 1)).length = pre.length + 1 + x.size := by simp only [List.length_append, List.length_cons, List.length_nil, flat_len]
      rw [e] at this
      simpa only [flat, List.append_assoc, List.cons_append, List.nil_append] using this
theorem at_all (t : T) : At (t.flat 0) 0 t := by
  have := at_flat t [] []
  simpa using this
theorem at_lt {t : T} {l : List N} {i : Nat} (h : At l i t) : i + t.size ≤ l.length := by
  induction t generalizing i with
  | leaf p =>
    have := (List.getElem?_eq_some_iff.1 h).1
    simp [size]
    omega
  | fork d f x y hx hy =>
    have := hy h.2.2
    simp [size]
    omega
def lw : T → Int
  | leaf _ => 1
  | fork d _ x y => if d = 1 then x.lw + 1 + y.lw else max x.lw y.lw
def lh : T → Int
  | leaf _ => 1
  | fork d _ x y => if d = 1 then max x.lh y.lh else x.lh + 1 + y.lh
theorem lw_ok (t : T) : 1 ≤ t.lw ∧ t.lw ≤ t.size := by
  induction t with
  | leaf p => simp [lw, size]
  | fork d f x y hx hy => unfold lw size; split <;> push_cast <;> omega
theorem lh_ok (t : T) : 1 ≤ t.lh ∧ t.lh ≤ t.size := by
  induction t with
  | leaf p => simp [lh, size]
  | fork d f x y hx hy => unfold lh size; split <;> push_cast <;> omega
end T
def aR (d f : Int) (r : R) : R := if d = 1 then ⟨r.X, r.Y, f, r.H⟩ else ⟨r.X, r.Y, r.W, f⟩
def mR (d f : Int) (r : R) : R := if d = 1 then ⟨r.X + f, r.Y, 1, r.H⟩ else ⟨r.X, r.Y + f, r.W, 1⟩
def bR (d f : Int) (r : R) : R := if d = 1 then ⟨r.X + f + 1, r.Y, r.W - 1 - f, r.H⟩ else ⟨r.X, r.Y + f + 1, r.W, r.H - 1 - f⟩
def side (d : Int) (r : R) : Int := if d = 1 then r.W else if d = 2 then r.H else 0
/-- A rectangle within the greatest window. -/
def R.in (r : R) : Prop := 0 ≤ r.X ∧ 0 ≤ r.Y ∧ 0 ≤ r.W ∧ 0 ≤ r.H ∧ r.X + r.W ≤ 1000 ∧ r.Y + r.H ≤ 1000
theorem R.in.none {r : R} (h : r.in) : noneF r = false := by
  obtain ⟨h1, h2, h3, h4, h5, h6⟩ := h
  unfold noneF outF
  rw [Bool.eq_false_iff]
  simp only [ne_eq, Bool.or_eq_true, decide_eq_true_eq]
  omega
theorem cut_in {r : R} {d f : Int} (hr : r.in) (hd : d = 1 ∨ d = 2) (h1 : 1 ≤ f) (h2 : f ≤ side d r - 2) : cutF r d f = (aR d f r, mR d f r, bR d f r, true) ∧ (aR d f r).in ∧ (mR d f r).in ∧ (bR d f r).in := by
  have hn := hr.none
  obtain ⟨a1, a2, a3, a4, a5, a6⟩ := hr
  rcases hd with rfl | rfl
  · have hb : bothF r.W f = true := by unfold bothF; simp [side] at *; omega
    rw [cut_ok1 hn hb]
    simp [aR, mR, bR, side, R.in] at *
    omega
  · have hb : bothF r.H f = true := by unfold bothF; simp [side] at *; omega
    rw [cut_ok2 hn hb]
    simp [aR, mR, bR, side, R.in] at *
    omega
namespace T
/-- Each cut leaves both parts something. -/
def fits : T → R → Prop
  | leaf _, _ => True
  | fork d f x y, r => 1 ≤ f ∧ f ≤ side d r - 2 ∧ x.fits (aR d f r) ∧ y.fits (bR d f r)
def spots : T → R → List Sp
  | leaf p, r => [⟨p, r⟩]
  | fork d f x y, r => x.spots (aR d f r) ++ y.spots (bR d f r)
def bords : T → R → List R
  | leaf _, _ => []
  | fork d f x y, r => mR d f r :: (x.bords (aR d f r) ++ y.bords (bR d f r))
def ll (d : Int) (t : T) : Int := if d = 1 then t.lw else if d = 2 then t.lh else 0
def fit : T → R → T
  | leaf p, _ => leaf p
  | fork d f x y, r => let g := heldF f (x.ll d) (side d r - 1 - y.ll d); fork d g (x.fit (aR d g r)) (y.fit (bR d g r))
theorem spots_panes (t : T) (r : R) : (t.spots r).map Sp.p = t.panes := by
  induction t generalizing r with
  | leaf p => rfl
  | fork d f x y hx hy => simp [spots, panes, hx, hy]
theorem bords_len (t : T) (r : R) : (t.bords r).length + 1 = t.panes.length := by
  induction t generalizing r with
  | leaf p => rfl
  | fork d f x y hx hy =>
    have h1 := hx (aR d f r)
    have h2 := hy (bR d f r)
    simp [bords, panes]
    omega
theorem panes_size (t : T) : t.size + 1 = 2 * t.panes.length := by
  induction t with
  | leaf p => rfl
  | fork d f x y hx hy => simp [size, panes]; omega
theorem panes_pos {t : T} (h : t.ok) : ∀ p ∈ t.panes, 0 < p := by
  induction t with
  | leaf p => intro q hq; simp [panes] at hq; subst hq; exact h
  | fork d f x y hx hy =>
    intro q hq
    simp [panes] at hq
    rcases hq with hq | hq
    · exact hx h.2.2.2.1 q hq
    · exact hy h.2.2.2.2 q hq
end T
end Go.Proofs.Ytojgmofpgefonaa
