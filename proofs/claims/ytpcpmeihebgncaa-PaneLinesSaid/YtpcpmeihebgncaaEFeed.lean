/-
  Feed of package esca: what a row of bytes comes to, byte by byte. Conditions: bytes are 0 to 255, and at most 300000; where it is is what steps from nothing make.
-/
import Derived.Test.YtpcpmeihebgncaaEStepE
import Derived.Deep.DeepCutAuto
namespace Go.Proofs.Ytpcpmeihebgncaa.Esca
open Go.RowKit
set_option maxRecDepth 100000

def feedE (e : E) : List Int → E
  | [] => e
  | b :: bs => feedE (nxE e b).1 bs
def feedA (e : E) : List Int → List A
  | [] => []
  | b :: bs => (nxE e b).2 ++ feedA (nxE e b).1 bs
theorem feedE_app (e : E) (cs bs : List Int) : feedE e (cs ++ bs) = feedE (feedE e cs) bs := by
  induction cs generalizing e with
  | nil => rfl
  | cons a l ih => exact ih _
theorem feedA_app (e : E) (cs bs : List Int) : feedA e (cs ++ bs) = feedA e cs ++ feedA (feedE e cs) bs := by
  induction cs generalizing e with
  | nil => simp [feedA, feedE]
  | cons a l ih => simp [feedA, feedE, ih, List.append_assoc]
theorem feedE_ok (e : E) (bs : List Int) (h : e.Ok) : (feedE e bs).Ok := by
  induction bs generalizing e with
  | nil => exact h
  | cons a l ih => exact ih _ (nxE_ok e a h)
theorem feedA_len (e : E) (bs : List Int) : (feedA e bs).length ≤ 3 * bs.length := by
  induction bs generalizing e with
  | nil => simp [feedA]
  | cons a l ih =>
    have h1 := ih (nxE e a).1
    have h2 := nxE_len e a
    simp only [feedA, List.length_append, List.length_cons]
    omega

/-- A slice value v that reads as the bytes bs. -/
def ReadB (w : World) (v : Value) (bs : List Int) : Prop := ∃ D c, v = .slice D bs.length c ∧ ∀ k : Nat, k < bs.length → ∃ (b off : Nat) (z : Int), D = some ⟨b, off, none⟩ ∧ b < w.heap.size ∧ bs[k]? = some z ∧ w.cell? ⟨b, off + k, none⟩ = some (.int .u8 z) ∧ 0 ≤ z ∧ z ≤ 255

theorem Ints.moved {w w' : World} {B : Nat} {v : Value} {l : List Int} {row : Option Nat} (h : Ints w B v l) (hk : ∀ k, k < w.heap.size → some k ≠ row → w'.heap[k]? = w.heap[k]?) (hne : ∀ k, v.ownBlock = some k → some k ≠ row) : Ints w' B v l := by
  refine ⟨h.1, ?_⟩
  rcases h.2 with hn | ⟨g, cap, cur, rfl, hb, hgg, rest⟩
  · exact .inl hn
  · refine .inr ⟨g, cap, cur, rfl, hb, ?_, rest⟩
    rw [hk g (Array.getElem?_eq_some_iff.1 hgg).1 (hne g rfl)]
    exact hgg

end Go.Proofs.Ytpcpmeihebgncaa.Esca
