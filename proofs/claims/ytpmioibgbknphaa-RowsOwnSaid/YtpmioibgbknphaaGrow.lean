/-
  What append does to a row of cells that has no room: a new row, and nothing that was there turns. Conditions: at most a thousand cells.
-/
import Derived.Test.YtpmioibgbknphaaPoint
import Derived.ArgAppend
namespace Go.Proofs.Ytpmioibgbknphaa
open Go.RowKit

/-- A row of the call's own that reads as l, in block g, with room for cap. -/
theorem own_read {w : World} {base g n cap : Nat} {l : List C} (h : w.ownsRow base 23 2 (.slice (some ⟨g, 0, none⟩) n cap) n (cvs l)) : ReadC w (some ⟨g, 0, none⟩) l := by
  have hlt : 0 < n → g < w.heap.size := fun hn => by
    have := (h.lt g rfl).2
    exact this
  intro k hk
  have hln : l.length = n := by have := h.1; rw [cvs_len] at this; omega
  obtain ⟨q0, q1⟩ := cvs_at l k hk
  refine ⟨g, 0, rfl, hlt (by omega), ?_, ?_⟩
  · rw [Nat.zero_add]
    exact (World.ownsRow.cellAt h _ (by omega)).trans q0
  · rw [Nat.zero_add]
    exact (World.ownsRow.cellAt h _ (by omega)).trans q1

/-- What an append with no room leaves. -/
structure Grew (w w' : World) (v' : Value) (l : List C) : Prop where
  form : ∃ g cap, v' = .slice (some ⟨g, 0, none⟩) l.length cap ∧ ReadC w' (some ⟨g, 0, none⟩) l
  below : Below w.heap.size w w'

theorem wpList_growC {w : World} {ops : Array Oper} {rest : List Oper} {o : Oper} {a : Act} {Q : Exit → Act → World → Prop} (hgd : o.guard = none) (s x : Operand)
    (ho : o.op = .call { callee := .builtin .append, args := #[s, x], argTypes := #[24, 24] }) (ao : Addr) (n : Nat) (l : List C) (hs : a.eval s = .slice (some ao) n n) (hl : l.length = n) (hr : ReadC w (some ao) l)
    (D : Option Addr) (m c : Nat) (ms : List C) (hx : a.eval x = .slice D m c) (hm : ms.length = m) (hpos : 0 < m) (hr2 : ReadC w D ms) (hn : n + m ≤ 1000)
    (h : ∀ v' w', Grew w w' v' (l ++ ms) → wpList Try.prog ops Q rest (a.put o.dst v') w') : wpList Try.prog ops Q (o :: rest) a w := by
  obtain ⟨i0, hi0, hz0, hz1, hz2⟩ := info_parts cell_info
  subst hl hm
  obtain ⟨ad, rfl, hcell⟩ := read_flat hr2 hpos
  refine wpList_append_grows w hgd s x 24 ho 23 i0 _ 2 16 Try.underlying24 hi0 hz0 hz1 hz2 rfl (by decide) (some ao) l.length l.length (cvs l) hs (fun h => by cases h) (cvs_len l) ?_ ad ms.length c (cvs ms) hx (cvs_len ms) hcell (cvs_one ms)
    (by omega) (by unfold maxLen; omega) (by omega) ?_
  · intro b hb j u hj
    cases hb
    by_cases h0 : 0 < l.length
    · obtain ⟨ad', e, hc⟩ := read_flat hr h0
      cases e
      exact hc j u hj
    · have : l = [] := List.eq_nil_of_length_eq_zero (by omega)
      subst this
      simp [cvs] at hj
  · intro v' w' hown hg
    refine h v' w' ⟨?_, (Below.refl _ _).grown hg (Nat.le_refl _) (fun k hk => by cases hk)⟩
    rw [← cvs_app] at hown
    rcases hown.2 with ⟨_, h0⟩ | ⟨g, cap, _, rfl, _⟩
    · omega
    rw [List.length_append]
    exact ⟨g, cap, rfl, own_read hown⟩
end Go.Proofs.Ytpmioibgbknphaa
