/-
  What Clear of package rows answers. Conditions: a row of at most a thousand cells.
-/
import Derived.Test.YtpcpmeihebgncaaPuts
namespace Go.Proofs.Ytpcpmeihebgncaa
open Go.RowKit
set_option maxRecDepth 100000

theorem clear_none (l : List C) (a b : Nat) (h : b ≤ a) : clearN l a b = l := by
  apply List.ext_getElem
  · simp [clearN]
  · intro i h1 h2
    simp only [clearN, List.getElem_mapIdx]
    rw [if_neg (by omega)]
theorem clear_next (l : List C) (a k : Nat) (h : a ≤ k) : (clearN l a k).set k C.blank = clearN l a (k + 1) := by
  apply List.ext_getElem
  · simp [clearN]
  · intro i h1 h2
    simp only [clearN, List.getElem_set, List.getElem_mapIdx]
    by_cases e : k = i
    · rw [if_pos e, if_pos (by omega)]
    · rw [if_neg e]
      by_cases c : a ≤ i ∧ i < k
      · rw [if_pos c, if_pos (by omega)]
      · rw [if_neg c, if_neg (by omega)]

def ClearRel (w : World) (g : Nat) (l : List C) (a b : Nat) (i : Value) (wr : World) : Prop := ∃ k : Nat, i = .int .i64 k ∧ a ≤ k ∧ (k ≤ b ∨ k = a) ∧ Row wr g (clearN l a k) ∧ Below w.heap.size w wr

set_option maxHeartbeats 400000 in
theorem clear_any (D : Option Addr) (cp : Nat) (l : List C) (x y : Int) (w : World) (hr : ReadC w D l) (hn : l.length ≤ 1000) : Calls Try.prog 112 #[.slice D l.length cp, .int .i64 x, .int .i64 y] w (RowPost w (clearF l x y)) := by
  have hO := Lib.hid (rown_any D cp l w hr hn)
  clear hr
  obtain ⟨x0, x1⟩ := within_nat x l.length
  obtain ⟨y0, y1⟩ := within_nat y l.length
  obtain ⟨a, ha⟩ : ∃ a : Nat, withinF x l.length = a := ⟨(withinF x l.length).toNat, by omega⟩
  obtain ⟨b, hb⟩ : ∃ b : Nat, withinF y l.length = b := ⟨(withinF y l.length).toNat, by omega⟩
  have hA : Hid (∀ w, Calls Try.prog 140 #[.int .i64 x, .int .i64 l.length] w fun e w' => e = .returned (.int .i64 a) ∧ w = w') := fun w => by rw [← ha]; exact within_any x l.length w
  have hB : Hid (∀ w, Calls Try.prog 140 #[.int .i64 y, .int .i64 l.length] w fun e w' => e = .returned (.int .i64 b) ∧ w = w') := fun w => by rw [← hb]; exact within_any y l.length w
  have e : clearF l x y = clearN l a b := by unfold clearF; rw [ha, hb]; rfl
  rw [e]
  rw [ha] at x1
  rw [hb] at y1
  have hal : a ≤ l.length := by omega
  have hbl : b ≤ l.length := by omega
  clear e ha hb x0 y0 x1 y1
  have H0 : Hid (clearN l a a = l) := clear_none l a a (Nat.le_refl _)
  go_enter Try.func112, Try.ntmps112
  go_wp2_with (first
    | (go_at_call 97; refine hO.out.mono ?_; rintro e w1 ⟨g, rfl, hg, hrow, hb1⟩)
    | (go_at_call 140; refine (hA.out _).mono ?_; rintro e w' ⟨rfl, rfl⟩))
  go_loopw [8] (ClearRel w g l a b) (fun i _ => b - (intOf i).toNat)
  case atStart => exact ⟨a, rfl, Nat.le_refl _, .inr rfl, by rw [H0.out]; exact hrow, hb1⟩
  case round =>
    obtain ⟨k, rfl, hak, hkb, hrow2, hb2⟩ := hrel
    have hz := hrow2.lt
    by_cases hlt : k < b
    · have hki : (k : Int) < (b : Int) := by omega
      have hcl := clearN_len l a k
      have hkl : k < l.length := by omega
      go_wp2_with (first
        | (go_at_call 140; refine (hB.out _).mono ?_; rintro e w' ⟨rfl, rfl⟩)
        | (go_at_call 141
           refine (blank_any _).mono ?_
           rintro e w3 ⟨rfl, hb3⟩
           unfold blankV
           have hrow3 := hrow2.below hb3 hz
           obtain ⟨c0, c1⟩ := hrow3.cells k (by omega)
           have cf := hrow3.frozen))
      go_roundw
      case rel =>
        refine ⟨k + 1, by go_num, by omega, by omega, ?_, ?_⟩
        · rw [← clear_next l a k hak]
          exact hrow3.set k C.blank
        · exact below_set2 (below_next hb2 hb3) hg _ _ _ _
      case measure => simp [intOf]; omega
    · have hki : ¬ (k : Int) < (b : Int) := by omega
      have e : clearN l a k = clearN l a b := by
        rcases hkb with h | h
        · rw [show k = b by omega]
        · subst h
          rw [clear_none _ _ _ (Nat.le_refl _), clear_none _ _ _ (by omega)]
      have he : (clearN l a b).length = l.length := clearN_len _ _ _
      have HE := Lib.hid e
      have HL := Lib.hid he
      clear e he
      go_wp2_with (go_at_call 140; refine (hB.out _).mono ?_; rintro e w' ⟨rfl, rfl⟩)
      go_ret
      refine ⟨g, ?_, hg, ?_, hb2⟩
      · rw [HL.out]
        rfl
      · rw [← HE.out]
        exact hrow2
end Go.Proofs.Ytpcpmeihebgncaa
