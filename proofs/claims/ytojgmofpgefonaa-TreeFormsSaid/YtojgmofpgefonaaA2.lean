/-
  What isLeaf, isFork and endOf of tree answer, of any row of nodes. Conditions: rows of at most a thousand nodes.
-/
import Derived.Test.YtojgmofpgefonaaA
namespace Go.Proofs.Ytojgmofpgefonaa
open Go.RowKit
set_option linter.unusedSimpArgs false

def isLeafF (n : N) : Bool := decide (0 < n.p) && decide (n = leafN n.p)
def isForkF (n : N) : Bool := decide (n.p = 0) && (decide (n.d = 1) || decide (n.d = 2)) && decide (1 ≤ n.f) && decide (n.f ≤ 1000)

set_option maxHeartbeats 1000000 in
theorem isLeaf_any (n : N) (w : World) : Calls Try.prog 51 #[nv n] w (New (.bool (isLeafF n)) w) := by
  obtain ⟨p, d, f, a, b⟩ := n
  unfold nv isLeafF
  dsimp only
  have HA := Lib.hid (leaf_any p)
  have HN0 : NB (w.alloc (.cells #[.int .i64 p, .int .i64 d, .int .i64 f, .int .i64 a, .int .i64 b] 23)) w.heap.size ⟨p, d, f, a, b⟩ := Held.new _ _ _
  have HB0 : Below w.heap.size w (w.alloc (.cells #[.int .i64 p, .int .i64 d, .int .i64 f, .int .i64 a, .int .i64 b] 23)) := (Below.refl _ _).alloc (Nat.le_refl _) _
  have HN := Lib.hid HN0
  have HB := Lib.hid HB0
  clear HN0 HB0
  by_cases hp : 0 < p
  · have hd : decide (0 < p) = true := by simpa using hp
    have e : decide ((⟨p, d, f, a, b⟩ : N) = leafN p) = (decide (d = 0) && decide (f = 0) && decide (a = 0) && decide (b = 0)) := by
      rw [Bool.eq_iff_iff]
      simp [leafN, and_assoc]
    rw [hd, e, Bool.true_and]
    clear e
    by_cases q1 : d = 0
    · by_cases q2 : f = 0
      · by_cases q3 : a = 0
        · by_cases q4 : b = 0
          · subst q1 q2 q3 q4
            go_enter Try.func51, Try.ntmps51
            go_wp2_with fail
            go_region_with (go_at_call 41; refine (HA.out _).mono ?_; rintro e w2 ⟨rfl, hb⟩; have hb0 := HB.out.drew.trans (hb.mono (by simp)); obtain ⟨n0, n1, n2, n3, n4⟩ := (NB.below (Held.drew HN.out) hb (by simp)).cells; dsimp only at n0 n1 n2 n3 n4; unfold nv leafN; dsimp only)
            all_goals
              go_wp2_with fail
              go_ret
              exact ⟨by apply ret_b; simp [*], by first | exact hb0 | exact hb0.drew⟩
          · subst q1 q2 q3
            have q5 : (b == 0) = false := by simpa using q4
            go_enter Try.func51, Try.ntmps51
            go_wp2_with fail
            go_region_with (go_at_call 41; refine (HA.out _).mono ?_; rintro e w2 ⟨rfl, hb⟩; have hb0 := HB.out.drew.trans (hb.mono (by simp)); obtain ⟨n0, n1, n2, n3, n4⟩ := (NB.below (Held.drew HN.out) hb (by simp)).cells; dsimp only at n0 n1 n2 n3 n4; unfold nv leafN; dsimp only)
            all_goals
              go_wp2_with fail
              go_ret
              exact ⟨by apply ret_b; simp [*], by first | exact hb0 | exact hb0.drew⟩
        · subst q1 q2
          have q5 : (a == 0) = false := by simpa using q3
          go_enter Try.func51, Try.ntmps51
          go_wp2_with fail
          go_region_with (go_at_call 41; refine (HA.out _).mono ?_; rintro e w2 ⟨rfl, hb⟩; have hb0 := HB.out.drew.trans (hb.mono (by simp)); obtain ⟨n0, n1, n2, n3, n4⟩ := (NB.below (Held.drew HN.out) hb (by simp)).cells; dsimp only at n0 n1 n2 n3 n4; unfold nv leafN; dsimp only)
          all_goals
            go_wp2_with fail
            go_ret
            exact ⟨by apply ret_b; simp [*], by first | exact hb0 | exact hb0.drew⟩
      · subst q1
        have q5 : (f == 0) = false := by simpa using q2
        go_enter Try.func51, Try.ntmps51
        go_wp2_with fail
        go_region_with (go_at_call 41; refine (HA.out _).mono ?_; rintro e w2 ⟨rfl, hb⟩; have hb0 := HB.out.drew.trans (hb.mono (by simp)); obtain ⟨n0, n1, n2, n3, n4⟩ := (NB.below (Held.drew HN.out) hb (by simp)).cells; dsimp only at n0 n1 n2 n3 n4; unfold nv leafN; dsimp only)
        all_goals
          go_wp2_with fail
          go_ret
          exact ⟨by apply ret_b; simp [*], by first | exact hb0 | exact hb0.drew⟩
    · have q5 : (d == 0) = false := by simpa using q1
      go_enter Try.func51, Try.ntmps51
      go_wp2_with fail
      go_region_with (go_at_call 41; refine (HA.out _).mono ?_; rintro e w2 ⟨rfl, hb⟩; have hb0 := HB.out.drew.trans (hb.mono (by simp)); obtain ⟨n0, n1, n2, n3, n4⟩ := (NB.below (Held.drew HN.out) hb (by simp)).cells; dsimp only at n0 n1 n2 n3 n4; unfold nv leafN; dsimp only)
      all_goals
        go_wp2_with fail
        go_ret
        exact ⟨by apply ret_b; simp [*], by first | exact hb0 | exact hb0.drew⟩
  · have hd : decide (0 < p) = false := by simpa using hp
    rw [hd, Bool.false_and]
    go_enter Try.func51, Try.ntmps51
    go_wp2_with fail
    go_quiet (fail)
    go_wp2_with fail
    go_ret
    exact ⟨rfl, below_drewN HB.out _⟩

set_option maxHeartbeats 1000000 in
theorem isFork_any (n : N) (w : World) : Calls Try.prog 52 #[nv n] w (New (.bool (isForkF n)) w) := by
  obtain ⟨p, d, f, a, b⟩ := n
  unfold nv isForkF
  dsimp only
  go_enter Try.func52, Try.ntmps52
  go_wp2_with fail
  all_goals
    go_ret
    exact ⟨by first | rfl | (apply ret_b; simp [*] <;> omega), (Below.refl _ _).alloc (Nat.le_refl _) _⟩

def endF : Nat → List N → Nat → Option Nat
  | 0, _, _ => none
  | k + 1, l, i =>
    match l[i]? with
    | none => none
    | some n =>
      if isLeafF n = true then some (i + 1)
      else if isForkF n = true ∧ n.a = ((i + 1 : Nat) : Int) then
        match endF k l (i + 1) with
        | none => none
        | some e => if n.b = (e : Int) then endF k l e else none
      else none
theorem endF_gt {k : Nat} {l : List N} {i e : Nat} (h : endF k l i = some e) : i < e ∧ e ≤ l.length := by
  induction k generalizing i e with
  | zero => cases h
  | succ k ih =>
    unfold endF at h
    cases hl : l[i]? with
    | none => simp [hl] at h
    | some n =>
      have := (List.getElem?_eq_some_iff.1 hl).1
      simp only [hl] at h
      split at h
      · cases h; omega
      · split at h
        · cases h1 : endF k l (i + 1) with
          | none => simp [h1] at h
          | some e1 =>
            simp only [h1] at h
            split at h
            · have a1 := ih h1
              have a2 := ih h
              omega
            · cases h
        · cases h
def endV (o : Option Nat) : Value := .tuple #[.int .i64 (o.getD 0 : Nat), .bool o.isSome]
end Go.Proofs.Ytojgmofpgefonaa
