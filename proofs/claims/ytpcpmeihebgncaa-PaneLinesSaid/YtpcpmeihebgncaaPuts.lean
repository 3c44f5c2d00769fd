/-
  What own, isPlace and Put of package rows answer. Conditions: a row has at most a thousand cells.
-/
import Derived.Test.YtpcpmeihebgncaaFill
namespace Go.Proofs.Ytpcpmeihebgncaa
open Go.RowKit
set_option maxRecDepth 100000

set_option maxHeartbeats 400000 in
theorem place_yes (D : Option Addr) (n c : Nat) (x : Int) (w : World) (h0 : 0 ≤ x) (h1 : x < n) : Calls Try.prog 98 #[.slice D n c, .int .i64 x] w fun e w' => e = .returned (.bool true) ∧ w = w' := by
  go_enter Try.func98, Try.ntmps98
  go_wp2
  go_ret
  exact ⟨rfl, rfl⟩
set_option maxHeartbeats 400000 in
theorem place_no (D : Option Addr) (n c : Nat) (x : Int) (w : World) (h0 : ¬ (0 ≤ x ∧ x < n)) : Calls Try.prog 98 #[.slice D n c, .int .i64 x] w fun e w' => e = .returned (.bool false) ∧ w = w' := by
  by_cases h1 : 0 ≤ x
  · have h2 : ¬ x < n := fun h => h0 ⟨h1, h⟩
    clear h0
    go_enter Try.func98, Try.ntmps98
    go_wp2
    go_ret
    exact ⟨rfl, rfl⟩
  · clear h0
    go_enter Try.func98, Try.ntmps98
    go_wp2
    go_ret
    exact ⟨rfl, rfl⟩
set_option maxHeartbeats 400000 in
theorem rown_any (D : Option Addr) (c : Nat) (l : List C) (w : World) (hr : ReadC w D l) (hn : l.length ≤ 1000) : Calls Try.prog 97 #[.slice D l.length c] w (RowPost w l) := by
  have hm := run_makeC w l.length (by omega)
  have hR : Row (w.alloc (.cells (cvs (zeros l.length)).toArray 48)) w.heap.size (zeros l.length) := Held.new _ _ _
  have hr1 := hr.alloc (.cells (cvs (zeros l.length)).toArray 48)
  have hb1 : Below w.heap.size w (w.alloc (.cells (cvs (zeros l.length)).toArray 48)) := (Below.refl _ _).alloc (Nat.le_refl _) _
  have hz : (zeros l.length).length = l.length := by simp [zeros]
  have HZ := Lib.hid hz
  clear hz
  go_enter Try.func97, Try.ntmps97
  go_wp2_with (
    with_reducible refine wpList_copyC cellT rfl (.tmp 7) (.tmp 8) rfl _ _ _ _ _ _ rfl rfl w.heap.size 0 (zeros l.length) l hR hr1 rfl (fun _ _ => rfl) (by rw [HZ.out]; omega) w.heap.size w hb1 (Nat.le_refl _) ?_
    intro w2 hg2 hb2)
  go_ret
  refine ⟨w.heap.size, rfl, Nat.le_refl _, ?_, hb2⟩
  have e : splice (zeros l.length) 0 (l.take l.length) = l := by simp [splice, zeros]
  rw [← e]
  exact hg2.out
set_option maxHeartbeats 400000 in
theorem put_any (D : Option Addr) (cp : Nat) (l : List C) (x : Int) (c : C) (w : World) (hr : ReadC w D l) (hn : l.length ≤ 1000) : Calls Try.prog 53 #[.slice D l.length cp, .int .i64 x, .agg #[.int .i32 c.r, .int .i64 c.a]] w (RowPost w (putF l x c)) := by
  have hO := Lib.hid (fun w hr => rown_any D cp l w hr hn)
  have HR := Lib.hid hr
  clear hr
  by_cases hp : 0 ≤ x ∧ x < l.length
  · obtain ⟨h0, h1⟩ := hp
    have e : putF l x c = l.set x.toNat c := by unfold putF; rw [if_pos (place_iff.2 ⟨h0, h1⟩)]
    rw [e]
    clear e
    obtain ⟨k, rfl⟩ : ∃ k : Nat, x = k := ⟨x.toNat, by omega⟩
    have hk : k < l.length := by omega
    rw [Int.toNat_natCast]
    go_enter Try.func53, Try.ntmps53
    go_wp2_with (first
      | (go_at_call 97
         refine (hO.out _ (HR.out.alloc _)).mono ?_
         rintro e w1 ⟨g, rfl, hg, hrow, hb⟩
         have hbox := (Held.new w 48 #[.int .i32 c.r, .int .i64 c.a]).below hb (by simp)
         have hx0 := hbox.cell 0
         have hx1 := hbox.cell 1
         obtain ⟨c0, c1⟩ := hrow.cells k hk
         have cf := hrow.frozen)
      | (go_at_call 98; refine (place_yes _ _ _ _ _ h0 h1).mono ?_; rintro e w' ⟨rfl, rfl⟩))
    go_ret
    refine ⟨g, ?_, by have := hg; simp at this; omega, hrow.set k c, below_set2 (((Below.refl _ _).alloc (Nat.le_refl _) _).trans (hb.mono (by simp))) (by have := hg; simp at this; omega) _ _ _ _⟩
    rw [List.length_set]
    rfl
  · have e : putF l x c = l := by unfold putF; rw [if_neg (fun h => hp (place_iff.1 h))]
    rw [e]
    clear e
    have HP := Lib.hid (fun w => place_no D l.length cp x w hp)
    clear hp
    go_enter Try.func53, Try.ntmps53
    go_wp2_with (first
      | (go_at_call 97
         refine (hO.out _ (HR.out.alloc _)).mono ?_
         rintro e w1 ⟨g, rfl, hg, hrow, hb⟩)
      | (go_at_call 98; refine (HP.out _).mono ?_; rintro e w' ⟨rfl, rfl⟩))
    go_ret
    exact ⟨g, rfl, by have := hg; simp at this; omega, hrow, ((Below.refl _ _).alloc (Nat.le_refl _) _).trans (hb.mono (by simp))⟩
end Go.Proofs.Ytpcpmeihebgncaa
