/-
  What Insert and Delete of package rows answer. Conditions: a row of at most a thousand cells that is no longer than its room.
-/
import Derived.Test.YtpcpmeihebgncaaClear
import Derived.StillTailTactics
import Derived.Deep.RegionLaw
namespace Go.Proofs.Ytpcpmeihebgncaa
open Go.RowKit
set_option maxRecDepth 100000

set_option maxHeartbeats 1000000 in
theorem insert_yes (D : Option Addr) (cp : Nat) (l : List C) (x : Nat) (n : Int) (w : World) (hr : ReadC w D l) (hc : l.length ≤ cp) (hn : l.length ≤ 1000) (hx : x < l.length) :
    Calls Try.prog 108 #[.slice D l.length cp, .int .i64 x, .int .i64 n] w (RowPost w (insertN l x (withinF n (l.length - x)).toNat)) := by
  obtain ⟨b0, o0, rfl, _⟩ := hr x hx
  obtain ⟨k, hk⟩ : ∃ k : Nat, withinF n (l.length - x) = k := ⟨(withinF n (l.length - x)).toNat, by unfold withinF; omega⟩
  have hkl : x + k ≤ l.length := by have : withinF n (l.length - x) ≤ l.length - x := by unfold withinF; omega
                                    omega
  have hK : Hid (∀ w, Calls Try.prog 140 #[.int .i64 n, .int .i64 (l.length - x)] w fun e w' => e = .returned (.int .i64 k) ∧ w = w') := fun w => by rw [← hk]; exact within_any n _ w
  have hB := Lib.hid (fun w => blanks_any l.length w hn)
  rw [hk, Int.toNat_natCast]
  clear hk
  have HR := Lib.hid hr
  clear hr
  have HL : Hid ((insertN l x k).length = l.length) := insertN_len l x k hkl
  have hxi : (x : Int) < (l.length : Int) := by omega
  have hcx : ¬ cp = x := by omega
  go_enter Try.func108, Try.ntmps108
  go_wp2_with (first
    | (go_at_call 98; refine (place_yes _ _ _ _ _ (by omega) hxi).mono ?_; rintro e w' ⟨rfl, rfl⟩)
    | (go_at_call 139; refine (hB.out _).mono ?_; rintro e w1 ⟨g, rfl, hg, hrow, hb1⟩; have hq := blanksF_len l.length; have hr1 := HR.out.below hb1 (Nat.le_refl _))
    | (with_reducible refine wpList_copyC cellT rfl (.tmp 19) (.tmp 20) rfl _ _ _ _ _ _ rfl rfl g 0 _ l hrow hr1 rfl (fun _ _ => rfl) (by omega) w.heap.size w hb1 hg ?_
       intro w2 hg2 hb2))
  have s1 : IntKind.i64.wrap ((l.length : Int) - x) = (l.length : Int) - x := IntWalk.i64_in _ (by omega)
  have s2 : IntKind.i64.wrap ((x : Int) + k) = (x : Int) + k := IntWalk.i64_in _ (by omega)
  have t1 : (0 : Int) ≤ (x : Int) + k := by omega
  have t2 : ((x : Int) + k).toNat = x + k := by omega
  have t3 : (x : Int) + k ≤ (l.length : Int) := by omega
  have t4 : x ≤ l.length := by omega
  go_still_tail 13, (by kernel_rfl)
  still_call ((hK.out _).mono fun _ _ ⟨h1, h2⟩ => ⟨h1, h2.symm⟩)
  repeat still_step
  refine wpStill_nil ?_
  change wpList _ _ _ _ _ w2.drew
  have hr2 : ReadC w2.drew (some ⟨b0, o0 + x * 2, none⟩) (l.drop x) := by
    have := (HR.out.below hb2 (Nat.le_refl _)).cut (x := x) hc
    rw [if_neg hcx] at this
    exact this
  have hrow2 : Row w2.drew g (splice (blanksF l.length) 0 (l.take x)) := hg2.out
  have hb3 : Below w.heap.size w w2.drew := below_drewN hb2 1
  have hsl : (splice (blanksF l.length) 0 (l.take x)).length = l.length := by rw [length_splice _ _ _ (by rw [blanksF_len, List.length_take]; omega), blanksF_len]
  have hdl : (l.drop x).length = l.length - x := by simp
  have hE : 0 < l.length - (x + k) → (if l.length = x + k then some (⟨g, 0, none⟩ : Addr) else some ⟨g, (x + k) * 2, none⟩) = some ⟨g, (x + k) * 2, none⟩ := fun h => by rw [if_neg (by omega)]
  generalize (if l.length = x + k then some (⟨g, 0, none⟩ : Addr) else some ⟨g, (x + k) * 2, none⟩) = E at hE ⊢
  generalize w2.drew = w3 at *
  with_reducible refine wpList_copyC cellT rfl (.tmp 31) (.tmp 34) rfl _ _ _ _ _ _ rfl rfl g (x + k) _ (l.drop x) hrow2 hr2 hdl.symm (fun h _ => hE h) (by rw [hsl]; omega) w.heap.size w hb3 hg ?_
  intro w4 hg4 hb4
  go_wp2
  go_ret
  refine ⟨g, ?_, hg, hg4.out, hb4⟩
  rw [HL.out]
  rfl
set_option maxHeartbeats 1000000 in
theorem delete_yes (D : Option Addr) (cp : Nat) (l : List C) (x : Nat) (n : Int) (w : World) (hr : ReadC w D l) (hc : l.length ≤ cp) (hn : l.length ≤ 1000) (hx : x < l.length) :
    Calls Try.prog 110 #[.slice D l.length cp, .int .i64 x, .int .i64 n] w (RowPost w (deleteN l x (withinF n (l.length - x)).toNat)) := by
  obtain ⟨b0, o0, rfl, _⟩ := hr x hx
  obtain ⟨k, hk⟩ : ∃ k : Nat, withinF n (l.length - x) = k := ⟨(withinF n (l.length - x)).toNat, by unfold withinF; omega⟩
  have hkl : x + k ≤ l.length := by have : withinF n (l.length - x) ≤ l.length - x := by unfold withinF; omega
                                    omega
  have hK : Hid (∀ w, Calls Try.prog 140 #[.int .i64 n, .int .i64 (l.length - x)] w fun e w' => e = .returned (.int .i64 k) ∧ w = w') := fun w => by rw [← hk]; exact within_any n _ w
  have hB := Lib.hid (fun w => blanks_any l.length w hn)
  rw [hk, Int.toNat_natCast]
  clear hk
  have HR := Lib.hid hr
  clear hr
  have HL : Hid ((deleteN l x k).length = l.length) := deleteN_len l x k hkl
  have hxi : (x : Int) < (l.length : Int) := by omega
  have hcx : ¬ l.length = x := by omega
  go_enter Try.func110, Try.ntmps110
  go_wp2_with (first
    | (go_at_call 98; refine (place_yes _ _ _ _ _ (by omega) hxi).mono ?_; rintro e w' ⟨rfl, rfl⟩)
    | (go_at_call 139; refine (hB.out _).mono ?_; rintro e w1 ⟨g, rfl, hg, hrow, hb1⟩; have hq := blanksF_len l.length; have hr1 := HR.out.below hb1 (Nat.le_refl _))
    | (with_reducible refine wpList_copyC cellT rfl (.tmp 19) (.tmp 20) rfl _ _ _ _ _ _ rfl rfl g 0 _ l hrow hr1 rfl (fun _ _ => rfl) (by omega) w.heap.size w hb1 hg ?_
       intro w2 hg2 hb2))
  have s1 : IntKind.i64.wrap ((l.length : Int) - x) = (l.length : Int) - x := IntWalk.i64_in _ (by omega)
  have s2 : IntKind.i64.wrap ((x : Int) + k) = (x : Int) + k := IntWalk.i64_in _ (by omega)
  have t1 : (0 : Int) ≤ (x : Int) + k := by omega
  have t2 : ((x : Int) + k).toNat = x + k := by omega
  have t3 : (x : Int) + k ≤ (l.length : Int) := by omega
  have t4 : x ≤ l.length := by omega
  have t5 : x + k ≤ l.length := by omega
  go_still_tail 13, (by kernel_rfl)
  still_call ((hK.out _).mono fun _ _ ⟨h1, h2⟩ => ⟨h1, h2.symm⟩)
  repeat still_step
  refine wpStill_nil ?_
  change wpList _ _ _ _ _ w2.drew
  have hr2 : ReadC w2.drew (if cp = x + k then some ⟨b0, o0, none⟩ else some ⟨b0, o0 + (x + k) * 2, none⟩) (l.drop (x + k)) := (HR.out.below hb2 (Nat.le_refl _)).cut (x := x + k) hc
  have hrow2 : Row w2.drew g (splice (blanksF l.length) 0 (l.take x)) := hg2.out
  have hb3 : Below w.heap.size w w2.drew := below_drewN hb2 1
  have hsl : (splice (blanksF l.length) 0 (l.take x)).length = l.length := by rw [length_splice _ _ _ (by rw [blanksF_len, List.length_take]; omega), blanksF_len]
  have hdl : (l.drop (x + k)).length = l.length - (x + k) := by simp
  generalize (if cp = x + k then some (⟨b0, o0, none⟩ : Addr) else some ⟨b0, o0 + (x + k) * 2, none⟩) = E at hr2 ⊢
  generalize w2.drew = w3 at *
  with_reducible refine wpList_copyC cellT rfl (.tmp 24) (.tmp 34) rfl _ _ _ _ _ _ rfl rfl g x _ (l.drop (x + k)) hrow2 hr2 hdl.symm (fun h _ => rfl) (by rw [hsl]; omega) w.heap.size w hb3 hg ?_
  intro w4 hg4 hb4
  go_wp2
  go_ret
  refine ⟨g, ?_, hg, hg4.out, hb4⟩
  rw [HL.out]
  rfl

set_option maxHeartbeats 400000 in
theorem insert_any (D : Option Addr) (cp : Nat) (l : List C) (x n : Int) (w : World) (hr : ReadC w D l) (hc : l.length ≤ cp) (hn : l.length ≤ 1000) :
    Calls Try.prog 108 #[.slice D l.length cp, .int .i64 x, .int .i64 n] w (RowPost w (insertF l x n)) := by
  by_cases hp : 0 ≤ x ∧ x < l.length
  · obtain ⟨k, rfl⟩ : ∃ k : Nat, x = k := ⟨x.toNat, by omega⟩
    have e : insertF l k n = insertN l k (withinF n (l.length - k)).toNat := by unfold insertF; rw [if_pos (place_iff.2 hp)]; rfl
    rw [e]
    exact insert_yes D cp l k n w hr hc hn (by omega)
  · have e : insertF l x n = l := by unfold insertF; rw [if_neg (fun h => hp (place_iff.1 h))]
    rw [e]
    have hO := Lib.hid (rown_any D cp l w hr hn)
    have HP := Lib.hid (fun w => place_no D l.length cp x w hp)
    clear hp e hr
    go_enter Try.func108, Try.ntmps108
    go_wp2_with (first
      | (go_at_call 98; refine (HP.out _).mono ?_; rintro e w' ⟨rfl, rfl⟩)
      | (go_at_call 97; refine hO.out.mono ?_; rintro e w1 ⟨g, rfl, hg, hrow, hb⟩))
    go_ret
    exact ⟨g, rfl, hg, hrow, hb⟩
set_option maxHeartbeats 400000 in
theorem delete_any (D : Option Addr) (cp : Nat) (l : List C) (x n : Int) (w : World) (hr : ReadC w D l) (hc : l.length ≤ cp) (hn : l.length ≤ 1000) :
    Calls Try.prog 110 #[.slice D l.length cp, .int .i64 x, .int .i64 n] w (RowPost w (deleteF l x n)) := by
  by_cases hp : 0 ≤ x ∧ x < l.length
  · obtain ⟨k, rfl⟩ : ∃ k : Nat, x = k := ⟨x.toNat, by omega⟩
    have e : deleteF l k n = deleteN l k (withinF n (l.length - k)).toNat := by unfold deleteF; rw [if_pos (place_iff.2 hp)]; rfl
    rw [e]
    exact delete_yes D cp l k n w hr hc hn (by omega)
  · have e : deleteF l x n = l := by unfold deleteF; rw [if_neg (fun h => hp (place_iff.1 h))]
    rw [e]
    have hO := Lib.hid (rown_any D cp l w hr hn)
    have HP := Lib.hid (fun w => place_no D l.length cp x w hp)
    clear hp e hr
    go_enter Try.func110, Try.ntmps110
    go_wp2_with (first
      | (go_at_call 98; refine (HP.out _).mono ?_; rintro e w' ⟨rfl, rfl⟩)
      | (go_at_call 97; refine hO.out.mono ?_; rintro e w1 ⟨g, rfl, hg, hrow, hb⟩))
    go_ret
    exact ⟨g, rfl, hg, hrow, hb⟩
end Go.Proofs.Ytpcpmeihebgncaa
