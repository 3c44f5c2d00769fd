/-
  What digits of the statements' package makes of a number: its digits. Conditions: the number is from nought to a million and some.
-/
import Derived.Test.YtgpjphecgcfikaaDigs
namespace Go.Proofs.Ytgpjphecgcfikaa
open Go.RowKit

def oneB (d : Int) : ByteArray := ⟨#[UInt8.ofNat d.toNat]⟩
theorem bytesOf_one (d : Int) (h0 : 0 ≤ d) (h1 : d ≤ 255) : bytesOf (oneB d) = [d] := by
  simp only [bytesOf, oneB, List.map_cons, List.map_nil, UInt8.toNat_ofNat']
  congr 1
  omega
theorem conv_one (w : World) (d : Int) : (convert 36 9 (.slice (some ⟨w.heap.size, 0, none⟩) 1 1)).run Try.prog (w.alloc (.cells #[.int .u8 d] 5)) = .ok (.string (oneB d)) (w.alloc (.cells #[.int .u8 d] 5)) := by
  rw [run_convert_bytes_string _ 36 9 5 _ _ _ Try.underlying36 Try.underlying5 Try.underlying9]
  have h := run_bytesToString (P := Try.prog) (w.alloc (.cells #[.int .u8 d] 5)) ⟨w.heap.size, 0, none⟩ 1 1 [d] (by
    rw [run_loadCells (P := Try.prog) (w.alloc (.cells #[.int .u8 d] 5)) ⟨w.heap.size, 0, none⟩ 1 (fun _ => .int .u8 d) (fun j hj => by
      have hj0 : j = 0 := by omega
      subst hj0
      exact (World.cell?_alloc_mark w #[.int .u8 d] 5 (0, 0) 0).trans rfl)]
    rfl)
  exact h
theorem dig_step (k m : Nat) (b : ByteArray) (h : digs k = digs m ++ bytesOf b) : 0 < (oneB (48 + (m : Int) % 10) ++ b).size ∧ ((0 < m / 10 ∧ digs k = digs (m / 10) ++ bytesOf (oneB (48 + (m : Int) % 10) ++ b)) ∨ (m / 10 = 0 ∧ digs k = bytesOf (oneB (48 + (m : Int) % 10) ++ b))) := by
  have hs : 0 < (oneB (48 + (m : Int) % 10) ++ b).size := by
    rw [ByteArray.size_append]
    have : (oneB (48 + (m : Int) % 10)).size = 1 := rfl
    omega
  refine ⟨hs, ?_⟩
  rw [bytesOf_app, bytesOf_one _ (by omega) (by omega)]
  by_cases h10 : m < 10
  · refine .inr ⟨by omega, ?_⟩
    rw [h, digs_low m h10, show (m : Int) % 10 = (m : Int) by omega]
  · refine .inl ⟨by omega, ?_⟩
    rw [h, digs_high m (by omega), List.append_assoc]
    congr 2
/-- What is left is m, the digits so far are b. -/
def DigRel (w : World) (k : Nat) (nv sv : Value) (wr : World) : Prop := ∃ (m : Nat) (b : ByteArray), nv = .int .i64 m ∧ sv = .string b ∧ m ≤ k ∧ Below w.heap.size w wr ∧
  ((b = ⟨#[]⟩ ∧ m = k) ∨ (0 < b.size ∧ ((0 < m ∧ digs k = digs m ++ bytesOf b) ∨ (m = 0 ∧ digs k = bytesOf b))))
def digMeasure (nv sv : Value) : Nat := (intOf nv).toNat * 2 + (match sv with | .string b => if b.size = 0 then 1 else 0 | _ => 0)
def DigitsPost (w : World) (k : Nat) (x : Ending) (w' : World) : Prop := ∃ b, x = .returned (.string b) ∧ bytesOf b = digs k ∧ Below w.heap.size w w'

set_option maxHeartbeats 1000000 in
theorem digits_any (k : Nat) (hk : k ≤ 1048575) (w : World) : Calls Try.prog 14 #[.int .i64 k] w (DigitsPost w k) := by
  go_enter Try.func14, Try.ntmps14
  go_wp2_with fail
  go_loopw [0, 3] (DigRel w k) (fun n s _ => digMeasure n s)
  case atStart => exact ⟨k, ⟨#[]⟩, rfl, rfl, Nat.le_refl _, Below.refl _ _, .inl ⟨rfl, rfl⟩⟩
  case round =>
    obtain ⟨m, b, rfl, rfl, hmk, hbr, hcase⟩ := hrel
    by_cases hm : 0 < m
    · have hmi : (0 : Int) < (m : Int) := by omega
      have cv := conv_one wr (48 + (m : Int) % 10)
      have hd : Hid (digs k = digs m ++ bytesOf b) := by
        show digs k = digs m ++ bytesOf b
        rcases hcase with ⟨rfl, rfl⟩ | ⟨_, ⟨_, h⟩ | ⟨h0, _⟩⟩
        · simp [bytesOf]
        · exact h
        · omega
      clear hcase
      have hb7 : b.size ≤ 7 := by
        have h1 := digs_len k (by omega)
        rw [hd.out, List.length_append, bytesOf_len] at h1
        omega
      have h1s : (oneB (48 + (m : Int) % 10)).size = 1 := rfl
      go_wp2_with fail
      refine ⟨⟨m / 10, _, by push_cast; rfl, rfl, by omega, hbr.alloc hbr.size _, .inr (dig_step k m b hd.out)⟩, ?_⟩
      have h1 : ((intOf (.int .i64 ((m : Int) / 10))).toNat : Nat) = m / 10 := by simp [intOf]; omega
      have h2 : ((intOf (.int .i64 (m : Int))).toNat : Nat) = m := by simp [intOf]
      have h3 := (dig_step k m b hd.out).1
      unfold digMeasure
      rw [h1, h2]
      dsimp only
      rw [if_neg (by omega)]
      omega
    · have hm0 : m = 0 := by omega
      subst hm0
      rcases hcase with ⟨rfl, rfl⟩ | ⟨hbs, ⟨h0, _⟩ | ⟨_, hd⟩⟩
      · have cv := conv_one wr 48
        go_wp2_with fail
        have h3 := dig_step 0 0 ⟨#[]⟩ (by simp [bytesOf])
        have e : (48 + ((0 : Nat) : Int) % 10) = 48 := by decide
        rw [e] at h3
        exact ⟨⟨0, _, rfl, rfl, Nat.le_refl _, hbr.alloc hbr.size _, .inr h3⟩, by decide⟩
      · omega
      · have hne : ¬ b = ⟨#[]⟩ := fun he => by subst he; exact absurd hbs (by decide)
        have HD := Lib.hid hd
        clear hd
        have hemp : b.toList.isEmpty = false := by
          rw [← decide_eq_emptyBytes]
          exact decide_eq_false hne
        go_wp2_with fail
        go_ret
        exact ⟨b, rfl, HD.out.symm, hbr⟩
end Go.Proofs.Ytgpjphecgcfikaa
