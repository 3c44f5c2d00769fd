/-
  What Put does with any rune; that the small check 'awake' at the end of every statement of this seat answers true.
-/
import Derived.Test.YtijjkpaagkfiiaaPut
namespace Go.Proofs.Ytijjkpaagkfiiaa
open Go.RowKit

/-- A rune's bytes. -/
def putB (r : Int) : List Int :=
  if r < 0 ∨ 1114111 < r ∨ (55296 ≤ r ∧ r ≤ 57343) then [239, 191, 189] else if r ≤ 127 then [r] else if r ≤ 2047 then [192 + r / 64, 128 + r % 64]
  else if r ≤ 65535 then [224 + r / 4096, 128 + r / 64 % 64, 128 + r % 64] else [240 + r / 262144, 128 + r / 4096 % 64, 128 + r / 64 % 64, 128 + r % 64]

theorem non_any (r : Int) (w : World) (h0 : -2147483648 ≤ r) (h1 : r ≤ 2147483647) (h : r < 0 ∨ 128 ≤ r) : Calls Try.prog 23 #[.slice none 0 0, .int .i32 r] w (PutPost w (putB r)) := by
  by_cases c1 : r < 0 ∨ 1114111 < r ∨ (55296 ≤ r ∧ r ≤ 57343)
  · rw [show putB r = [239, 191, 189] by unfold putB; simp only [if_pos c1]]
    exact non_bad r w h0 h1 c1
  · by_cases c2 : r ≤ 2047
    · rw [show putB r = [192 + r / 64, 128 + r % 64] by unfold putB; simp only [if_neg c1, if_neg (show ¬ r ≤ 127 by omega), if_pos c2]]
      exact non_2 r w (by omega) (by omega)
    · by_cases c3 : r ≤ 65535
      · rw [show putB r = [224 + r / 4096, 128 + r / 64 % 64, 128 + r % 64] by unfold putB; simp only [if_neg c1, if_neg (show ¬ r ≤ 127 by omega), if_neg c2, if_pos c3]]
        exact non_3 r w (by omega) (by omega) (by omega)
      · rw [show putB r = [240 + r / 262144, 128 + r / 4096 % 64, 128 + r / 64 % 64, 128 + r % 64] by unfold putB; simp only [if_neg c1, if_neg (show ¬ r ≤ 127 by omega), if_neg c2, if_neg c3]]
        exact non_4 r w (by omega) (by omega)

set_option maxHeartbeats 400000 in
theorem apr_low (r : Int) (w : World) (h0 : 0 ≤ r) (h1 : r ≤ 127) : Calls Try.prog 21 #[.slice none 0 0, .int .i32 r] w (PutPost w [r]) := by
  go_enter Try.func21, Try.ntmps21
  go_wp2_with fail
  go_ret
  exact put_close w [r] _ rfl (by simp) (by simp)

set_option maxHeartbeats 400000 in
theorem apr_high (r : Int) (w : World) (h0 : -2147483648 ≤ r) (h1 : r ≤ 2147483647) (h : r < 0 ∨ 128 ≤ r) : Calls Try.prog 21 #[.slice none 0 0, .int .i32 r] w (PutPost w (putB r)) := by
  rcases h with h | h
  · have H := Lib.hid (fun w => non_any r w h0 h1 (.inl h))
    go_enter Try.func21, Try.ntmps21
    go_wp2_with (go_at_call 23; refine (H.out _).mono ?_; rintro e w1 ⟨v, rfl, hr, hb⟩)
    go_ret
    exact ⟨v, rfl, hr, hb⟩
  · have H := Lib.hid (fun w => non_any r w h0 h1 (.inr h))
    go_enter Try.func21, Try.ntmps21
    go_wp2_with (go_at_call 23; refine (H.out _).mono ?_; rintro e w1 ⟨v, rfl, hr, hb⟩)
    go_ret
    exact ⟨v, rfl, hr, hb⟩

theorem apr_any (r : Int) (w : World) (h0 : -2147483648 ≤ r) (h1 : r ≤ 2147483647) : Calls Try.prog 21 #[.slice none 0 0, .int .i32 r] w (PutPost w (putB r)) := by
  by_cases h : r < 0 ∨ 128 ≤ r
  · exact apr_high r w h0 h1 h
  · rw [show putB r = [r] by unfold putB; simp only [if_neg (show ¬ (r < 0 ∨ 1114111 < r ∨ (55296 ≤ r ∧ r ≤ 57343)) by omega), if_pos (show r ≤ 127 by omega)]]
    exact apr_low r w (by omega) (by omega)

set_option maxHeartbeats 400000 in
theorem put_any (r : Int) (w : World) (h0 : -2147483648 ≤ r) (h1 : r ≤ 2147483647) : Calls Try.prog 13 #[.int .i32 r] w (PutPost w (putB r)) := by
  go_enter Try.func13, Try.ntmps13
  go_wp2_with (go_at_call 21; refine (apr_any r _ h0 h1).mono ?_; rintro e w1 ⟨v, rfl, hr, hb⟩)
  go_ret
  exact ⟨v, rfl, hr, hb⟩

/-! ### bytes as a string -/
def bytesBA (bs : List Int) : ByteArray := bs.foldl (fun r n => r.push (UInt8.ofNat n.toNat)) ByteArray.empty
theorem bytes_form {w : World} {B : Nat} {v : Value} {rs : List Int} (h : Bytes w B v rs) : ∃ A c, v = .slice A rs.length c := by
  rcases h.2 with ⟨rfl, h0⟩ | ⟨g, cap, cur, rfl, _⟩
  · exact ⟨none, 0, by rw [h0]⟩
  · exact ⟨_, _, rfl⟩
theorem run_bytes {P : Program} {w : World} {B : Nat} {v : Value} {bs : List Int} (h : Bytes w B v bs) {src dst : TypeId}
    (hs : P.underlying src = some (.slice 5)) (he : P.underlying 5 = some (.int .u8)) (hd : P.underlying dst = some .string) :
    (convert src dst v).run P w = .ok (.string (bytesBA bs)) w := by
  rcases h.2 with ⟨rfl, h0⟩ | ⟨g, cap, cur, rfl, _⟩
  · have hr : bs = [] := List.eq_nil_of_length_eq_zero h0
    subst hr
    rw [run_convert_bytes_string w src dst 5 _ _ _ hs he hd]
    rfl
  · rw [run_convert_bytes_string w src dst 5 _ _ _ hs he hd]
    apply run_bytesToString
    rw [run_loadCells w ⟨g, 0, none⟩ bs.length (fun j => .int .u8 (bs.getD j 0)) (fun j hj => by
      refine h.cells rfl j _ ?_
      simp [u8s, List.getElem?_eq_getElem hj]), range_map_take (Value.int .u8) bs bs.length (Nat.le_refl _), List.take_length]

theorem step_c3 (w : World) : Calls Try.prog 7 #[.agg #[.int .i64 0, .int .i64 0, .int .i64 0], .int .u8 195] w (StepPost w 1 128 3 []) := step_fresh 0 0 0 195 w (by omega) (by omega) (by omega)
theorem step_a9 (w : World) : Calls Try.prog 7 #[.agg #[.int .i64 1, .int .i64 128, .int .i64 3], .int .u8 169] w (StepPost w 0 0 0 [233]) :=
  step_on 1 128 3 169 w (by omega) (by omega) (by omega) 0 0 0 [233] fun w => goOn_last 1 128 3 169 w (by omega) (by omega) (by omega) (by omega) (by omega)
theorem step_61 (w : World) : Calls Try.prog 7 #[.agg #[.int .i64 1, .int .i64 128, .int .i64 3], .int .u8 97] w (StepPost w 0 0 0 [65533, 97]) :=
  step_bad 1 128 3 97 w (by omega) (by omega) (by omega) (by omega) (by decide)
theorem end_c3 (w : World) : Calls Try.prog 8 #[.agg #[.int .i64 1, .int .i64 128, .int .i64 3]] w (EndPost w [65533]) := end_any 1 128 3 w
theorem put_neg (w : World) : Calls Try.prog 13 #[.int .i32 (-1)] w (PutPost w [239, 191, 189]) := put_any (-1) w (by omega) (by omega)

/-- Block g of world w is the cells cs. -/
def Held (w : World) (g : Nat) (t : TypeId) (cs : Array Value) : Prop := w.heap[g]? = some (.cells cs t (0, 0))
theorem Held.new (w : World) (t : TypeId) (cs : Array Value) : Held (w.alloc (.cells cs t)) w.heap.size t cs := heap_alloc_new w _
theorem Held.lt {w : World} {g : Nat} {t : TypeId} {cs : Array Value} (h : Held w g t cs) : g < w.heap.size := (Array.getElem?_eq_some_iff.1 h).1
theorem Held.below {w w' : World} {g B : Nat} {t : TypeId} {cs : Array Value} (h : Held w g t cs) (hb : Below B w w') (hg : g < B) : Held w' g t cs := (hb.block g hg).trans h
theorem Held.alloc {w : World} {g : Nat} {t : TypeId} {cs : Array Value} (h : Held w g t cs) (o : Obj) : Held (w.alloc o) g t cs := (Below.heap_alloc w o g h.lt).trans h
theorem Held.cell {w : World} {g : Nat} {t : TypeId} {cs : Array Value} (h : Held w g t cs) (o : Nat) : w.cell? ⟨g, o, none⟩ = cs[o]? := cell_of_row w g o cs t (0, 0) h
theorem Held.frozen {w : World} {g : Nat} {t : TypeId} {cs : Array Value} (h : Held w g t cs) (o : Nat) : w.frozen? ⟨g, o, none⟩ = false := frozen_of_row w g o cs t h

theorem runes_one' (w : World) (o : Obj) (B : Nat) (r : Int) (hB : B ≤ w.heap.size) : Runes ((w.alloc o).alloc (.cells #[.int .i32 r] 21)) B (.slice (some ⟨w.heap.size + 1, 0, none⟩) 1 1) [r] := by
  have := runes_one (w.alloc o) B r (by simp; omega)
  rwa [World.size_alloc] at this
theorem runes_two' (w : World) (o o' : Obj) (B : Nat) (r r' : Int) (hB : B ≤ w.heap.size) : Runes (((w.alloc o).alloc o').alloc (.cells #[.int .i32 r, .int .i32 r'] 21)) B (.slice (some ⟨w.heap.size + 1 + 1, 0, none⟩) 2 2) [r, r'] := by
  have := World.ownsRow_lit (base := B) (e := 21) (size := 1) ((w.alloc o).alloc o') #[.int .i32 r, .int .i32 r'] 2 (by simp; omega) (by simp [maxLen]) rfl
  rwa [World.size_alloc, World.size_alloc] at this

set_option maxHeartbeats 400000 in
theorem awake_any (w : World) : Calls Try.prog 9 #[] w fun e w' => e = .returned (.bool true) ∧ Below w.heap.size w w' := by
  go_enter Try.func9, Try.ntmps9
  go_wp2_with fail
  refine (step_c3 _).mono ?_
  rintro e w1 ⟨v1, rfl, hr1, hb1⟩
  obtain ⟨A1, c1, rfl⟩ := runes_form hr1
  clear hr1
  go_wp2_with fail
  refine (step_a9 _).mono ?_
  rintro e w2 ⟨v2, rfl, hr2, hb2⟩
  have H2 := (Held.new w1 25 #[.int .i64 1, .int .i64 128, .int .i64 3]).below hb2 (by simp)
  have hz2 := H2.lt
  have x0 := (H2.cell 0).trans rfl
  have x1 := (H2.cell 1).trans rfl
  have x2 := (H2.cell 2).trans rfl
  go_wp2_with fail
  refine (step_61 _).mono ?_
  rintro e w3 ⟨v3, rfl, hr3, hb3⟩
  have H3 := (H2.alloc _).below hb3 (by simp; omega)
  have J3 := (Held.new w2 25 #[.int .i64 0, .int .i64 0, .int .i64 0]).below hb3 (by simp)
  clear x0 x1 x2
  have hz3 := J3.lt
  have hz3' := H3.lt
  have x0 := (H3.cell 0).trans rfl
  have x1 := (H3.cell 1).trans rfl
  have x2 := (H3.cell 2).trans rfl
  have y0 := (J3.cell 0).trans rfl
  have y1 := (J3.cell 1).trans rfl
  have y2 := (J3.cell 2).trans rfl
  go_wp2_with fail
  have hr2' : Runes w3 0 v2 [233] := own_base (own_below (World.ownsRow.alloc hr2 _) hb3 (Nat.le_refl _)) (Nat.zero_le _)
  refine (same_any _ _ [233] 0 0 _ (World.ownsRow.alloc (World.ownsRow.alloc hr2' _) _) (runes_one' _ _ _ _ (Nat.zero_le _))).mono ?_
  rintro e w' ⟨rfl, rfl⟩
  go_wp2_with fail
  have hr3' : Runes w3 0 v3 [65533, 97] := own_base hr3 (Nat.zero_le _)
  refine (same_any _ _ [65533, 97] 0 0 _ (World.ownsRow.alloc (World.ownsRow.alloc (World.ownsRow.alloc hr3' _) _) _) (runes_two' _ _ _ _ _ _ (Nat.zero_le _))).mono ?_
  rintro e w' ⟨rfl, rfl⟩
  have hy1 : w1.heap.size < w3.heap.size + 1 := by omega
  have hy2 : w1.heap.size < w3.heap.size + 1 + 1 := by omega
  go_wp2_with fail
  refine (end_c3 _).mono ?_
  rintro e w4 ⟨v4, rfl, hr4, hb4⟩
  go_wp2_with fail
  refine (same_any _ _ [65533] 0 0 _ (World.ownsRow.alloc (own_base hr4 (Nat.zero_le _)) _) (runes_one _ _ _ (Nat.zero_le _))).mono ?_
  rintro e w' ⟨rfl, rfl⟩
  go_wp2_with fail
  refine (put_neg _).mono ?_
  rintro e w5 ⟨v5, rfl, hr5, hb5⟩
  have c5 : (convert 32 9 v5).run Try.prog w5 = .ok (.string ⟨#[239, 191, 189]⟩) w5 := run_bytes (P := Try.prog) hr5 Try.underlying32 Try.underlying5 Try.underlying9
  go_wp2
  go_ret
  refine ⟨rfl, ?_⟩
  have b3 : Below w.heap.size w w3 := (hb1.trans (((Below.refl _ _).alloc hb1.size _).trans (hb2.mono (by have := hb1.size; simp; omega)))).trans (((Below.refl _ _).alloc (by have := hb1.size; omega) _).trans (hb3.mono (by have := hb1.size; simp; omega)))
  have z3 := b3.size
  have b4 : Below w.heap.size w w4 := b3.trans (((below_alloc3 w3 _ _ _).mono z3).trans (hb4.mono (by simp; omega)))
  exact b4.trans ((((Below.refl _ _).alloc b4.size _)).trans (hb5.mono (by have := b4.size; simp; omega)))
end Go.Proofs.Ytijjkpaagkfiiaa
