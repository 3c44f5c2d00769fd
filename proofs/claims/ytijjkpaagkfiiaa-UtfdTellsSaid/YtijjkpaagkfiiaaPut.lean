/-
  What SameRunes does with two rows of the same runes; what Put does.
-/
import Derived.Test.YtijjkpaagkfiiaaStep
namespace Go.Proofs.Ytijjkpaagkfiiaa
open Go.RowKit

theorem runes_form {w : World} {B : Nat} {v : Value} {rs : List Int} (h : Runes w B v rs) : ∃ A c, v = .slice A rs.length c := by
  rcases h.2 with ⟨rfl, h0⟩ | ⟨g, cap, cur, rfl, _⟩
  · exact ⟨none, 0, by rw [h0]⟩
  · exact ⟨_, _, rfl⟩

theorem run_runes {P : Program} {w : World} {B : Nat} {v : Value} {rs : List Int} (h : Runes w B v rs) {src dst : TypeId}
    (hs : P.underlying src = some (.slice 21)) (he : P.underlying 21 = some (.int .i32)) (hd : P.underlying dst = some .string) :
    (convert src dst v).run P w = .ok (.string (runesBytes rs)) w := by
  rcases h.2 with ⟨rfl, h0⟩ | ⟨g, cap, cur, rfl, _⟩
  · have hr : rs = [] := List.eq_nil_of_length_eq_zero h0
    subst hr
    exact run_convert_runes_nil w src dst 21 0 0 hs he hd
  · have := run_convert_runes (P := P) w src dst 21 ⟨g, 0, none⟩ rs.length cap rs (Nat.le_refl _) hs he hd (fun j hj => by
      refine h.cells rfl j _ ?_
      simp [i32s, List.getElem?_eq_getElem hj])
    rwa [List.take_length] at this

set_option maxHeartbeats 400000 in
theorem same_any (va vb : Value) (rs : List Int) (B B' : Nat) (w : World) (ha : Runes w B va rs) (hb : Runes w B' vb rs) :
    Calls Try.prog 10 #[va, vb] w fun e w' => e = .returned (.bool true) ∧ w = w' := by
  have ca := run_runes (P := Try.prog) ha (src := 26) (dst := 9) Try.underlying26 Try.underlying21 Try.underlying9
  have cb := run_runes (P := Try.prog) hb (src := 26) (dst := 9) Try.underlying26 Try.underlying21 Try.underlying9
  obtain ⟨A, c, rfl⟩ := runes_form ha
  obtain ⟨A', c', rfl⟩ := runes_form hb
  clear ha hb
  go_enter Try.func10, Try.ntmps10
  go_wp2
  go_ret
  exact ⟨rfl, rfl⟩

def u8s (bs : List Int) : List Value := bs.map (Value.int .u8)
theorem u8s_one (bs : List Int) : ∀ y ∈ u8s bs, y.oneCell' = true := by
  intro y hy
  simp only [u8s, List.mem_map] at hy
  obtain ⟨r, _, rfl⟩ := hy
  rfl
/-- A slice value v whose elements are the bytes bs, in memory at or above block B. -/
def Bytes (w : World) (B : Nat) (v : Value) (bs : List Int) : Prop := w.ownsRow B 5 1 v bs.length (u8s bs)

def PutPost (w : World) (bs : List Int) (e : Ending) (w' : World) : Prop := ∃ v, e = .returned v ∧ Bytes w' w.heap.size v bs ∧ Below w.heap.size w w'

/-- What an append of a literal row onto nil leaves. -/
theorem put_close (w : World) (bs : List Int) (n : Nat) (hn : bs.length = n) (h0 : 0 < n) (h4 : n ≤ 4) :
    PutPost w bs (.returned (.slice (some ⟨w.heap.size + 1, 0, none⟩) n ((Question.appendCap n 0 5).cut (w.tape w.drawn (Question.appendCap n 0 5)))))
      ((w.alloc (.cells (u8s bs).toArray 5)).alloc (.cells ((u8s bs).toArray ++ Builtin.zeroCells #[.int .u8 0] ((Question.appendCap n 0 5).cut (w.tape w.drawn (Question.appendCap n 0 5)) - n)) 5)).drew := by
  have hge : n ≤ (Question.appendCap n 0 5).cut (w.tape w.drawn (Question.appendCap n 0 5)) := grownCap_ge w n 0 5
  have hle : (Question.appendCap n 0 5).cut (w.tape w.drawn (Question.appendCap n 0 5)) ≤ maxLen := grownCap_le_maxLen w n 0 5 (by simp only [maxLen]; omega)
  generalize (Question.appendCap n 0 5).cut (w.tape w.drawn (Question.appendCap n 0 5)) = cap at *
  subst hn
  refine ⟨_, rfl, ⟨by simp [u8s], .inr ⟨w.heap.size + 1, cap, (u8s bs).toArray ++ Builtin.zeroCells #[.int .u8 0] (cap - bs.length), rfl, by omega, ?_, hge, hle, ?_, ?_⟩⟩, ?_⟩
  · have := heap_alloc_new (w.alloc (.cells (u8s bs).toArray 5)) (.cells ((u8s bs).toArray ++ Builtin.zeroCells #[.int .u8 0] (cap - bs.length)) 5)
    rw [World.size_alloc] at this
    exact this
  · simp only [Array.size_append, List.size_toArray, size_zeroCells, u8s, List.length_map]
    simp
    omega
  · rw [Array.toList_append, show bs.length * 1 = (u8s bs).length by simp [u8s]]
    exact List.take_left
  · exact (below_alloc2 w _ _).drew

set_option maxHeartbeats 400000 in
theorem non_2 (r : Int) (w : World) (h0 : 128 ≤ r) (h1 : r ≤ 2047) : Calls Try.prog 23 #[.slice none 0 0, .int .i32 r] w (PutPost w [192 + r / 64, 128 + r % 64]) := by
  go_enter Try.func23, Try.ntmps23
  go_wp2_with fail
  go_ret
  exact put_close w _ _ rfl (by simp) (by simp)

set_option maxHeartbeats 400000 in
theorem non_3 (r : Int) (w : World) (h0 : 2048 ≤ r) (h1 : r ≤ 65535) (h2 : r < 55296 ∨ 57343 < r) : Calls Try.prog 23 #[.slice none 0 0, .int .i32 r] w (PutPost w [224 + r / 4096, 128 + r / 64 % 64, 128 + r % 64]) := by
  rcases h2 with h2 | h2
  · go_enter Try.func23, Try.ntmps23
    go_wp2_with fail
    go_ret
    exact put_close w _ _ rfl (by simp) (by simp)
  · go_enter Try.func23, Try.ntmps23
    go_wp2_with fail
    go_ret
    exact put_close w _ _ rfl (by simp) (by simp)

set_option maxHeartbeats 400000 in
theorem non_4 (r : Int) (w : World) (h0 : 65536 ≤ r) (h1 : r ≤ 1114111) : Calls Try.prog 23 #[.slice none 0 0, .int .i32 r] w (PutPost w [240 + r / 262144, 128 + r / 4096 % 64, 128 + r / 64 % 64, 128 + r % 64]) := by
  go_enter Try.func23, Try.ntmps23
  go_wp2_with fail
  go_ret
  exact put_close w _ _ rfl (by simp) (by simp)

set_option maxHeartbeats 400000 in
theorem non_bad (r : Int) (w : World) (h0 : -2147483648 ≤ r) (h1 : r ≤ 2147483647) (h : r < 0 ∨ 1114111 < r ∨ (55296 ≤ r ∧ r ≤ 57343)) : Calls Try.prog 23 #[.slice none 0 0, .int .i32 r] w (PutPost w [239, 191, 189]) := by
  rcases h with h | h | h
  · go_enter Try.func23, Try.ntmps23
    go_wp2_with fail
    go_ret
    exact put_close w _ _ rfl (by simp) (by simp)
  · go_enter Try.func23, Try.ntmps23
    go_wp2_with fail
    go_ret
    exact put_close w _ _ rfl (by simp) (by simp)
  · obtain ⟨h, h'⟩ := h
    go_enter Try.func23, Try.ntmps23
    go_wp2_with fail
    go_ret
    exact put_close w _ _ rfl (by simp) (by simp)
end Go.Proofs.Ytijjkpaagkfiiaa
