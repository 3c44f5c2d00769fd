/-
  The table of EscaForms: what each of its rows of bytes comes to, and where its actions lie.
-/
import Derived.Test.YtgpjphecgcfikaaAwake
namespace Go.Proofs.Ytgpjphecgcfikaa
open Go.RowKit

theorem p_o (r : Int) (w : World) : Calls Try.prog 8 #[.int .i32 r] w fun x w' => x = .returned (.agg #[.int .i64 1, .int .i32 r, .slice none 0 0]) ∧ Below w.heap.size w w' := by
  go_enter Try.func8, Try.ntmps8
  go_wp2
  exact bodyPost_ret (v := .agg #[.int .i64 1, .int .i32 r, .slice none 0 0]) (by simp [results, Try.results8, go_sem]) rfl ⟨rfl, (Below.refl _ _).alloc (Nat.le_refl _) _⟩
theorem k_o (r : Int) (w : World) : Calls Try.prog 10 #[.int .i32 r] w fun x w' => x = .returned (.agg #[.int .i64 2, .int .i32 r, .slice none 0 0]) ∧ Below w.heap.size w w' := by
  go_enter Try.func10, Try.ntmps10
  go_wp2
  exact bodyPost_ret (v := .agg #[.int .i64 2, .int .i32 r, .slice none 0 0]) (by simp [results, Try.results10, go_sem]) rfl ⟨rfl, (Below.refl _ _).alloc (Nat.le_refl _) _⟩
theorem c_o (r : Int) (D : Option Addr) (n c : Nat) (w : World) : Calls Try.prog 9 #[.int .i32 r, .slice D n c] w fun x w' => x = .returned (.agg #[.int .i64 4, .int .i32 r, .slice D n c]) ∧ Below w.heap.size w w' := by
  go_enter Try.func9, Try.ntmps9
  go_wp2
  exact bodyPost_ret (v := .agg #[.int .i64 4, .int .i32 r, .slice D n c]) (by simp [results, Try.results9, go_sem]) rfl ⟨rfl, (Below.refl _ _).alloc (Nat.le_refl _) _⟩

/-- The rows of actions that were laid since world w. -/
structure St (w w' : World) (L : List (Value × List A)) : Prop where
  rows : ∀ x ∈ L, Acts w' w.heap.size x.1 x.2
  below : Below w.heap.size w w'
theorem St.size {w w' : World} {L : List (Value × List A)} (h : St w w' L) : w.heap.size ≤ w'.heap.size := h.below.size
theorem st_nil (w : World) : St w w [] := ⟨fun x hx => (by cases hx), Below.refl _ _⟩
theorem St.alloc {w w' : World} {L : List (Value × List A)} (h : St w w' L) (o : Obj) : St w (w'.alloc o) L := ⟨fun x hx => (h.rows x hx).alloc o, h.below.alloc h.size o⟩
theorem St.row {w w' : World} {o : Obj} {L : List (Value × List A)} {v : Value} {l : List A} (h : St w w' L) (ha : Acts (w'.alloc o) w.heap.size v l) : St w (w'.alloc o) ((v, l) :: L) :=
  ⟨fun x hx => by
    rcases List.mem_cons.1 hx with rfl | hx
    · exact ha
    · exact (h.rows x hx).alloc o, h.below.alloc h.size o⟩
theorem St.call {w w' w'' : World} {L : List (Value × List A)} (h : St w w' L) (hb : Below w'.heap.size w' w'') : St w w'' L := ⟨fun x hx => (h.rows x hx).below hb (Nat.le_refl _), h.below.trans (hb.mono h.size)⟩
theorem St.at {w w' : World} {L : List (Value × List A)} (h : St w w' L) (j : Nat) {v : Value} {l : List A} (hj : L[j]? = some (v, l)) : Acts w' w.heap.size v l := h.rows (v, l) (List.mem_of_getElem? hj)
theorem ints_lit (w : World) (B : Nat) (l : List Int) (n : Nat) (hn : l.length = n) (hB : B ≤ w.heap.size) (hm : n ≤ 1000) : Ints (w.alloc (.cells (i64s l).toArray 3)) B (.slice (some ⟨w.heap.size, 0, none⟩) n n) l := by
  subst hn
  exact World.ownsRow_lit w (i64s l).toArray l.length hB (by simp only [maxLen]; omega) (by simp [i64s])
theorem acts_lit1 {w : World} {B : Nat} {p : Value} {l : List Int} (k r : Int) (hp : Ints w B p l) (hB : B ≤ w.heap.size) : Acts (w.alloc (.cells #[.int .i64 k, .int .i32 r, p] 24)) B (.slice (some ⟨w.heap.size, 0, none⟩) 1 1) [⟨k, r, l⟩] :=
  acts_lit [(⟨k, r, l⟩, p)] 1 rfl hB (by decide) (by
    intro x hx
    simp only [List.mem_cons, List.not_mem_nil, or_false] at hx
    subst hx
    exact hp)
theorem acts_lit2 {w : World} {B : Nat} {p p' : Value} {l l' : List Int} (k r k' r' : Int) (hp : Ints w B p l) (hp' : Ints w B p' l') (hB : B ≤ w.heap.size) : Acts (w.alloc (.cells #[.int .i64 k, .int .i32 r, p, .int .i64 k', .int .i32 r', p'] 24)) B (.slice (some ⟨w.heap.size, 0, none⟩) 2 2) [⟨k, r, l⟩, ⟨k', r', l'⟩] :=
  acts_lit [(⟨k, r, l⟩, p), (⟨k', r', l'⟩, p')] 2 rfl hB (by decide) (by
    intro x hx
    simp only [List.mem_cons, List.not_mem_nil, or_false] at hx
    rcases hx with rfl | rfl
    · exact hp
    · exact hp')
theorem acts_lit3 {w : World} {B : Nat} {p p' p2 : Value} {l l' l2 : List Int} (k r k' r' k2 r2 : Int) (hp : Ints w B p l) (hp' : Ints w B p' l') (hp2 : Ints w B p2 l2) (hB : B ≤ w.heap.size) : Acts (w.alloc (.cells #[.int .i64 k, .int .i32 r, p, .int .i64 k', .int .i32 r', p', .int .i64 k2, .int .i32 r2, p2] 24)) B (.slice (some ⟨w.heap.size, 0, none⟩) 3 3) [⟨k, r, l⟩, ⟨k', r', l'⟩, ⟨k2, r2, l2⟩] :=
  acts_lit [(⟨k, r, l⟩, p), (⟨k', r', l'⟩, p'), (⟨k2, r2, l2⟩, p2)] 3 rfl hB (by decide) (by
    intro x hx
    simp only [List.mem_cons, List.not_mem_nil, or_false] at hx
    rcases hx with rfl | rfl | rfl
    · exact hp
    · exact hp'
    · exact hp2)

/-- The bytes of a string, as numbers. -/
def bytesOf (b : ByteArray) : List Int := b.data.toList.map fun c => (c.toNat : Int)
/-- The bytes b come to the actions l, and nothing is begun behind them. -/
def Good (b : ByteArray) (l : List A) : Prop := b.size ≤ 20 ∧ (feedE E.zero (bytesOf b)).mode = 0 ∧ feedA E.zero (bytesOf b) = l ∧ ∀ x ∈ l, x.par.length ≤ 1000
theorem good0 : Good ⟨#[97]⟩ [⟨1, 97, []⟩] := ⟨by decide, by kernel_rfl, by kernel_rfl, by decide⟩
theorem good1 : Good ⟨#[1, 31, 127]⟩ [] := ⟨by decide, by kernel_rfl, by kernel_rfl, by decide⟩
theorem good2 : Good ⟨#[7, 8, 13]⟩ [⟨2, 7, []⟩, ⟨2, 8, []⟩, ⟨2, 13, []⟩] := ⟨by decide, by kernel_rfl, by kernel_rfl, by decide⟩
theorem good3 : Good ⟨#[27, 91, 65]⟩ [⟨4, 65, []⟩] := ⟨by decide, by kernel_rfl, by kernel_rfl, by decide⟩
theorem good4 : Good ⟨#[27, 91, 48, 65]⟩ [⟨4, 65, [0]⟩] := ⟨by decide, by kernel_rfl, by kernel_rfl, by decide⟩
theorem good5 : Good ⟨#[27, 91, 59, 65]⟩ [⟨4, 65, [(-1), (-1)]⟩] := ⟨by decide, by kernel_rfl, by kernel_rfl, by decide⟩
theorem good6 : Good ⟨#[27, 91, 59, 59, 65]⟩ [⟨4, 65, [(-1), (-1), (-1)]⟩] := ⟨by decide, by kernel_rfl, by kernel_rfl, by decide⟩
theorem good7 : Good ⟨#[27, 91, 49, 59, 65]⟩ [⟨4, 65, [1, (-1)]⟩] := ⟨by decide, by kernel_rfl, by kernel_rfl, by decide⟩
theorem good8 : Good ⟨#[27, 91, 49, 59, 50, 65]⟩ [⟨4, 65, [1, 2]⟩] := ⟨by decide, by kernel_rfl, by kernel_rfl, by decide⟩
theorem good9 : Good ⟨#[27, 91, 55, 48, 48, 48, 48, 65]⟩ [⟨4, 65, [65535]⟩] := ⟨by decide, by kernel_rfl, by kernel_rfl, by decide⟩
theorem good10 : Good ⟨#[27, 91, 49, 58, 50, 65]⟩ [] := ⟨by decide, by kernel_rfl, by kernel_rfl, by decide⟩
theorem good11 : Good ⟨#[27, 91, 62, 49, 65]⟩ [] := ⟨by decide, by kernel_rfl, by kernel_rfl, by decide⟩
theorem good12 : Good ⟨#[27, 91, 49, 32, 65]⟩ [] := ⟨by decide, by kernel_rfl, by kernel_rfl, by decide⟩
theorem good13 : Good ⟨#[27, 91, 63, 65]⟩ [⟨5, 65, []⟩] := ⟨by decide, by kernel_rfl, by kernel_rfl, by decide⟩
theorem good14 : Good ⟨#[27, 91, 63, 49, 59, 50, 104]⟩ [⟨5, 104, [1, 2]⟩] := ⟨by decide, by kernel_rfl, by kernel_rfl, by decide⟩
theorem good15 : Good ⟨#[27, 91, 63, 63, 65]⟩ [] := ⟨by decide, by kernel_rfl, by kernel_rfl, by decide⟩
theorem good16 : Good ⟨#[27, 91, 49, 8, 65]⟩ [⟨2, 8, []⟩, ⟨4, 65, [1]⟩] := ⟨by decide, by kernel_rfl, by kernel_rfl, by decide⟩
theorem good17 : Good ⟨#[27, 91, 49, 24, 65]⟩ [⟨1, 65, []⟩] := ⟨by decide, by kernel_rfl, by kernel_rfl, by decide⟩
theorem good18 : Good ⟨#[27, 91, 49, 27, 91, 50, 65]⟩ [⟨4, 65, [2]⟩] := ⟨by decide, by kernel_rfl, by kernel_rfl, by decide⟩
theorem good19 : Good ⟨#[27, 55]⟩ [⟨3, 55, []⟩] := ⟨by decide, by kernel_rfl, by kernel_rfl, by decide⟩
theorem good20 : Good ⟨#[27, 40, 66, 97]⟩ [⟨1, 97, []⟩] := ⟨by decide, by kernel_rfl, by kernel_rfl, by decide⟩
theorem good21 : Good ⟨#[27, 7, 99]⟩ [⟨2, 7, []⟩, ⟨3, 99, []⟩] := ⟨by decide, by kernel_rfl, by kernel_rfl, by decide⟩
theorem good22 : Good ⟨#[27, 27, 99]⟩ [⟨3, 99, []⟩] := ⟨by decide, by kernel_rfl, by kernel_rfl, by decide⟩
theorem good23 : Good ⟨#[27, 93, 48, 59, 97, 98, 99, 7, 100]⟩ [⟨1, 100, []⟩] := ⟨by decide, by kernel_rfl, by kernel_rfl, by decide⟩
theorem good24 : Good ⟨#[27, 93, 48, 59, 97, 98, 99, 27, 92, 100]⟩ [⟨1, 100, []⟩] := ⟨by decide, by kernel_rfl, by kernel_rfl, by decide⟩
theorem good25 : Good ⟨#[27, 80, 97, 98, 99, 27, 100, 24, 101]⟩ [⟨1, 101, []⟩] := ⟨by decide, by kernel_rfl, by kernel_rfl, by decide⟩
theorem good26 : Good ⟨#[27, 255, 97]⟩ [⟨1, 97, []⟩] := ⟨by decide, by kernel_rfl, by kernel_rfl, by decide⟩
theorem good27 : Good ⟨#[194, 133]⟩ [] := ⟨by decide, by kernel_rfl, by kernel_rfl, by decide⟩
theorem good28 : Good ⟨#[195, 27, 91, 65]⟩ [⟨1, 65533, []⟩, ⟨4, 65, []⟩] := ⟨by decide, by kernel_rfl, by kernel_rfl, by decide⟩
theorem good29 : Good ⟨#[27, 91, 128, 65]⟩ [⟨4, 65, []⟩] := ⟨by decide, by kernel_rfl, by kernel_rfl, by decide⟩
end Go.Proofs.Ytgpjphecgcfikaa
