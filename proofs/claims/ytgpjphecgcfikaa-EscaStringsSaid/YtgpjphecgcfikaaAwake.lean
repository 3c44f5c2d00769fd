/-
  Rows of bytes and of actions that the call itself wrote; that the small check 'awake' at the end of every statement of this seat answers true.
-/
import Derived.Test.YtgpjphecgcfikaaSame
import Derived.Lib.SmallJoins
namespace Go.Proofs.Ytgpjphecgcfikaa
open Go.RowKit

def u8s (bs : List Int) : List Value := bs.map (Value.int .u8)
theorem u8s_one (bs : List Int) : ∀ y ∈ u8s bs, y.oneCell' = true := by
  intro y hy
  simp only [u8s, List.mem_map] at hy
  obtain ⟨r, _, rfl⟩ := hy
  rfl
/-- A slice value v whose elements are the bytes bs, in memory at or above block B. -/
def Bytes (w : World) (B : Nat) (v : Value) (bs : List Int) : Prop := w.ownsRow B 5 1 v bs.length (u8s bs)
theorem bytes_form {w : World} {B : Nat} {v : Value} {rs : List Int} (h : Bytes w B v rs) : ∃ D c, v = .slice D rs.length c := by
  rcases h.2 with ⟨rfl, h0⟩ | ⟨g, cap, cur, rfl, _⟩
  · exact ⟨none, 0, by rw [h0]⟩
  · exact ⟨_, _, rfl⟩
theorem Bytes.read {w : World} {B : Nat} {v : Value} {bs : List Int} (h : Bytes w B v bs) (hb : ∀ z ∈ bs, 0 ≤ z ∧ z ≤ 255) : ReadB w v bs := by
  rcases h.2 with ⟨rfl, h0⟩ | ⟨g, cap, cur, rfl, hB, hg, _⟩
  · exact ⟨none, 0, by rw [h0], fun k hk => by omega⟩
  · refine ⟨_, _, rfl, fun k hk => ⟨g, 0, bs[k], rfl, (Array.getElem?_eq_some_iff.1 hg).1, by simp [hk], ?_, hb _ (List.getElem_mem hk)⟩⟩
    rw [Nat.zero_add]
    exact (World.ownsRow.cellAt h k (by omega)).trans (by simp [u8s, hk])
theorem Bytes.below {w w' : World} {B C : Nat} {v : Value} {l : List Int} (h : Bytes w B v l) (hb : Below C w w') (hC : w.heap.size ≤ C) : Bytes w' B v l := own_below h hb hC
theorem Bytes.base {w : World} {B C : Nat} {v : Value} {l : List Int} (h : Bytes w B v l) (hC : C ≤ B) : Bytes w C v l := own_base h hC
theorem Bytes.alloc {w : World} {B : Nat} {v : Value} {l : List Int} (h : Bytes w B v l) (o : Obj) : Bytes (w.alloc o) B v l := World.ownsRow.alloc h o
theorem bytes_nil (w : World) (B : Nat) : Bytes w B (.slice none 0 0) [] := World.ownsRow_nil w B 5 1
theorem bytes_lit (w : World) (B : Nat) (bs : List Int) (n : Nat) (hn : bs.length = n) (hB : B ≤ w.heap.size) (hm : n ≤ 1000000) : Bytes (w.alloc (.cells (u8s bs).toArray 5)) B (.slice (some ⟨w.heap.size, 0, none⟩) n n) bs := by
  subst hn
  exact World.ownsRow_lit w (u8s bs).toArray bs.length hB (by simp only [maxLen]; omega) (by simp [u8s])

theorem acts_lit {w : World} {B : Nat} (ps : List (A × Value)) (n : Nat) (hn : ps.length = n) (hB : B ≤ w.heap.size) (hm : n ≤ 1000) (h : ∀ x ∈ ps, Ints w B x.2 x.1.par) :
    Acts (w.alloc (.cells (actCells ps).toArray 24)) B (.slice (some ⟨w.heap.size, 0, none⟩) n n) (ps.map (·.1)) := by
  subst hn
  exact ⟨ps, rfl, World.ownsRow_lit w (actCells ps).toArray ps.length hB (by simp only [maxLen]; omega) (by simp [actCells_len]), fun x hx => ⟨(h x hx).alloc _, .inr (own_ge_ne (h x hx) (Nat.le_refl _))⟩⟩

/-- Feed from nothing, of bytes that are known. -/
theorem feed0 (bs : List Int) (e' : E) (l : List A) (he : feedE E.zero bs = e') (hl : feedA E.zero bs = l) (v : Value) (w : World) (hv : ReadB w v bs) (hn : bs.length ≤ 300000) :
    Calls Try.prog 11 #[.agg #[.int .i64 0, .int .i64 0, .int .i64 0, .int .i64 0, .slice none 0 0, .int .i64 0, .bool false, .bool false], v] w (StepP w.heap.size w e' l) := by
  subst he hl
  exact feed_any E.zero bs (.slice none 0 0) v 0 w (ints_nil _ _) E.zero_ok hv hn

/-- A row of bytes that was just laid, with whatever mark. -/
theorem readB_new (w : World) (bs : List Int) (cs : Array Value) (n c : Nat) (fr : Nat × Nat) (hn : bs.length = n) (hc : ∀ (k : Nat) (z : Int), bs[k]? = some z → cs[k]? = some (Value.int .u8 z) ∧ 0 ≤ z ∧ z ≤ 255) : ReadB (w.alloc (.cells cs 5 fr)) (.slice (some ⟨w.heap.size, 0, none⟩) n c) bs := by
  subst hn
  refine ⟨_, _, rfl, fun k hk => ⟨w.heap.size, 0, bs[k], rfl, by simp, by simp [hk], ?_, (hc k bs[k] (by simp [hk])).2⟩⟩
  rw [Nat.zero_add, World.cell?_alloc_mark]
  exact (hc k bs[k] (by simp [hk])).1
def okBytes (bs : List Int) : Bool := bs.all fun z => decide (0 ≤ z) && decide (z ≤ 255)
theorem u8s_at {bs : List Int} (h : okBytes bs = true) : ∀ (k : Nat) (z : Int), bs[k]? = some z → (u8s bs).toArray[k]? = some (Value.int .u8 z) ∧ 0 ≤ z ∧ z ≤ 255 := by
  intro k z hz
  refine ⟨by simp [u8s, hz], ?_⟩
  have := List.all_eq_true.1 h z (List.mem_of_getElem? hz)
  simpa using this

def aw1 : List Int := [97, 27, 91, 49, 59, 63, 50, 74, 27, 91, 63, 50, 53, 108, 195, 7]
def aw2 : List Int := [27, 91, 59, 53, 109, 27, 93, 48, 59, 120, 7, 27, 77]
theorem aw1_ok : okBytes aw1 = true := by decide
theorem aw2_ok : okBytes aw2 = true := by decide
theorem aw1_e : feedE E.zero aw1 = E.zero := by kernel_rfl
theorem aw1_a : feedA E.zero aw1 = [⟨1, 97, []⟩, ⟨5, 108, [25]⟩, ⟨1, 65533, []⟩, ⟨2, 7, []⟩] := by kernel_rfl
theorem aw2_e : feedE E.zero aw2 = E.zero := by kernel_rfl
theorem aw2_a : feedA E.zero aw2 = [⟨4, 109, [-1, 5]⟩, ⟨3, 77, []⟩] := by kernel_rfl

/-- Where nothing is begun. -/
def zeroV (D : Option Addr) (c : Nat) : Value := .agg #[.int .i64 0, .int .i64 0, .int .i64 0, .int .i64 0, .slice D 0 c, .int .i64 0, .bool false, .bool false]
def ZeroPost (w : World) (l : List A) (x : Ending) (w' : World) : Prop :=
  ∃ D c v, x = .returned (.tuple #[zeroV D c, v]) ∧ Ints w' w.heap.size (.slice D 0 c) [] ∧ Acts w' w.heap.size v l ∧ Below w.heap.size w w'
theorem zero_of {w : World} {l : List A} {x : Ending} {w' : World} (h : StepP w.heap.size w E.zero l x w') : ZeroPost w l x w' := by
  obtain ⟨p, v, rfl, hp, ha, hb⟩ := h
  obtain ⟨D, c, rfl⟩ := ints_form hp
  exact ⟨D, c, v, rfl, hp, ha, hb⟩
theorem feedZ (bs : List Int) (l : List A) (he : feedE E.zero bs = E.zero) (hl : feedA E.zero bs = l) (v : Value) (w : World) (hv : ReadB w v bs) (hn : bs.length ≤ 300000) :
    Calls Try.prog 11 #[zeroV none 0, v] w (ZeroPost w l) :=
  (feed0 bs _ _ he hl v w hv hn).mono fun _ _ h => zero_of h
theorem sameZ (D D' : Option Addr) (c c' : Nat) (B B' : Nat) (w : World) (hp : Ints w B (.slice D 0 c) []) (hq : Ints w B' (.slice D' 0 c') []) : Calls Try.prog 15 #[zeroV D c, zeroV D' c'] w (TrueBelow w) :=
  sameEsc_any E.zero (.slice D 0 c) (.slice D' 0 c') B B' w hp hq (by decide)
theorem readB_new2 (w : World) (o : Obj) (bs : List Int) (cs : Array Value) (n c : Nat) (fr : Nat × Nat) (hn : bs.length = n) (hc : ∀ (k : Nat) (z : Int), bs[k]? = some z → cs[k]? = some (Value.int .u8 z) ∧ 0 ≤ z ∧ z ≤ 255) : ReadB ((w.alloc o).alloc (.cells cs 5 fr)) (.slice (some ⟨w.heap.size + 1, 0, none⟩) n c) bs := by
  have := readB_new (w.alloc o) bs cs n c fr hn hc
  rwa [World.size_alloc] at this
theorem aw_1 (w : World) : Acts ((w.alloc (.cells #[.int .i64 25] 3)).alloc (.cells #[.int .i64 1, .int .i32 97, .slice none 0 0, .int .i64 5, .int .i32 108, .slice (some ⟨w.heap.size, 0, none⟩) 1 1, .int .i64 1, .int .i32 65533, .slice none 0 0, .int .i64 2, .int .i32 7, .slice none 0 0] 24)) 0 (.slice (some ⟨w.heap.size + 1, 0, none⟩) 4 4) [⟨1, 97, []⟩, ⟨5, 108, [25]⟩, ⟨1, 65533, []⟩, ⟨2, 7, []⟩] := by
  have hi := World.ownsRow_lit (base := 0) (e := 3) (size := 1) w #[.int .i64 25] 1 (Nat.zero_le _) (by simp [maxLen]) rfl
  have := acts_lit (w := w.alloc (.cells #[.int .i64 25] 3)) (B := 0) [(⟨1, 97, []⟩, .slice none 0 0), (⟨5, 108, [25]⟩, .slice (some ⟨w.heap.size, 0, none⟩) 1 1), (⟨1, 65533, []⟩, .slice none 0 0), (⟨2, 7, []⟩, .slice none 0 0)] 4 rfl (Nat.zero_le _) (by decide) (by
    intro x hx
    simp only [List.mem_cons, List.not_mem_nil, or_false] at hx
    rcases hx with rfl | rfl | rfl | rfl
    · exact ints_nil _ _
    · exact hi
    · exact ints_nil _ _
    · exact ints_nil _ _)
  rwa [World.size_alloc] at this
theorem aw_2 (w : World) : Acts ((w.alloc (.cells #[.int .i64 (-1), .int .i64 5] 3)).alloc (.cells #[.int .i64 4, .int .i32 109, .slice (some ⟨w.heap.size, 0, none⟩) 2 2, .int .i64 3, .int .i32 77, .slice none 0 0] 24)) 0 (.slice (some ⟨w.heap.size + 1, 0, none⟩) 2 2) [⟨4, 109, [-1, 5]⟩, ⟨3, 77, []⟩] := by
  have hi := World.ownsRow_lit (base := 0) (e := 3) (size := 1) w #[.int .i64 (-1), .int .i64 5] 2 (Nat.zero_le _) (by simp [maxLen]) rfl
  have := acts_lit (w := w.alloc (.cells #[.int .i64 (-1), .int .i64 5] 3)) (B := 0) [(⟨4, 109, [-1, 5]⟩, .slice (some ⟨w.heap.size, 0, none⟩) 2 2), (⟨3, 77, []⟩, .slice none 0 0)] 2 rfl (Nat.zero_le _) (by decide) (by
    intro x hx
    simp only [List.mem_cons, List.not_mem_nil, or_false] at hx
    rcases hx with rfl | rfl
    · exact hi
    · exact ints_nil _ _)
  rwa [World.size_alloc] at this

set_option maxHeartbeats 1000000 in
theorem awake_any (w : World) : Calls Try.prog 13 #[] w (TrueBelow w) := by
  go_enter Try.func13, Try.ntmps13
  have kc := fun (w : World) (C : Array Value) (n c g : Nat) (hg : g = w.heap.size) => Joins.run_convert_bytes_const_at (P := Try.prog) w 36 5 C n c g hg Try.underlying36 Try.underlying5
  go_wp2_with fail
  refine (feedZ aw1 _ aw1_e aw1_a _ _ (by exact readB_new _ aw1 (u8s aw1).toArray 16 16 _ rfl (u8s_at aw1_ok)) (by decide)).mono ?_
  rintro e w1 ⟨D1, c1, v1, rfl, hp1, ha1, hb1⟩
  unfold zeroV
  go_wp2_with fail
  refine (feedZ aw2 _ aw2_e aw2_a _ _ (by exact readB_new2 _ _ aw2 (u8s aw2).toArray 13 13 _ rfl (u8s_at aw2_ok)) (by decide)).mono ?_
  rintro e w2 ⟨D2, c2, v2, rfl, hp2, ha2, hb2⟩
  unfold zeroV
  obtain ⟨H2, _⟩ : Held w2 w1.heap.size 33 _ ∧ True := ⟨Held.below (Held.alloc (Held.new w1 33 _) _) hb2 (by simp; omega), trivial⟩
  obtain ⟨x0, x1, x2, x3, x4, x5, x6, x7, xf⟩ := esc_cells H2
  have hz2 := H2.lt
  go_wp2_with fail
  have hp1' : Ints w2 0 (.slice D1 0 c1) [] := ((hp1.alloc _).alloc _).below hb2 (Nat.le_refl _) |>.base (Nat.zero_le _)
  have ha1' : Acts w2 0 v1 _ := ((ha1.alloc _).alloc _).below hb2 (Nat.le_refl _) |>.base (Nat.zero_le _)
  have hp2' : Ints w2 0 (.slice D2 0 c2) [] := hp2.base (Nat.zero_le _)
  have ha2' : Acts w2 0 v2 _ := ha2.base (Nat.zero_le _)
  clear hp1 ha1 hp2 ha2
  refine (sameZ _ _ _ _ 0 0 _ (by exact hp1'.alloc _) (by exact ints_nil _ _)).mono ?_
  rintro e w3 ⟨rfl, hb3⟩
  have H3 := (Held.new w2 33 _).below hb3 (by simp)
  have hz3 := H3.lt
  have ha13 := (ha1'.alloc _).below hb3 (Nat.le_refl _)
  have ha23 := (ha2'.alloc _).below hb3 (Nat.le_refl _)
  have hp23 := (hp2'.alloc _).below hb3 (Nat.le_refl _)
  clear x0 x1 x2 x3 x4 x5 x6 x7 xf
  obtain ⟨y0, y1, y2, y3, y4, y5, y6, y7, yf⟩ := esc_cells H3
  go_wp2_with fail
  refine (sameActions_any _ _ _ 0 0 _ (by exact (ha13.alloc _).alloc _) (by exact aw_1 _) (by decide) (by decide)).mono ?_
  rintro e w4 ⟨rfl, m4, rfl⟩
  have hz4 : w2.heap.size < w3.heap.size + 1 := by omega
  have hz5 : w2.heap.size < w3.heap.size + 1 + 1 := by omega
  go_wp2_with fail
  refine (sameZ _ _ _ _ 0 0 _ (by exact ((hp23.alloc _).alloc _).below (below_drewN (Below.refl _ _) _) (Nat.le_refl _)) (by exact ints_nil _ _)).mono ?_
  rintro e w5 ⟨rfl, hb5⟩
  have ha25 := (((ha23.alloc _).alloc _).below (below_drewN (Below.refl _ _) _) (Nat.le_refl _)).below hb5 (Nat.le_refl _)
  have b1 : Below w.heap.size w w1 := ((Below.refl _ w).alloc (Nat.le_refl _) _).trans (hb1.mono (by simp))
  have b2 : Below w.heap.size w w2 := b1.trans (((below_alloc2 w1 _ _).mono b1.size).trans (hb2.mono (by have := b1.size; simp; omega)))
  have b3 : Below w.heap.size w w3 := (b2.alloc b2.size _).trans (hb3.mono (by have := b2.size; simp; omega))
  have b5 : Below w.heap.size w w5 := (below_drewN ((b3.alloc b3.size _).alloc (by have := b3.size; simp; omega) _) m4).trans (hb5.mono (by have := b3.size; simp; omega))
  clear hb1 hb2 hb3 hb5 y0 y1 y2 y3 y4 y5 y6 y7 yf
  go_wp2_with fail
  refine (sameActions_any _ _ _ 0 0 _ (by exact (ha25.alloc _).alloc _) (by exact aw_2 _) (by decide) (by decide)).mono ?_
  rintro e w6 ⟨rfl, m6, rfl⟩
  go_wp2_with fail
  go_ret
  exact ⟨rfl, below_drewN ((b5.alloc b5.size _).alloc (by have := b5.size; simp; omega) _) m6⟩
end Go.Proofs.Ytgpjphecgcfikaa
