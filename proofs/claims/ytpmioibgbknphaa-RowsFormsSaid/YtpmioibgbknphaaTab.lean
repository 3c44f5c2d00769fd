/-
  The walk of RowsForms: the table of twenty rows. Conditions: none.
-/
import Derived.Test.YtpmioibgbknphaaPoint
import Derived.Deep.DeepCutAuto
import Derived.Deep.Light
namespace Go.Proofs.Ytpmioibgbknphaa
open Go.RowKit

def abcde : List C := [⟨97, 0⟩, ⟨98, 0⟩, ⟨99, 0⟩, ⟨100, 0⟩, ⟨101, 0⟩]
/-- The row that all is made of, and the rows so far. -/
structure St (w w' : World) (rows : List (Nat × List C)) : Prop where
  r : Row w' w.heap.size abcde
  all : ∀ p ∈ rows, Row w' p.1 p.2
  below : Below w.heap.size w w'
theorem St.next {w w1 w2 : World} {rows : List (Nat × List C)} (h : St w w1 rows) {g : Nat} {l : List C} (hr : Row w2 g l) (hb : Below w1.heap.size w1 w2) : St w w2 ((g, l) :: rows) := by
  refine ⟨h.r.below hb h.r.lt, fun p hp => ?_, below_next h.below hb⟩
  rcases List.mem_cons.1 hp with rfl | hp
  · exact hr
  · exact (h.all p hp).below hb (h.all p hp).lt
theorem St.alloc {w w1 : World} {rows : List (Nat × List C)} (h : St w w1 rows) (o : Obj) : St w (w1.alloc o) rows :=
  ⟨h.r.alloc o, fun p hp => (h.all p hp).alloc o, h.below.alloc h.below.size o⟩
/-- The bytes of a row of small runes. -/
def text (l : List C) : ByteArray := ⟨(l.map fun c => UInt8.ofNat c.r.toNat).toArray⟩

theorem fm0 : insertF abcde 0 2 = [⟨32, 0⟩, ⟨32, 0⟩, ⟨97, 0⟩, ⟨98, 0⟩, ⟨99, 0⟩] := rfl
theorem fm1 : insertF abcde 4 3 = [⟨97, 0⟩, ⟨98, 0⟩, ⟨99, 0⟩, ⟨100, 0⟩, ⟨32, 0⟩] := rfl
theorem fm2 : insertF abcde 2 0 = [⟨97, 0⟩, ⟨98, 0⟩, ⟨99, 0⟩, ⟨100, 0⟩, ⟨101, 0⟩] := rfl
theorem fm3 : insertF abcde 2 (-1) = [⟨97, 0⟩, ⟨98, 0⟩, ⟨99, 0⟩, ⟨100, 0⟩, ⟨101, 0⟩] := rfl
theorem fm4 : insertF abcde 5 1 = [⟨97, 0⟩, ⟨98, 0⟩, ⟨99, 0⟩, ⟨100, 0⟩, ⟨101, 0⟩] := rfl
theorem fm5 : insertF abcde (-1) 1 = [⟨97, 0⟩, ⟨98, 0⟩, ⟨99, 0⟩, ⟨100, 0⟩, ⟨101, 0⟩] := rfl
theorem fm6 : insertF abcde 1 99 = [⟨97, 0⟩, ⟨32, 0⟩, ⟨32, 0⟩, ⟨32, 0⟩, ⟨32, 0⟩] := rfl
theorem fm7 : deleteF abcde 0 2 = [⟨99, 0⟩, ⟨100, 0⟩, ⟨101, 0⟩, ⟨32, 0⟩, ⟨32, 0⟩] := rfl
theorem fm8 : deleteF abcde 4 1 = [⟨97, 0⟩, ⟨98, 0⟩, ⟨99, 0⟩, ⟨100, 0⟩, ⟨32, 0⟩] := rfl
theorem fm9 : deleteF abcde 1 99 = [⟨97, 0⟩, ⟨32, 0⟩, ⟨32, 0⟩, ⟨32, 0⟩, ⟨32, 0⟩] := rfl
theorem fm10 : deleteF abcde 5 1 = [⟨97, 0⟩, ⟨98, 0⟩, ⟨99, 0⟩, ⟨100, 0⟩, ⟨101, 0⟩] := rfl
theorem fm11 : clearF abcde 1 3 = [⟨97, 0⟩, ⟨32, 0⟩, ⟨32, 0⟩, ⟨100, 0⟩, ⟨101, 0⟩] := rfl
theorem fm12 : clearF abcde 3 1 = [⟨97, 0⟩, ⟨98, 0⟩, ⟨99, 0⟩, ⟨100, 0⟩, ⟨101, 0⟩] := rfl
theorem fm13 : clearF abcde (-9) 99 = [⟨32, 0⟩, ⟨32, 0⟩, ⟨32, 0⟩, ⟨32, 0⟩, ⟨32, 0⟩] := rfl
theorem fm14 : fitF abcde 3 = [⟨97, 0⟩, ⟨98, 0⟩, ⟨99, 0⟩] := rfl
theorem fm15 : fitF abcde 7 = [⟨97, 0⟩, ⟨98, 0⟩, ⟨99, 0⟩, ⟨100, 0⟩, ⟨101, 0⟩, ⟨32, 0⟩, ⟨32, 0⟩] := rfl
theorem fm16 : fitF abcde (-1) = [] := rfl
theorem fm17 : putF abcde 0 ⟨122, 0⟩ = [⟨122, 0⟩, ⟨98, 0⟩, ⟨99, 0⟩, ⟨100, 0⟩, ⟨101, 0⟩] := rfl
theorem fm18 : putF abcde 9 ⟨122, 0⟩ = [⟨97, 0⟩, ⟨98, 0⟩, ⟨99, 0⟩, ⟨100, 0⟩, ⟨101, 0⟩] := rfl
theorem fm19 : blankF 2 = [⟨32, 0⟩, ⟨32, 0⟩] := rfl

def tabV (g0 g1 g2 g3 g4 g5 g6 g7 g8 g9 g10 g11 g12 g13 g14 g15 g16 g17 g18 g19 : Nat) : Array Value := #[.slice (some ⟨g0, 0, none⟩) 5 5, .string ⟨#[32, 32, 97, 98, 99]⟩, .slice (some ⟨g1, 0, none⟩) 5 5, .string ⟨#[97, 98, 99, 100, 32]⟩, .slice (some ⟨g2, 0, none⟩) 5 5, .string ⟨#[97, 98, 99, 100, 101]⟩, .slice (some ⟨g3, 0, none⟩) 5 5, .string ⟨#[97, 98, 99, 100, 101]⟩, .slice (some ⟨g4, 0, none⟩) 5 5, .string ⟨#[97, 98, 99, 100, 101]⟩, .slice (some ⟨g5, 0, none⟩) 5 5, .string ⟨#[97, 98, 99, 100, 101]⟩, .slice (some ⟨g6, 0, none⟩) 5 5, .string ⟨#[97, 32, 32, 32, 32]⟩, .slice (some ⟨g7, 0, none⟩) 5 5, .string ⟨#[99, 100, 101, 32, 32]⟩, .slice (some ⟨g8, 0, none⟩) 5 5, .string ⟨#[97, 98, 99, 100, 32]⟩, .slice (some ⟨g9, 0, none⟩) 5 5, .string ⟨#[97, 32, 32, 32, 32]⟩, .slice (some ⟨g10, 0, none⟩) 5 5, .string ⟨#[97, 98, 99, 100, 101]⟩, .slice (some ⟨g11, 0, none⟩) 5 5, .string ⟨#[97, 32, 32, 100, 101]⟩, .slice (some ⟨g12, 0, none⟩) 5 5, .string ⟨#[97, 98, 99, 100, 101]⟩, .slice (some ⟨g13, 0, none⟩) 5 5, .string ⟨#[32, 32, 32, 32, 32]⟩, .slice (some ⟨g14, 0, none⟩) 3 3, .string ⟨#[97, 98, 99]⟩, .slice (some ⟨g15, 0, none⟩) 7 7, .string ⟨#[97, 98, 99, 100, 101, 32, 32]⟩, .slice (some ⟨g16, 0, none⟩) 0 0, .string ⟨#[]⟩, .slice (some ⟨g17, 0, none⟩) 5 5, .string ⟨#[122, 98, 99, 100, 101]⟩, .slice (some ⟨g18, 0, none⟩) 5 5, .string ⟨#[97, 98, 99, 100, 101]⟩, .slice (some ⟨g19, 0, none⟩) 2 2, .string ⟨#[32, 32]⟩]
def rowsV (g0 g1 g2 g3 g4 g5 g6 g7 g8 g9 g10 g11 g12 g13 g14 g15 g16 g17 g18 g19 : Nat) : List (Nat × List C) := [(g19, [⟨32, 0⟩, ⟨32, 0⟩]), (g18, [⟨97, 0⟩, ⟨98, 0⟩, ⟨99, 0⟩, ⟨100, 0⟩, ⟨101, 0⟩]), (g17, [⟨122, 0⟩, ⟨98, 0⟩, ⟨99, 0⟩, ⟨100, 0⟩, ⟨101, 0⟩]), (g16, []), (g15, [⟨97, 0⟩, ⟨98, 0⟩, ⟨99, 0⟩, ⟨100, 0⟩, ⟨101, 0⟩, ⟨32, 0⟩, ⟨32, 0⟩]), (g14, [⟨97, 0⟩, ⟨98, 0⟩, ⟨99, 0⟩]), (g13, [⟨32, 0⟩, ⟨32, 0⟩, ⟨32, 0⟩, ⟨32, 0⟩, ⟨32, 0⟩]), (g12, [⟨97, 0⟩, ⟨98, 0⟩, ⟨99, 0⟩, ⟨100, 0⟩, ⟨101, 0⟩]), (g11, [⟨97, 0⟩, ⟨32, 0⟩, ⟨32, 0⟩, ⟨100, 0⟩, ⟨101, 0⟩]), (g10, [⟨97, 0⟩, ⟨98, 0⟩, ⟨99, 0⟩, ⟨100, 0⟩, ⟨101, 0⟩]), (g9, [⟨97, 0⟩, ⟨32, 0⟩, ⟨32, 0⟩, ⟨32, 0⟩, ⟨32, 0⟩]), (g8, [⟨97, 0⟩, ⟨98, 0⟩, ⟨99, 0⟩, ⟨100, 0⟩, ⟨32, 0⟩]), (g7, [⟨99, 0⟩, ⟨100, 0⟩, ⟨101, 0⟩, ⟨32, 0⟩, ⟨32, 0⟩]), (g6, [⟨97, 0⟩, ⟨32, 0⟩, ⟨32, 0⟩, ⟨32, 0⟩, ⟨32, 0⟩]), (g5, [⟨97, 0⟩, ⟨98, 0⟩, ⟨99, 0⟩, ⟨100, 0⟩, ⟨101, 0⟩]), (g4, [⟨97, 0⟩, ⟨98, 0⟩, ⟨99, 0⟩, ⟨100, 0⟩, ⟨101, 0⟩]), (g3, [⟨97, 0⟩, ⟨98, 0⟩, ⟨99, 0⟩, ⟨100, 0⟩, ⟨101, 0⟩]), (g2, [⟨97, 0⟩, ⟨98, 0⟩, ⟨99, 0⟩, ⟨100, 0⟩, ⟨101, 0⟩]), (g1, [⟨97, 0⟩, ⟨98, 0⟩, ⟨99, 0⟩, ⟨100, 0⟩, ⟨32, 0⟩]), (g0, [⟨32, 0⟩, ⟨32, 0⟩, ⟨97, 0⟩, ⟨98, 0⟩, ⟨99, 0⟩])]

/-- What stands at place k of the table. -/
def At (tab : Array Value) (rows : List (Nat × List C)) (k : Nat) : Prop :=
  ∃ (g n : Nat) (l : List C) (s : ByteArray), tab[k * 2]? = some (.slice (some ⟨g, 0, none⟩) n n) ∧ tab[k * 2 + 1]? = some (.string s) ∧ (g, l) ∈ rows ∧ l.length = n ∧ n ≤ 7 ∧ text l = s ∧ ∀ c ∈ l, 32 ≤ c.r ∧ c.r ≤ 126
theorem small_of {l : List C} (h : (l.all fun c => decide (32 ≤ c.r ∧ c.r ≤ 126)) = true) : ∀ c ∈ l, 32 ≤ c.r ∧ c.r ≤ 126 := fun c hc => by simpa using List.all_eq_true.1 h c hc
theorem tab_at (g0 g1 g2 g3 g4 g5 g6 g7 g8 g9 g10 g11 g12 g13 g14 g15 g16 g17 g18 g19 : Nat) : ∀ k, k < 20 → At (tabV g0 g1 g2 g3 g4 g5 g6 g7 g8 g9 g10 g11 g12 g13 g14 g15 g16 g17 g18 g19) (rowsV g0 g1 g2 g3 g4 g5 g6 g7 g8 g9 g10 g11 g12 g13 g14 g15 g16 g17 g18 g19) k := by
  intro k hk
  match k, hk with
  | 0, _ => exact ⟨g0, 5, [⟨32, 0⟩, ⟨32, 0⟩, ⟨97, 0⟩, ⟨98, 0⟩, ⟨99, 0⟩], _, rfl, rfl, by simp [rowsV], rfl, by decide, rfl, small_of (by decide)⟩
  | 1, _ => exact ⟨g1, 5, [⟨97, 0⟩, ⟨98, 0⟩, ⟨99, 0⟩, ⟨100, 0⟩, ⟨32, 0⟩], _, rfl, rfl, by simp [rowsV], rfl, by decide, rfl, small_of (by decide)⟩
  | 2, _ => exact ⟨g2, 5, [⟨97, 0⟩, ⟨98, 0⟩, ⟨99, 0⟩, ⟨100, 0⟩, ⟨101, 0⟩], _, rfl, rfl, by simp [rowsV], rfl, by decide, rfl, small_of (by decide)⟩
  | 3, _ => exact ⟨g3, 5, [⟨97, 0⟩, ⟨98, 0⟩, ⟨99, 0⟩, ⟨100, 0⟩, ⟨101, 0⟩], _, rfl, rfl, by simp [rowsV], rfl, by decide, rfl, small_of (by decide)⟩
  | 4, _ => exact ⟨g4, 5, [⟨97, 0⟩, ⟨98, 0⟩, ⟨99, 0⟩, ⟨100, 0⟩, ⟨101, 0⟩], _, rfl, rfl, by simp [rowsV], rfl, by decide, rfl, small_of (by decide)⟩
  | 5, _ => exact ⟨g5, 5, [⟨97, 0⟩, ⟨98, 0⟩, ⟨99, 0⟩, ⟨100, 0⟩, ⟨101, 0⟩], _, rfl, rfl, by simp [rowsV], rfl, by decide, rfl, small_of (by decide)⟩
  | 6, _ => exact ⟨g6, 5, [⟨97, 0⟩, ⟨32, 0⟩, ⟨32, 0⟩, ⟨32, 0⟩, ⟨32, 0⟩], _, rfl, rfl, by simp [rowsV], rfl, by decide, rfl, small_of (by decide)⟩
  | 7, _ => exact ⟨g7, 5, [⟨99, 0⟩, ⟨100, 0⟩, ⟨101, 0⟩, ⟨32, 0⟩, ⟨32, 0⟩], _, rfl, rfl, by simp [rowsV], rfl, by decide, rfl, small_of (by decide)⟩
  | 8, _ => exact ⟨g8, 5, [⟨97, 0⟩, ⟨98, 0⟩, ⟨99, 0⟩, ⟨100, 0⟩, ⟨32, 0⟩], _, rfl, rfl, by simp [rowsV], rfl, by decide, rfl, small_of (by decide)⟩
  | 9, _ => exact ⟨g9, 5, [⟨97, 0⟩, ⟨32, 0⟩, ⟨32, 0⟩, ⟨32, 0⟩, ⟨32, 0⟩], _, rfl, rfl, by simp [rowsV], rfl, by decide, rfl, small_of (by decide)⟩
  | 10, _ => exact ⟨g10, 5, [⟨97, 0⟩, ⟨98, 0⟩, ⟨99, 0⟩, ⟨100, 0⟩, ⟨101, 0⟩], _, rfl, rfl, by simp [rowsV], rfl, by decide, rfl, small_of (by decide)⟩
  | 11, _ => exact ⟨g11, 5, [⟨97, 0⟩, ⟨32, 0⟩, ⟨32, 0⟩, ⟨100, 0⟩, ⟨101, 0⟩], _, rfl, rfl, by simp [rowsV], rfl, by decide, rfl, small_of (by decide)⟩
  | 12, _ => exact ⟨g12, 5, [⟨97, 0⟩, ⟨98, 0⟩, ⟨99, 0⟩, ⟨100, 0⟩, ⟨101, 0⟩], _, rfl, rfl, by simp [rowsV], rfl, by decide, rfl, small_of (by decide)⟩
  | 13, _ => exact ⟨g13, 5, [⟨32, 0⟩, ⟨32, 0⟩, ⟨32, 0⟩, ⟨32, 0⟩, ⟨32, 0⟩], _, rfl, rfl, by simp [rowsV], rfl, by decide, rfl, small_of (by decide)⟩
  | 14, _ => exact ⟨g14, 3, [⟨97, 0⟩, ⟨98, 0⟩, ⟨99, 0⟩], _, rfl, rfl, by simp [rowsV], rfl, by decide, rfl, small_of (by decide)⟩
  | 15, _ => exact ⟨g15, 7, [⟨97, 0⟩, ⟨98, 0⟩, ⟨99, 0⟩, ⟨100, 0⟩, ⟨101, 0⟩, ⟨32, 0⟩, ⟨32, 0⟩], _, rfl, rfl, by simp [rowsV], rfl, by decide, rfl, small_of (by decide)⟩
  | 16, _ => exact ⟨g16, 0, [], _, rfl, rfl, by simp [rowsV], rfl, by decide, rfl, small_of (by decide)⟩
  | 17, _ => exact ⟨g17, 5, [⟨122, 0⟩, ⟨98, 0⟩, ⟨99, 0⟩, ⟨100, 0⟩, ⟨101, 0⟩], _, rfl, rfl, by simp [rowsV], rfl, by decide, rfl, small_of (by decide)⟩
  | 18, _ => exact ⟨g18, 5, [⟨97, 0⟩, ⟨98, 0⟩, ⟨99, 0⟩, ⟨100, 0⟩, ⟨101, 0⟩], _, rfl, rfl, by simp [rowsV], rfl, by decide, rfl, small_of (by decide)⟩
  | 19, _ => exact ⟨g19, 2, [⟨32, 0⟩, ⟨32, 0⟩], _, rfl, rfl, by simp [rowsV], rfl, by decide, rfl, small_of (by decide)⟩
  | k + 20, hk => exact absurd hk (by omega)

theorem encode_small (r : Int) (h0 : 32 ≤ r) (h1 : r ≤ 126) : Utf8.encode r = ⟨#[UInt8.ofNat r.toNat]⟩ := by
  have hv : Utf8.valid r = true := by
    unfold Utf8.valid
    simp
    omega
  unfold Utf8.encode
  dsimp only
  rw [if_pos hv, if_pos (by omega)]
theorem text_next (l : List C) (k : Nat) (h : k < l.length) (hs : ∀ c ∈ l, 32 ≤ c.r ∧ c.r ≤ 126) : text (l.take (k + 1)) = text (l.take k) ++ Utf8.encode l[k].r := by
  obtain ⟨a, b⟩ := hs l[k] (List.getElem_mem h)
  rw [encode_small _ a b, List.take_succ_eq_append_getElem h]
  unfold text
  rw [List.map_append]
  apply ByteArray.ext
  simp
theorem text_size (l : List C) : (text l).size = l.length := by simp [text, ByteArray.size]
theorem text_none : text [] = ByteArray.empty := rfl
end Go.Proofs.Ytpmioibgbknphaa
