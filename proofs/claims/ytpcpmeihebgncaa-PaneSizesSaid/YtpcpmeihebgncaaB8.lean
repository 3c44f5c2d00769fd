/-
  What Bytes of the document's package answers: the pieces that numbers stand for, one behind the other. No condition.
-/
import Derived.Test.YtpcpmeihebgncaaB7
import Derived.Lib.SmallJoins
import Derived.Lib.AppendStr
namespace Go.Proofs.Ytpcpmeihebgncaa.Esca
open Go.RowKit
set_option maxRecDepth 100000

/-- The bytes of a string, as numbers. -/
def bytesOf (b : ByteArray) : List Int := b.data.toList.map fun c => (c.toNat : Int)
theorem u8s_one (bs : List Int) : ∀ y ∈ u8s bs, y.oneCell' = true := by
  intro y hy
  simp only [u8s, List.mem_map] at hy
  obtain ⟨r, _, rfl⟩ := hy
  rfl
/-- A slice value v whose elements are the bytes bs, in memory at or above block B. -/
def Bytes (w : World) (B : Nat) (v : Value) (bs : List Int) : Prop := w.ownsRow B 5 1 v bs.length (u8s bs)
theorem bytes_form {w : World} {B : Nat} {v : Value} {rs : List Int} (h : Bytes w B v rs) : ∃ D c, v = .slice D rs.length c := by
  rcases h.2 with ⟨rfl, h0⟩ | ⟨g, cap, cur, rfl, _⟩
  · exact ⟨none, 0, by rw [h0]⟩
  · exact ⟨_, _, rfl⟩
theorem Bytes.read {w : World} {B : Nat} {v : Value} {bs : List Int} (h : Bytes w B v bs) (hb : ∀ z ∈ bs, 0 ≤ z ∧ z ≤ 255) : ReadB w v bs := by
  rcases h.2 with ⟨rfl, h0⟩ | ⟨g, cap, cur, rfl, hB, hg, _⟩
  · exact ⟨none, 0, by rw [h0], fun k hk => by omega⟩
  · refine ⟨_, _, rfl, fun k hk => ⟨g, 0, bs[k], rfl, (Array.getElem?_eq_some_iff.1 hg).1, by simp [hk], ?_, hb _ (List.getElem_mem hk)⟩⟩
    rw [Nat.zero_add]
    exact (World.ownsRow.cellAt h k (by omega)).trans (by simp [u8s, hk])
theorem Bytes.below {w w' : World} {B C : Nat} {v : Value} {l : List Int} (h : Bytes w B v l) (hb : Below C w w') (hC : w.heap.size ≤ C) : Bytes w' B v l := own_below h hb hC
theorem Bytes.base {w : World} {B C : Nat} {v : Value} {l : List Int} (h : Bytes w B v l) (hC : C ≤ B) : Bytes w C v l := own_base h hC
theorem Bytes.alloc {w : World} {B : Nat} {v : Value} {l : List Int} (h : Bytes w B v l) (o : Obj) : Bytes (w.alloc o) B v l := World.ownsRow.alloc h o
theorem bytes_nil (w : World) (B : Nat) : Bytes w B (.slice none 0 0) [] := World.ownsRow_nil w B 5 1
theorem i64_and65535 (n : Int) : bits .and .i64 n 65535 = n % 65536 := by
  have hm : (BitVec.ofInt 64 65535).toNat = 2 ^ 16 - 1 := by decide
  have key : (BitVec.ofInt 64 n &&& BitVec.ofInt 64 65535).toNat = (n % ((2 ^ 64 : Nat) : Int)).toNat % 2 ^ 16 := by
    rw [BitVec.toNat_and, BitVec.toNat_ofInt, hm, Nat.and_two_pow_sub_one_eq_mod]
  show IntKind.i64.wrap ((BitVec.ofInt 64 n &&& BitVec.ofInt 64 65535).toNat : Nat) = n % 65536
  rw [key, IntKind.wrap_i64]
  omega
theorem bytesOf_len (b : ByteArray) : (bytesOf b).length = b.size := by simp [bytesOf]
theorem bytesOf_ok (b : ByteArray) : ∀ z ∈ bytesOf b, 0 ≤ z ∧ z ≤ 255 := by
  intro z hz
  simp only [bytesOf, List.mem_map] at hz
  obtain ⟨c, _, rfl⟩ := hz
  exact ⟨Int.natCast_nonneg _, u8_le c⟩
/-- A slice value v that reads as the numbers xs. -/
def ReadI (w : World) (v : Value) (xs : List Int) : Prop := ∃ D c, v = .slice D xs.length c ∧ ∀ k : Nat, k < xs.length → ∃ (b off : Nat) (z : Int), D = some ⟨b, off, none⟩ ∧ b < w.heap.size ∧ xs[k]? = some z ∧ w.cell? ⟨b, off + k, none⟩ = some (.int .i64 z)
theorem ReadI.below {w w' : World} {B : Nat} {v : Value} {xs : List Int} (h : ReadI w v xs) (hb : Below B w w') (hB : w.heap.size ≤ B) : ReadI w' v xs := by
  obtain ⟨D, c, rfl, h⟩ := h
  refine ⟨D, c, rfl, fun k hk => ?_⟩
  obtain ⟨b, off, z, e1, e2, e3, e4⟩ := h k hk
  exact ⟨b, off, z, e1, Nat.lt_of_lt_of_le e2 hb.size, e3, (hb.cell (p := ⟨b, off + k, none⟩) (Nat.lt_of_lt_of_le e2 hB)).trans e4⟩

def pieces : List ByteArray := [⟨#[97]⟩, ⟨#[98, 99]⟩, ⟨#[13]⟩, ⟨#[10]⟩, ⟨#[9]⟩, ⟨#[8]⟩, ⟨#[27]⟩, ⟨#[91]⟩, ⟨#[93]⟩, ⟨#[65]⟩, ⟨#[66]⟩, ⟨#[67]⟩, ⟨#[68]⟩, ⟨#[71]⟩, ⟨#[72]⟩, ⟨#[74]⟩, ⟨#[75]⟩, ⟨#[76]⟩, ⟨#[77]⟩, ⟨#[80]⟩, ⟨#[64]⟩, ⟨#[88]⟩, ⟨#[83]⟩, ⟨#[84]⟩, ⟨#[114]⟩, ⟨#[109]⟩, ⟨#[100]⟩, ⟨#[104]⟩, ⟨#[108]⟩, ⟨#[48]⟩, ⟨#[49]⟩, ⟨#[50]⟩, ⟨#[51]⟩, ⟨#[53]⟩, ⟨#[55]⟩, ⟨#[50, 53]⟩, ⟨#[51, 49]⟩, ⟨#[52, 52]⟩, ⟨#[57, 57, 57, 57, 57]⟩, ⟨#[59]⟩, ⟨#[63]⟩, ⟨#[24]⟩, ⟨#[26]⟩, ⟨#[7]⟩, ⟨#[27, 92]⟩, ⟨#[27, 91]⟩, ⟨#[27, 91, 63]⟩, ⟨#[27, 91, 50, 59, 51, 72]⟩, ⟨#[27, 91, 49, 59, 51, 49, 109]⟩, ⟨#[27, 91, 50, 74]⟩, ⟨#[27, 91, 75]⟩, ⟨#[27, 55]⟩, ⟨#[27, 56]⟩, ⟨#[27, 77]⟩, ⟨#[27, 68]⟩, ⟨#[27, 69]⟩, ⟨#[27, 99]⟩, ⟨#[27, 91, 50, 59, 52, 114]⟩, ⟨#[27, 91, 63, 55, 108]⟩, ⟨#[27, 91, 63, 50, 53, 108]⟩, ⟨#[27, 91, 51, 76]⟩, ⟨#[27, 91, 50, 77]⟩, ⟨#[195, 169]⟩, ⟨#[226, 130, 172]⟩, ⟨#[240, 159, 152, 128]⟩, ⟨#[195]⟩, ⟨#[255]⟩, ⟨#[128]⟩, ⟨#[32]⟩, ⟨#[58]⟩, ⟨#[127]⟩, ⟨#[27, 93, 48, 59, 116, 7]⟩, ⟨#[27, 80, 113, 27, 92]⟩, ⟨#[27, 40, 66]⟩, ⟨#[194, 133]⟩, ⟨#[104, 101, 108, 108, 111, 44, 32, 119, 111, 114, 108, 100]⟩]
def piece (n : Int) : ByteArray := pieces.getD (n % 65536 % 76).toNat ⟨#[]⟩
def bytesFn (l : List Int) : List Int := (l.take 60).flatMap fun n => bytesOf (piece n)
theorem pieces_small : pieces.all (fun b => decide (b.size ≤ 12)) = true := by decide
theorem piece_size (n : Int) : (piece n).size ≤ 12 := by
  unfold piece
  rw [List.getD_eq_getElem?_getD]
  cases h : pieces[(n % 65536 % 76).toNat]? with
  | none => decide
  | some b => exact of_decide_eq_true (List.all_eq_true.1 pieces_small b (List.mem_of_getElem? h))
theorem flat_len (l : List Int) : (l.flatMap fun n => bytesOf (piece n)).length ≤ 12 * l.length := by
  induction l with
  | nil => simp
  | cons a l ih =>
    have := piece_size a
    simp only [List.flatMap_cons, List.length_append, List.length_cons, bytesOf_len]
    omega
theorem bytesFn_len (l : List Int) : (bytesFn l).length ≤ 720 := by
  have h1 := flat_len (l.take 60)
  have h2 : (l.take 60).length ≤ 60 := List.length_take_le 60 l
  unfold bytesFn
  omega
theorem flat_ok (l : List Int) : ∀ z ∈ l.flatMap fun n => bytesOf (piece n), 0 ≤ z ∧ z ≤ 255 := by
  intro z hz
  obtain ⟨n, _, hn⟩ := List.mem_flatMap.1 hz
  exact bytesOf_ok _ z hn
theorem bytesFn_ok (l : List Int) : ∀ z ∈ bytesFn l, 0 ≤ z ∧ z ≤ 255 := flat_ok _

def pieceCells : Array Value := (pieces.map Value.string).toArray
theorem strCells_of (b : ByteArray) : Lib.strCells b = u8s (bytesOf b) := by
  simp [Lib.strCells, u8s, bytesOf]
def BytesPost (w : World) (bs : List Int) (x : Ending) (w' : World) : Prop := ∃ v, x = .returned v ∧ Bytes w' w.heap.size v bs ∧ Below w.heap.size w w'
def BytesRel (w : World) (xs : List Int) (out i : Value) (wr : World) : Prop := ∃ k : Nat, i = .int .i64 k ∧ k ≤ xs.length ∧ k ≤ 60 ∧ Bytes wr (w.heap.size + 1) out ((xs.take k).flatMap fun n => bytesOf (piece n)) ∧ Held wr w.heap.size 9 pieceCells ∧ Below w.heap.size w wr

theorem byteInfo : ∃ i, Try.prog.info? 5 = some i ∧ i.zero = some (.int .u8 0) ∧ i.size = 1 ∧ i.bytes = 1 := by
  have hi : (Try.prog.info? 5).map (fun i => (i.zero, i.size, i.bytes)) = some (some (.int .u8 0), 1, 1) := by kernel_rfl
  cases hh : Try.prog.info? 5 with
  | none => simp [hh] at hi
  | some i =>
    simp only [hh, Option.map_some, Option.some.injEq, Prod.mk.injEq] at hi
    exact ⟨i, rfl, hi.1, hi.2.1, hi.2.2⟩

set_option maxRecDepth 100000 in
set_option maxHeartbeats 2000000 in
theorem bytes_any (v : Value) (xs : List Int) (w : World) (hv : ReadI w v xs) :
    Calls Try.prog 13 #[v] w (BytesPost w (bytesFn xs)) := by
  obtain ⟨V, cv, rfl, hv⟩ := hv
  have HV := Lib.hid hv
  clear hv
  obtain ⟨bi, bi1, bi2, bi3, bi4⟩ := byteInfo
  go_enter Try.func13, Try.ntmps13
  go_wp2_with fail
  go_loopw [4, 5] (BytesRel w xs) (fun _ i _ => 60 - (intOf i).toNat)
  case atStart => exact ⟨0, rfl, Nat.zero_le _, Nat.zero_le _, bytes_nil _ _, Held.new _ _ _, (Below.refl _ _).alloc (Nat.le_refl _) _⟩
  case round =>
    obtain ⟨k, rfl, hle, hle6, hout, hH, hbr⟩ := hrel
    have hz := hH.lt
    have hfl := flat_len (xs.take k)
    have hfk := List.length_take_le k xs
    obtain ⟨os, hos⟩ : ∃ os, os = (xs.take k).flatMap fun n => bytesOf (piece n) := ⟨_, rfl⟩
    rw [← hos] at hout hfl
    have HO := Lib.hid hos
    clear hos
    obtain ⟨D, c, rfl⟩ := bytes_form hout
    by_cases hlt : k < xs.length
    · have hki : (k : Int) < (xs.length : Int) := by omega
      by_cases hlt6 : k < 60
      · have hk6 : (k : Int) < 60 := by omega
        obtain ⟨vb, vo, z, rfl, hvb, hzk, hcell⟩ := HV.out k hlt
        have hcell' : wr.cell? ⟨vb, vo + k, none⟩ = some (.int .i64 z) := (hbr.cell (p := ⟨vb, vo + k, none⟩) hvb).trans hcell
        clear hcell
        obtain ⟨q, hq, q1⟩ : ∃ q : Nat, bits .and .i64 z 65535 = (q : Int) ∧ q ≤ 65535 := ⟨(z % 65536).toNat, by rw [i64_and65535]; omega, by omega⟩
        have hm1 : ((q : Int).tmod 76) < 76 := by rw [Int.tmod_eq_emod_of_nonneg (by omega)]; omega
        have hm0 : 0 ≤ ((q : Int).tmod 76) := by rw [Int.tmod_eq_emod_of_nonneg (by omega)]; omega
        have hpc : wr.cell? ⟨w.heap.size, q % 76, none⟩ = some (.string (piece z)) := by
          rw [hH.cell]
          have e1 : (z % 65536 % 76).toNat = q % 76 := by rw [i64_and65535] at hq; omega
          unfold pieceCells piece
          rw [e1]
          have hl : q % 76 < pieces.length := Nat.mod_lt _ (by decide)
          simp [List.getD_eq_getElem?_getD, hl]
        have hps := piece_size z
        obtain ⟨pz, hpz⟩ : ∃ pz, pz = piece z := ⟨_, rfl⟩
        rw [← hpz] at hpc hps
        have HP := Lib.hid hpz
        clear hpz
        have HB : Hid (∀ {ops : Array Oper} {rest : List Oper} {o : Oper} {a : Act} {Q : Exit → Act → World → Prop} (_ : o.guard = none) (sl x : Operand) (_ : o.op = .call { callee := .builtin .append, args := #[sl, x], argTypes := #[40, 9] }) (_ : a.eval sl = .slice D os.length c) (_ : a.eval x = .string pz)
            (_ : ∀ v' w', Bytes w' (w.heap.size + 1) v' (os ++ bytesOf pz) → Below (w.heap.size + 1) wr w' → wpList Try.prog ops Q rest (a.put o.dst v') w'), wpList Try.prog ops Q (o :: rest) a wr) := by
          intro ops rest o a Q hg sl x ho hs hx hk
          refine Lib.wpList_append_own_string wr hg sl x 40 9 ho (w.heap.size + 1) 5 bi Try.underlying40 Try.underlying9 bi1 bi2 bi3 bi4 _ os.length (u8s os) hs hout pz hx (by simp only [maxLen]; omega) (by omega) (by omega) ?_
          intro v' w' h1 h2 _
          refine hk v' w' ?_ ((Below.refl _ _).grown h2 (by omega) fun j hj => (World.ownsRow.lt hout j hj).1)
          unfold Bytes
          rw [List.length_append, bytesOf_len, show u8s (os ++ bytesOf pz) = u8s os ++ Lib.strCells pz by rw [strCells_of]; simp [u8s]]
          exact h1
        go_wp2_with (
          refine HB.out (by rfl) _ _ (by rfl) (by rfl) (by rfl) ?_
          intro v3 w3 hb3 hbl3)
        go_roundw
        case rel =>
          refine ⟨k + 1, by go_num, by omega, by omega, ?_, hH.below hbl3 (by omega), hbr.trans (hbl3.mono (by omega))⟩
          rw [List.take_add_one, hzk, List.flatMap_append, ← HO.out]
          simpa [← HP.out] using hb3
        case measure => simp [intOf]; omega
      · have ek : k = 60 := by omega
        subst ek
        go_wp2_with fail
        go_ret
        refine ⟨_, rfl, ?_, hbr⟩
        unfold bytesFn
        rw [← HO.out]
        exact hout.base (Nat.le_succ _)
    · have ek : k = xs.length := by omega
      have e1 : bytesFn xs = os := by
        unfold bytesFn
        rw [HO.out, ek, List.take_length, List.take_of_length_le (by omega)]
      have E1 := Lib.hid e1
      clear e1
      subst ek
      go_wp2_with fail
      go_ret
      refine ⟨_, rfl, ?_, hbr⟩
      rw [E1.out]
      exact hout.base (Nat.le_succ _)
end Go.Proofs.Ytpcpmeihebgncaa.Esca

/-
  What stands at each place of a screen that was made smaller, or larger. Conditions: sides of at most a thousand.
-/
namespace Go.Proofs.Ytpcpmeihebgncaa
open Go.RowKit
set_option maxRecDepth 100000
set_option linter.unusedSimpArgs false

def cellAt (L : List (List C)) (y x : Nat) : C := (rowAt L y).getD x C.blank
theorem fitF_get (l : List C) (W : Nat) (hW : W ≤ 1000) (x : Nat) (hx : x < W) : (fitF l (W : Int)).getD x C.blank = l.getD x C.blank := by
  have hw : (withinF (W : Int) 1000).toNat = W := by unfold withinF; omega
  unfold fitF blankF blanksF
  rw [hw]
  simp only [splice, List.getD_eq_getElem?_getD]
  by_cases hl : x < l.length
  · have h2 : x < min W l.length := by omega
    simp [List.getElem?_append, h2, hl]
  · have h2 : ¬ x < min W l.length := by omega
    simp only [List.getElem?_append, List.take_zero, List.nil_append, List.length_take, h2, if_false, List.length_nil, Nat.zero_add, Nat.not_lt_zero, Nat.sub_zero, List.getElem?_drop, List.getElem?_replicate]
    rw [List.getElem?_eq_none (by omega)]
    split <;> rfl
theorem blankF_get (W : Nat) (x : Nat) : (blankF (W : Int)).getD x C.blank = C.blank := by
  unfold blankF blanksF
  simp only [List.getD_eq_getElem?_getD, List.getElem?_replicate]
  split <;> rfl
theorem fitted_row (L : List (List C)) (W H y : Nat) (hy : y < H) : rowAt (fittedF L (W : Int) H) y = if h : y < L.length then fitF L[y] (W : Int) else blankF (W : Int) := by
  rw [getD_at (by rw [fittedF_len]; exact hy)]
  by_cases h : y < L.length
  · rw [fittedF_in _ _ _ _ _ h, dif_pos h]
  · rw [fittedF_out _ _ _ _ _ h, dif_neg h]
theorem fitted_w (L : List (List C)) (W H y : Nat) (hW : W ≤ 1000) (hy : y < H) : (rowAt (fittedF L (W : Int) H) y).length = W := by
  rw [fitted_row L W H y hy]
  split
  · rw [fitF_len]; unfold withinF; omega
  · rw [blankF_len]; unfold withinF; omega
theorem fitted_at (L : List (List C)) (W H y x : Nat) (hW : W ≤ 1000) (hy : y < H) (hx : x < W) : cellAt (fittedF L (W : Int) H) y x = cellAt L y x := by
  unfold cellAt
  rw [fitted_row L W H y hy]
  split
  · rename_i h
    rw [fitF_get _ _ hW _ hx, getD_at h]
  · rename_i h
    rw [blankF_get]
    simp [rowAt, List.getD_eq_getElem?_getD, h]
/-- Made smaller, and as large as it was again. -/
theorem twice_at (L : List (List C)) (W H V G y x : Nat) (hW : W ≤ 1000) (hV : V ≤ 1000) (hy : y < G) (hx : x < V) : cellAt (fittedF (fittedF L (W : Int) H) (V : Int) G) y x = if x < W ∧ y < H then cellAt L y x else C.blank := by
  rw [fitted_at _ V G y x hV hy hx]
  by_cases h1 : y < H
  · by_cases h2 : x < W
    · rw [fitted_at L W H y x hW h1 h2, if_pos ⟨h2, h1⟩]
    · rw [if_neg (by omega)]
      unfold cellAt
      have := fitted_w L W H y hW h1
      simp [List.getD_eq_getElem?_getD, show (rowAt (fittedF L (W : Int) H) y).length ≤ x by omega]
  · rw [if_neg (by omega)]
    unfold cellAt
    have : ¬ y < (fittedF L (W : Int) H).length := by rw [fittedF_len]; exact h1
    simp [rowAt, List.getD_eq_getElem?_getD, this]
theorem fitted_wide (L : List (List C)) (W H : Nat) (hW : W ≤ 1000) : ∀ r ∈ fittedF L (W : Int) H, r.length ≤ 1000 := by
  intro r hr
  obtain ⟨y, hy, rfl⟩ := List.mem_iff_getElem.1 hr
  rw [fittedF_len] at hy
  have := fitted_w L W H y hW hy
  rw [getD_at (by rw [fittedF_len]; exact hy)] at this
  omega
/-- A cell that is shown, in memory. -/
theorem cell_at {B : Nat} {w : World} {D : Option Addr} {L : List (List C)} (h : Lines B w D L) (y x : Nat) (hx : x < (rowAt L y).length) : ∃ (tb tq rb ro c : Nat), D = some ⟨tb, tq, none⟩ ∧ w.cell? ⟨tb, tq + y, none⟩ = some (.slice (some ⟨rb, ro, none⟩) (rowAt L y).length c) ∧ (rowAt L y).length ≤ c ∧ w.cell? ⟨rb, ro + x * 2, none⟩ = some (.int .i32 (cellAt L y x).r) ∧ w.cell? ⟨rb, ro + x * 2 + 1, none⟩ = some (.int .i64 (cellAt L y x).a) := by
  have hy : y < L.length := by
    by_cases hy : y < L.length
    · exact hy
    · simp [rowAt, List.getD_eq_getElem?_getD, hy] at hx
  obtain ⟨tb, tq, R, cr, eD, _, _, _, t0, hcr, hr⟩ := h.at y hy
  rw [← getD_at hy] at t0 hcr hr
  obtain ⟨rb, ro, rfl, _, _, _, y0, y1⟩ := hr x hx
  refine ⟨tb, tq, rb, ro, cr, eD, t0, hcr, ?_, ?_⟩
  · rw [y0]; simp [cellAt, List.getD_eq_getElem?_getD, hx]
  · rw [y1]; simp [cellAt, List.getD_eq_getElem?_getD, hx]
end Go.Proofs.Ytpcpmeihebgncaa

/-
  A pane that lines are fed to: what it is behind n lines, reckoned for all heights up to 8 and all n up to 64. No condition.
-/
namespace Go.Proofs.Ytpcpmeihebgncaa
open Go.RowKit
set_option maxRecDepth 100000

def plB (i : Nat) : List Int := [65 + (i % 26 : Nat), 97 + (i / 26 : Nat)]
/-- Ahead of line i: on a new line. -/
def plN (i : Nat) (q : PM) : PM := if i = 0 then q else feedP q [13, 10]
def pl (h : Nat) : Nat → PM
  | 0 => newP 4 h
  | i + 1 => feedP (plN i (pl h i)) (plB i)
def wantL (n i : Nat) : Int × Int := if i < n then (65 + (i % 26 : Nat), 97 + (i / 26 : Nat)) else (32, 32)
def lchk (h n : Nat) (q : PM) : Bool := decide (q.s.L.length = h) && decide (q.s.B.length = min (n - h) 50) && decide (q.s.p.y = (min n h : Nat) - 1) && decide (q.s.p.x = 2) && ((List.range h).all fun y => decide (runeAt q.s.L y 0 = (wantL n (n - h + y)).1) && decide (runeAt q.s.L y 1 = (wantL n (n - h + y)).2)) && ((List.range q.s.B.length).all fun j => decide (runeAt q.s.B j 0 = 65 + ((n - h - q.s.B.length + j) % 26 : Nat)) && decide (1 ≤ (rowAt q.s.B j).length))
def lrun (h : Nat) : Nat → Nat → PM → Bool
  | 0, _, _ => true
  | f + 1, i, q => let q1 := feedP (plN i q) (plB i); lchk h (i + 1) q1 && lrun h f (i + 1) q1
theorem lrun_all : ((List.range 8).all fun h => lrun (h + 1) 64 0 (newP 4 (h + 1))) = true := by decide +kernel
theorem lrun_at {h : Nat} : ∀ (f i : Nat), lrun h f i (pl h i) = true → ∀ j, j < f → lchk h (i + j + 1) (pl h (i + j + 1)) = true
  | 0, _, _, j, hj => absurd hj (Nat.not_lt_zero _)
  | f + 1, i, hr, j, hj => by
    have hr' : (lchk h (i + 1) (pl h (i + 1)) && lrun h f (i + 1) (pl h (i + 1))) = true := hr
    rw [Bool.and_eq_true] at hr'
    cases j with
    | zero => exact hr'.1
    | succ j =>
      have := lrun_at f (i + 1) hr'.2 j (by omega)
      rwa [show i + 1 + j + 1 = i + (j + 1) + 1 by omega] at this
theorem lchk_all (h n : Nat) (hh : h < 8) (h0 : 1 ≤ n) (h1 : n ≤ 64) : lchk (h + 1) n (pl (h + 1) n) = true := by
  have := List.all_eq_true.1 lrun_all h (List.mem_range.2 hh)
  have := lrun_at 64 0 this (n - 1) (by omega)
  rwa [show 0 + (n - 1) + 1 = n by omega] at this
theorem pl_ok (h : Nat) (h0 : 1 ≤ h) (h1 : h ≤ 1000) : ∀ i, (pl h i).Ok 4 h
  | 0 => newP_ok 4 h (by omega) (by omega) h0 h1
  | i + 1 => by
    refine PM.Ok.feedP _ ?_
    unfold plN
    split
    · exact pl_ok h h0 h1 i
    · exact (pl_ok h h0 h1 i).feedP _
end Go.Proofs.Ytpcpmeihebgncaa
