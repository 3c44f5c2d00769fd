/-
  What Bytes of the statements' package makes of a row of numbers: the pieces that they name, one behind the other. Conditions: none (it takes sixty numbers at most).
-/
import Derived.Test.YtgpjphecgcfikaaConv
import Derived.Lib.AppendStr
namespace Go.Proofs.Ytgpjphecgcfikaa
open Go.RowKit

/-- A slice value v that reads as the numbers xs. -/
def ReadI (w : World) (v : Value) (xs : List Int) : Prop := ∃ D c, v = .slice D xs.length c ∧ ∀ k : Nat, k < xs.length → ∃ (b off : Nat) (z : Int), D = some ⟨b, off, none⟩ ∧ b < w.heap.size ∧ xs[k]? = some z ∧ w.cell? ⟨b, off + k, none⟩ = some (.int .i64 z)
theorem ReadI.below {w w' : World} {B : Nat} {v : Value} {xs : List Int} (h : ReadI w v xs) (hb : Below B w w') (hB : w.heap.size ≤ B) : ReadI w' v xs := by
  obtain ⟨D, c, rfl, h⟩ := h
  refine ⟨D, c, rfl, fun k hk => ?_⟩
  obtain ⟨b, off, z, e1, e2, e3, e4⟩ := h k hk
  exact ⟨b, off, z, e1, Nat.lt_of_lt_of_le e2 hb.size, e3, (hb.cell (p := ⟨b, off + k, none⟩) (Nat.lt_of_lt_of_le e2 hB)).trans e4⟩

def pieces : List ByteArray := [⟨#[97]⟩, ⟨#[98, 99]⟩, ⟨#[13]⟩, ⟨#[10]⟩, ⟨#[9]⟩, ⟨#[8]⟩, ⟨#[27]⟩, ⟨#[91]⟩, ⟨#[93]⟩, ⟨#[65]⟩, ⟨#[66]⟩, ⟨#[67]⟩, ⟨#[68]⟩, ⟨#[71]⟩, ⟨#[72]⟩, ⟨#[74]⟩, ⟨#[75]⟩, ⟨#[76]⟩, ⟨#[77]⟩, ⟨#[80]⟩, ⟨#[64]⟩, ⟨#[88]⟩, ⟨#[83]⟩, ⟨#[84]⟩, ⟨#[114]⟩, ⟨#[109]⟩, ⟨#[100]⟩, ⟨#[104]⟩, ⟨#[108]⟩, ⟨#[48]⟩, ⟨#[49]⟩, ⟨#[50]⟩, ⟨#[51]⟩, ⟨#[53]⟩, ⟨#[55]⟩, ⟨#[50, 53]⟩, ⟨#[51, 49]⟩, ⟨#[52, 52]⟩, ⟨#[57, 57, 57, 57, 57]⟩, ⟨#[59]⟩, ⟨#[63]⟩, ⟨#[24]⟩, ⟨#[26]⟩, ⟨#[7]⟩, ⟨#[27, 92]⟩, ⟨#[27, 91]⟩, ⟨#[27, 91, 63]⟩, ⟨#[27, 91, 50, 59, 51, 72]⟩, ⟨#[27, 91, 49, 59, 51, 49, 109]⟩, ⟨#[27, 91, 50, 74]⟩, ⟨#[27, 91, 75]⟩, ⟨#[27, 55]⟩, ⟨#[27, 56]⟩, ⟨#[27, 77]⟩, ⟨#[27, 68]⟩, ⟨#[27, 69]⟩, ⟨#[27, 99]⟩, ⟨#[27, 91, 50, 59, 52, 114]⟩, ⟨#[27, 91, 63, 55, 108]⟩, ⟨#[27, 91, 63, 50, 53, 108]⟩, ⟨#[27, 91, 51, 76]⟩, ⟨#[27, 91, 50, 77]⟩, ⟨#[195, 169]⟩, ⟨#[226, 130, 172]⟩, ⟨#[240, 159, 152, 128]⟩, ⟨#[195]⟩, ⟨#[255]⟩, ⟨#[128]⟩, ⟨#[32]⟩, ⟨#[58]⟩, ⟨#[127]⟩, ⟨#[27, 93, 48, 59, 116, 7]⟩, ⟨#[27, 80, 113, 27, 92]⟩, ⟨#[27, 40, 66]⟩, ⟨#[194, 133]⟩, ⟨#[104, 101, 108, 108, 111, 44, 32, 119, 111, 114, 108, 100]⟩]
def piece (n : Int) : ByteArray := pieces.getD (n % 65536 % 76).toNat ⟨#[]⟩
def bytesFn (l : List Int) : List Int := (l.take 60).flatMap fun n => bytesOf (piece n)
theorem pieces_small : pieces.all (fun b => decide (b.size ≤ 12)) = true := by decide
theorem piece_size (n : Int) : (piece n).size ≤ 12 := by
  unfold piece
  rw [List.getD_eq_getElem?_getD]
  cases h : pieces[(n % 65536 % 76).toNat]? with
  | none => decide
  | some b => exact of_decide_eq_true (List.all_eq_true.1 pieces_small b (List.mem_of_getElem? h))
theorem flat_len (l : List Int) : (l.flatMap fun n => bytesOf (piece n)).length ≤ 12 * l.length := by
  induction l with
  | nil => simp
  | cons a l ih =>
    have := piece_size a
    simp only [List.flatMap_cons, List.length_append, List.length_cons, bytesOf_len]
    omega
theorem bytesFn_len (l : List Int) : (bytesFn l).length ≤ 720 := by
  have h1 := flat_len (l.take 60)
  have h2 : (l.take 60).length ≤ 60 := List.length_take_le 60 l
  unfold bytesFn
  omega
theorem flat_ok (l : List Int) : ∀ z ∈ l.flatMap fun n => bytesOf (piece n), 0 ≤ z ∧ z ≤ 255 := by
  intro z hz
  obtain ⟨n, _, hn⟩ := List.mem_flatMap.1 hz
  exact bytesOf_ok _ z hn
theorem bytesFn_ok (l : List Int) : ∀ z ∈ bytesFn l, 0 ≤ z ∧ z ≤ 255 := flat_ok _

def pieceCells : Array Value := (pieces.map Value.string).toArray
theorem strCells_of (b : ByteArray) : Lib.strCells b = u8s (bytesOf b) := by
  simp [Lib.strCells, u8s, bytesOf]
def BytesPost (w : World) (bs : List Int) (x : Ending) (w' : World) : Prop := ∃ v, x = .returned v ∧ Bytes w' w.heap.size v bs ∧ Below w.heap.size w w'
def BytesRel (w : World) (xs : List Int) (out i : Value) (wr : World) : Prop := ∃ k : Nat, i = .int .i64 k ∧ k ≤ xs.length ∧ k ≤ 60 ∧ Bytes wr (w.heap.size + 1) out ((xs.take k).flatMap fun n => bytesOf (piece n)) ∧ Held wr w.heap.size 9 pieceCells ∧ Below w.heap.size w wr

theorem byteInfo : ∃ i, Try.prog.info? 5 = some i ∧ i.zero = some (.int .u8 0) ∧ i.size = 1 ∧ i.bytes = 1 := by
  have hi : (Try.prog.info? 5).map (fun i => (i.zero, i.size, i.bytes)) = some (some (.int .u8 0), 1, 1) := by kernel_rfl
  cases hh : Try.prog.info? 5 with
  | none => simp [hh] at hi
  | some i =>
    simp only [hh, Option.map_some, Option.some.injEq, Prod.mk.injEq] at hi
    exact ⟨i, rfl, hi.1, hi.2.1, hi.2.2⟩

set_option maxRecDepth 100000 in
set_option maxHeartbeats 2000000 in
theorem bytes_any (v : Value) (xs : List Int) (w : World) (hv : ReadI w v xs) :
    Calls Try.prog 16 #[v] w (BytesPost w (bytesFn xs)) := by
  obtain ⟨V, cv, rfl, hv⟩ := hv
  have HV := Lib.hid hv
  clear hv
  obtain ⟨bi, bi1, bi2, bi3, bi4⟩ := byteInfo
  go_enter Try.func16, Try.ntmps16
  go_wp2_with fail
  go_loopw [4, 5] (BytesRel w xs) (fun _ i _ => 60 - (intOf i).toNat)
  case atStart => exact ⟨0, rfl, Nat.zero_le _, Nat.zero_le _, bytes_nil _ _, Held.new _ _ _, (Below.refl _ _).alloc (Nat.le_refl _) _⟩
  case round =>
    obtain ⟨k, rfl, hle, hle6, hout, hH, hbr⟩ := hrel
    have hz := hH.lt
    have hfl := flat_len (xs.take k)
    have hfk := List.length_take_le k xs
    obtain ⟨os, hos⟩ : ∃ os, os = (xs.take k).flatMap fun n => bytesOf (piece n) := ⟨_, rfl⟩
    rw [← hos] at hout hfl
    have HO := Lib.hid hos
    clear hos
    obtain ⟨D, c, rfl⟩ := bytes_form hout
    by_cases hlt : k < xs.length
    · have hki : (k : Int) < (xs.length : Int) := by omega
      by_cases hlt6 : k < 60
      · have hk6 : (k : Int) < 60 := by omega
        obtain ⟨vb, vo, z, rfl, hvb, hzk, hcell⟩ := HV.out k hlt
        have hcell' : wr.cell? ⟨vb, vo + k, none⟩ = some (.int .i64 z) := (hbr.cell (p := ⟨vb, vo + k, none⟩) hvb).trans hcell
        clear hcell
        obtain ⟨q, hq, q1⟩ : ∃ q : Nat, bits .and .i64 z 65535 = (q : Int) ∧ q ≤ 65535 := ⟨(z % 65536).toNat, by rw [i64_and65535]; omega, by omega⟩
        have hm1 : ((q : Int).tmod 76) < 76 := by rw [Int.tmod_eq_emod_of_nonneg (by omega)]; omega
        have hm0 : 0 ≤ ((q : Int).tmod 76) := by rw [Int.tmod_eq_emod_of_nonneg (by omega)]; omega
        have hpc : wr.cell? ⟨w.heap.size, q % 76, none⟩ = some (.string (piece z)) := by
          rw [hH.cell]
          have e1 : (z % 65536 % 76).toNat = q % 76 := by rw [i64_and65535] at hq; omega
          unfold pieceCells piece
          rw [e1]
          have hl : q % 76 < pieces.length := Nat.mod_lt _ (by decide)
          simp [List.getD_eq_getElem?_getD, hl]
        have hps := piece_size z
        obtain ⟨pz, hpz⟩ : ∃ pz, pz = piece z := ⟨_, rfl⟩
        rw [← hpz] at hpc hps
        have HP := Lib.hid hpz
        clear hpz
        have HB : Hid (∀ {ops : Array Oper} {rest : List Oper} {o : Oper} {a : Act} {Q : Exit → Act → World → Prop} (_ : o.guard = none) (sl x : Operand) (_ : o.op = .call { callee := .builtin .append, args := #[sl, x], argTypes := #[36, 9] }) (_ : a.eval sl = .slice D os.length c) (_ : a.eval x = .string pz)
            (_ : ∀ v' w', Bytes w' (w.heap.size + 1) v' (os ++ bytesOf pz) → Below (w.heap.size + 1) wr w' → wpList Try.prog ops Q rest (a.put o.dst v') w'), wpList Try.prog ops Q (o :: rest) a wr) := by
          intro ops rest o a Q hg sl x ho hs hx hk
          refine Lib.wpList_append_own_string wr hg sl x 36 9 ho (w.heap.size + 1) 5 bi Try.underlying36 Try.underlying9 bi1 bi2 bi3 bi4 _ os.length (u8s os) hs hout pz hx (by simp only [maxLen]; omega) (by omega) (by omega) ?_
          intro v' w' h1 h2 _
          refine hk v' w' ?_ ((Below.refl _ _).grown h2 (by omega) fun j hj => (World.ownsRow.lt hout j hj).1)
          unfold Bytes
          rw [List.length_append, bytesOf_len, show u8s (os ++ bytesOf pz) = u8s os ++ Lib.strCells pz by rw [strCells_of]; simp [u8s]]
          exact h1
        go_wp2_with (
          refine HB.out (by rfl) _ _ (by rfl) (by rfl) (by rfl) ?_
          intro v3 w3 hb3 hbl3)
        go_roundw
        case rel =>
          refine ⟨k + 1, by go_num, by omega, by omega, ?_, hH.below hbl3 (by omega), hbr.trans (hbl3.mono (by omega))⟩
          rw [List.take_add_one, hzk, List.flatMap_append, ← HO.out]
          simpa [← HP.out] using hb3
        case measure => simp [intOf]; omega
      · have ek : k = 60 := by omega
        subst ek
        go_wp2_with fail
        go_ret
        refine ⟨_, rfl, ?_, hbr⟩
        unfold bytesFn
        rw [← HO.out]
        exact hout.base (Nat.le_succ _)
    · have ek : k = xs.length := by omega
      have e1 : bytesFn xs = os := by
        unfold bytesFn
        rw [HO.out, ek, List.take_length, List.take_of_length_le (by omega)]
      have E1 := Lib.hid e1
      clear e1
      subst ek
      go_wp2_with fail
      go_ret
      refine ⟨_, rfl, ?_, hbr⟩
      rw [E1.out]
      exact hout.base (Nat.le_succ _)
end Go.Proofs.Ytgpjphecgcfikaa
