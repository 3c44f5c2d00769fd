/-
  The walk of EscaMany: for every number of parameters, every row of numbers and every last byte the call answers true and writes nothing that was there.
-/
import Derived.Test.YtgpjphecgcfikaaDigits
namespace Go.Proofs.Ytgpjphecgcfikaa
open Go.RowKit

/-- Behind k parameters: the text is b, the numbers that are wanted W. -/
structure ManyAt (w : World) (N k : Nat) (b : ByteArray) (W : List Int) (wv : Value) (wr : World) : Prop where
  le : k ≤ N
  csi : ∃ par num, CsiAt (bytesOf b) par num ∧ (k = 0 → par = [] ∧ num = -1 ∧ W = []) ∧ (0 < k → W = wPar par num) ∧ (k = 1 → par = []) ∧ (2 ≤ k → par ≠ []) ∧ par.length ≤ 16
  want : Ints wr w.heap.size wv W
  len : W.length ≤ 16
  size : b.size ≤ 2 + 8 * k
  below : Below w.heap.size w wr
def ManyRel (w : World) (N : Nat) (sv wv iv : Value) (wr : World) : Prop := ∃ (k : Nat) (b : ByteArray) (W : List Int), iv = .int .i64 k ∧ sv = .string b ∧ ManyAt w N k b W wv wr

def semiB : ByteArray := ⟨#[59]⟩
/-- The text ahead of the k-th parameter's number. -/
theorem many_ahead {w : World} {N k : Nat} {b : ByteArray} {W : List Int} {wv : Value} {wr : World} (h : ManyAt w N k b W wv wr) :
    (k = 0 → W = [] ∧ CsiAt (bytesOf b) W (-1)) ∧ (0 < k → W ≠ [] ∧ CsiAt (bytesOf (b ++ semiB)) W (-1)) := by
  obtain ⟨par, num, h1, h2, h3, h4, h5, h6⟩ := h.csi
  refine ⟨fun hk => ?_, fun hk => ?_⟩
  · obtain ⟨rfl, rfl, rfl⟩ := h2 hk
    exact ⟨rfl, h1⟩
  · rw [h3 hk]
    refine ⟨?_, ?_⟩
    · unfold wPar
      split
      · rename_i hl
        intro he
        rw [he] at hl
        simp at hl
      · simp
    · rw [bytesOf_app]
      exact h1.semi
/-- What comes behind. -/
theorem many_next {w wr' : World} {N k : Nat} {b' : ByteArray} {W : List Int} {wv' : Value} {x : Int} (hk : k < N) (hW : W.length ≤ 16) (h0 : k = 0 → W = []) (h1 : 0 < k → W ≠ []) (hc : CsiAt (bytesOf b') W x) (hi : Ints wr' w.heap.size wv' (wPar W x)) (hs : b'.size ≤ 2 + 8 * (k + 1)) (hb : Below w.heap.size w wr') :
    ManyAt w N (k + 1) b' (wPar W x) wv' wr' :=
  ⟨hk, ⟨W, x, hc, fun h => by omega, fun _ => rfl, fun h => h0 (by omega), fun h => h1 (by omega), hW⟩, hi, wPar_len _ _ hW, hs, hb⟩

theorem wpList_append_int (w : World) {ops : Array Oper} {rest : List Oper} {o : Oper} {a : Act} {Q : Exit → Act → World → Prop} (hgd : o.guard = none) (s x : Operand)
    (ho : o.op = .call { callee := .builtin .append, args := #[s, x], argTypes := #[22, 22] }) (B : Nat) (v : Value) (W : List Int) (y : Int) (hs : a.eval s = v) (hx : a.eval x = .slice (some ⟨w.heap.size, 0, none⟩) 1 1)
    (hv : Ints w B v W) (hn : W.length ≤ 1000) (hb : B ≤ w.heap.size)
    (h : ∀ v' w', Ints w' B v' (W ++ [y]) → Below B w w' → wpList Try.prog ops Q rest (a.put o.dst v') w') : wpList Try.prog ops Q (o :: rest) a (w.alloc (.cells #[.int .i64 y] 3)) := by
  have hv' := hv.alloc (.cells #[.int .i64 y] 3)
  refine wpList_append_rows _ hgd s x 22 ho rowInt B w.heap.size W.length 1 v (.slice (some ⟨w.heap.size, 0, none⟩) 1 1) (i64s W) (i64s [y]) hs hx hv' (ints_one w w.heap.size y (Nat.le_refl _)) (i64s_one _) (by omega) (by simp; omega) ?_
  intro v' w' hap
  refine h v' w' ?_ (((Below.refl _ w).alloc hb _).trans (hap.below hv' (by simp; omega)))
  have := hap.own
  rw [i64s_app] at this
  unfold Ints
  rwa [List.length_append]
theorem many_end {k : Nat} {W par F : List Int} {num : Int} (hF : F = finPar (E.csi par num)) (h2 : k = 0 → par = [] ∧ num = -1 ∧ W = []) (h3 : 0 < k → W = wPar par num) (h4 : k = 1 → par = []) (h5 : 2 ≤ k → par ≠ []) :
    (k = 1 ∧ W = [-1] ∧ F = []) ∨ (k = 1 ∧ (∃ x, W = [x] ∧ ¬ x = -1) ∧ F = W) ∨ (¬ k = 1 ∧ F = W) := by
  unfold finPar E.csi at hF
  dsimp only at hF
  by_cases hk : k = 1
  · have hp := h4 hk
    subst hp
    have hW : W = [num] := by rw [h3 (by omega)]; rfl
    by_cases hn : num = -1
    · subst hn
      exact .inl ⟨hk, hW, by rw [hF]; rfl⟩
    · refine .inr (.inl ⟨hk, ⟨num, hW, hn⟩, ?_⟩)
      rw [hF, if_pos (.inl hn), h3 (by omega)]
  · refine .inr (.inr ⟨hk, ?_⟩)
    by_cases h0 : k = 0
    · obtain ⟨rfl, rfl, rfl⟩ := h2 h0
      rw [hF]
      rfl
    · rw [hF, if_pos (.inr (h5 (by omega))), h3 (by omega)]
theorem wPar_short (W : List Int) (x : Int) (h : W.length < 16) : wPar W x = W ++ [x] := by unfold wPar; rw [if_neg (by omega)]
theorem wPar_long (W : List Int) (x : Int) (h : 16 ≤ W.length) : wPar W x = W := by unfold wPar; rw [if_pos h]

set_option maxRecDepth 100000 in
set_option maxHeartbeats 8000000 in
theorem many_walk (n last : Int) (v : Value) (xs : List Int) (w : World) (hv : ReadI w v xs) (hxl : xs.length ≤ 9223372036854775807) :
    Calls Try.prog 4 #[.int .i64 n, v, .int .i64 last] w (TrueBelow w) := by
  obtain ⟨V, cv, rfl, hv⟩ := hv
  have HV := Lib.hid hv
  clear hv
  obtain ⟨N, hN, hN1⟩ : ∃ N : Nat, bits .and .i64 n 31 = (N : Int) ∧ N ≤ 31 := ⟨(n % 32).toNat, by rw [i64_and31]; omega, by omega⟩
  go_enter Try.func4, Try.ntmps4
  go_wp2_with fail
  go_loopw [7, 8, 9] (ManyRel w N) (fun _ _ i _ => N - (intOf i).toNat)
  case atStart =>
    exact ⟨0, ⟨#[27, 91]⟩, [], rfl, rfl, Nat.zero_le _, ⟨[], -1, CsiAt.zero, fun _ => ⟨rfl, rfl, rfl⟩, fun h => by omega, fun h => by omega, fun h => by omega, by decide⟩, ints_nil _ _, by decide, by decide, Below.refl _ _⟩
  case round =>
    obtain ⟨k, b, W, rfl, rfl, hat⟩ := hrel
    obtain ⟨ha0, ha1⟩ := many_ahead hat
    have hle := hat.le
    have hwant := hat.want
    have hWl := hat.len
    have hbs := hat.size
    have hbr := hat.below
    have HAT := Lib.hid hat
    clear hat
    obtain ⟨D, c, rfl⟩ := ints_form hwant
    have hz := hbr.size
    by_cases hlt : k < N
    · have hki : (k : Int) < (N : Int) := by omega
      by_cases hk0 : k = 0
      · obtain ⟨hW0, hc1⟩ := ha0 hk0
        subst hk0 hW0
        have hw0 : 0 = 0 → ([] : List Int) = [] := fun _ => rfl
        have hw1 : 0 < 0 → ([] : List Int) ≠ [] := fun h => by omega
        have hsz1 : b.size + 8 ≤ 2 + 8 * (0 + 1) := by omega
        clear ha0 ha1 HAT
        by_cases hx : 0 < xs.length
        · have hxi : (0 : Int) < (xs.length : Int) := by omega
          obtain ⟨vb, vo, z, rfl, hvb, hzk, hcell⟩ := HV.out 0 hx
          have hcell' : wr.cell? ⟨vb, vo, none⟩ = some (.int .i64 z) := (hbr.cell (p := ⟨vb, vo + 0, none⟩) hvb).trans hcell
          clear hcell hzk
          have hand := i64_and7 z
          by_cases hm : 0 < z % 8
          · obtain ⟨q, hq, hq1⟩ : ∃ q : Nat, bits .and .i64 (z / 8) 1048575 = (q : Int) ∧ q ≤ 1048575 := ⟨(z / 8 % 1048576).toNat, by rw [i64_and20]; omega, by omega⟩
            obtain ⟨x, hxm, hxq⟩ : ∃ x : Int, (if (65535 : Int) < (q : Int) then (65535 : Int) else (q : Int)) = x ∧ min (q : Int) 65535 = x := ⟨_, rfl, by split <;> omega⟩
            go_wp2_with fail
            refine (digits_any q hq1 _).mono ?_
            rintro e w2 ⟨db, rfl, hdb, hw2⟩
            have hds : db.size ≤ 7 := by
              have h1 := digs_len q (by omega)
              rw [← hdb, bytesOf_len] at h1
              exact h1
            have HDB := Lib.hid hdb
            clear hdb
            have hwant2 := hwant.below hw2 (Nat.le_refl _)
            have hb2 : Below w.heap.size w w2 := hbr.trans (hw2.mono hz)
            have hz2 := hb2.size
            go_wp2_with (
              refine wpList_append_int _ (by rfl) _ _ (by rfl) w.heap.size _ [] _ (by rfl) (by rfl) (by exact hwant2) (by omega) (by exact hb2.size) ?_
              intro v3 w3 hi3 hb3)
            go_roundw
            case rel =>
              exact ⟨0 + 1, _, wPar [] x, by go_num, rfl, many_next hlt (by decide) (fun _ => rfl) (fun h => absurd h (by decide)) (by rw [bytesOf_app, HDB.out, ← hxq]; exact hc1.digs q) (by rw [wPar_short [] _ (by decide)]; exact hi3) (by rw [ByteArray.size_append]; have := hsz1; omega) (hb2.trans hb3)⟩
            case measure => simp [intOf]; omega

          · have hm2 : ¬ (0 : Int) < z % 8 := hm
            go_wp2_with (
              refine wpList_append_int _ (by rfl) _ _ (by rfl) w.heap.size _ [] _ (by rfl) (by rfl) (by exact hwant) (by omega) (by exact hbr.size) ?_
              intro v3 w3 hi3 hb3)
            go_roundw
            case rel =>
              exact ⟨0 + 1, _, wPar [] (-1), by go_num, rfl, many_next hlt (by decide) (fun _ => rfl) (fun h => absurd h (by decide)) (hc1) (by rw [wPar_short [] _ (by decide)]; exact hi3) (by have := hsz1; omega) (hbr.trans hb3)⟩
            case measure => simp [intOf]; omega

        · have hxi : ¬ (0 : Int) < (xs.length : Int) := by omega
          go_wp2_with (
            refine wpList_append_int _ (by rfl) _ _ (by rfl) w.heap.size _ [] _ (by rfl) (by rfl) (by exact hwant) (by omega) (by exact hbr.size) ?_
            intro v3 w3 hi3 hb3)
          go_roundw
          case rel =>
            exact ⟨0 + 1, _, wPar [] (-1), by go_num, rfl, many_next hlt (by decide) (fun _ => rfl) (fun h => absurd h (by decide)) (hc1) (by rw [wPar_short [] _ (by decide)]; exact hi3) (by have := hsz1; omega) (hbr.trans hb3)⟩
          case measure => simp [intOf]; omega

      · have hkp : (0 : Int) < (k : Int) := by omega
        obtain ⟨hW1, hc1⟩ := ha1 (by omega)
        have hw0 : k = 0 → W = [] := fun h => by omega
        have hw1 : 0 < k → W ≠ [] := fun _ => hW1
        have hsz1 : (b ++ (⟨#[59]⟩ : ByteArray)).size + 7 ≤ 2 + 8 * (k + 1) := by rw [ByteArray.size_append]; have : (⟨#[59]⟩ : ByteArray).size = 1 := rfl; omega
        clear ha0 ha1
        by_cases hx : k < xs.length
        · have hxi : (k : Int) < (xs.length : Int) := by omega
          obtain ⟨vb, vo, z, rfl, hvb, hzk, hcell⟩ := HV.out k hx
          have hcell' : wr.cell? ⟨vb, vo + k, none⟩ = some (.int .i64 z) := (hbr.cell (p := ⟨vb, vo + k, none⟩) hvb).trans hcell
          clear hcell hzk
          have hand := i64_and7 z
          by_cases hm : 0 < z % 8
          · obtain ⟨q, hq, hq1⟩ : ∃ q : Nat, bits .and .i64 (z / 8) 1048575 = (q : Int) ∧ q ≤ 1048575 := ⟨(z / 8 % 1048576).toNat, by rw [i64_and20]; omega, by omega⟩
            obtain ⟨x, hxm, hxq⟩ : ∃ x : Int, (if (65535 : Int) < (q : Int) then (65535 : Int) else (q : Int)) = x ∧ min (q : Int) 65535 = x := ⟨_, rfl, by split <;> omega⟩
            by_cases hsh : W.length < 16
            · have hWs : (W.length : Int) < 16 := by omega
              go_wp2_with fail
              refine (digits_any q hq1 _).mono ?_
              rintro e w2 ⟨db, rfl, hdb, hw2⟩
              have hds : db.size ≤ 7 := by
                have h1 := digs_len q (by omega)
                rw [← hdb, bytesOf_len] at h1
                exact h1
              have HDB := Lib.hid hdb
              clear hdb
              have hwant2 := hwant.below hw2 (Nat.le_refl _)
              have hb2 : Below w.heap.size w w2 := hbr.trans (hw2.mono hz)
              have hz2 := hb2.size
              go_wp2_with (
                refine wpList_append_int _ (by rfl) _ _ (by rfl) w.heap.size _ W _ (by rfl) (by rfl) (by exact hwant2) (by omega) (by exact hb2.size) ?_
                intro v3 w3 hi3 hb3)
              go_roundw
              case rel =>
                exact ⟨k + 1, _, wPar W x, by go_num, rfl, many_next hlt hWl hw0 hw1 (by rw [bytesOf_app, HDB.out, ← hxq]; exact hc1.digs q) (by rw [wPar_short W _ (by omega)]; exact hi3) (by rw [ByteArray.size_append]; have := hsz1; omega) (hb2.trans hb3)⟩
              case measure => simp [intOf]; omega

            · have hWs : ¬ (W.length : Int) < 16 := by omega
              have hWs2 : (16 : Int) ≤ (W.length : Int) := by omega
              go_wp2_with fail
              refine (digits_any q hq1 _).mono ?_
              rintro e w2 ⟨db, rfl, hdb, hw2⟩
              have hds : db.size ≤ 7 := by
                have h1 := digs_len q (by omega)
                rw [← hdb, bytesOf_len] at h1
                exact h1
              have HDB := Lib.hid hdb
              clear hdb
              have hwant2 := hwant.below hw2 (Nat.le_refl _)
              have hb2 : Below w.heap.size w w2 := hbr.trans (hw2.mono hz)
              have hz2 := hb2.size
              go_wp2_with fail
              go_roundw
              case rel =>
                exact ⟨k + 1, _, wPar W x, by go_num, rfl, many_next hlt hWl hw0 hw1 (by rw [bytesOf_app, HDB.out, ← hxq]; exact hc1.digs q) (by rw [wPar_long W _ (by omega)]; exact hwant2) (by rw [ByteArray.size_append]; have := hsz1; omega) (hb2)⟩
              case measure => simp [intOf]; omega

          · have hm2 : ¬ (0 : Int) < z % 8 := hm
            by_cases hsh : W.length < 16
            · have hWs : (W.length : Int) < 16 := by omega
              go_wp2_with (
                refine wpList_append_int _ (by rfl) _ _ (by rfl) w.heap.size _ W _ (by rfl) (by rfl) (by exact hwant) (by omega) (by exact hbr.size) ?_
                intro v3 w3 hi3 hb3)
              go_roundw
              case rel =>
                exact ⟨k + 1, _, wPar W (-1), by go_num, rfl, many_next hlt hWl hw0 hw1 (hc1) (by rw [wPar_short W _ (by omega)]; exact hi3) (by have := hsz1; omega) (hbr.trans hb3)⟩
              case measure => simp [intOf]; omega

            · have hWs : ¬ (W.length : Int) < 16 := by omega
              have hWs2 : (16 : Int) ≤ (W.length : Int) := by omega
              go_wp2_with fail
              go_roundw
              case rel =>
                exact ⟨k + 1, _, wPar W (-1), by go_num, rfl, many_next hlt hWl hw0 hw1 (hc1) (by rw [wPar_long W _ (by omega)]; exact hwant) (by have := hsz1; omega) (hbr)⟩
              case measure => simp [intOf]; omega

        · have hxi : ¬ (k : Int) < (xs.length : Int) := by omega
          by_cases hsh : W.length < 16
          · have hWs : (W.length : Int) < 16 := by omega
            go_wp2_with (
              refine wpList_append_int _ (by rfl) _ _ (by rfl) w.heap.size _ W _ (by rfl) (by rfl) (by exact hwant) (by omega) (by exact hbr.size) ?_
              intro v3 w3 hi3 hb3)
            go_roundw
            case rel =>
              exact ⟨k + 1, _, wPar W (-1), by go_num, rfl, many_next hlt hWl hw0 hw1 (hc1) (by rw [wPar_short W _ (by omega)]; exact hi3) (by have := hsz1; omega) (hbr.trans hb3)⟩
            case measure => simp [intOf]; omega

          · have hWs : ¬ (W.length : Int) < 16 := by omega
            have hWs2 : (16 : Int) ≤ (W.length : Int) := by omega
            go_wp2_with fail
            go_roundw
            case rel =>
              exact ⟨k + 1, _, wPar W (-1), by go_num, rfl, many_next hlt hWl hw0 hw1 (hc1) (by rw [wPar_long W _ (by omega)]; exact hwant) (by have := hsz1; omega) (hbr)⟩
            case measure => simp [intOf]; omega

    · have ek : k = N := by omega
      obtain ⟨par, num, h1, h2, h3, h4, h5, h6⟩ := HAT.out.csi
      clear HAT ha0 ha1
      subst ek
      obtain ⟨q, hq, hq1⟩ : ∃ q : Nat, bits .and .i64 last 255 = (q : Int) ∧ q ≤ 255 := ⟨(last % 256).toNat, by rw [i64_and255]; omega, by omega⟩
      have hR0 : 64 ≤ 64 + (q : Int) % 63 := by omega
      have hR1 : 64 + (q : Int) % 63 ≤ 126 := by omega
      obtain ⟨R, hR⟩ : ∃ R : Int, 64 + (q : Int) % 63 = R := ⟨_, rfl⟩
      rw [hR] at hR0 hR1
      have hlast := h1.last hR0 hR1
      obtain ⟨F, hF⟩ : ∃ F, F = finPar (E.csi par num) := ⟨_, rfl⟩
      rw [← hF] at hlast
      have HL := Lib.hid hlast
      clear hlast
      have hcases : (k = 1 ∧ W = [-1] ∧ F = []) ∨ (k = 1 ∧ (∃ x, W = [x] ∧ ¬ x = -1) ∧ F = W) ∨ (¬ k = 1 ∧ F = W) := many_end hF h2 h3 h4 h5
      clear h1 h2 h3 h4 h5 h6 hF
      rcases hcases with ⟨rfl, rfl, rfl⟩ | ⟨rfl, ⟨y, rfl, hy⟩, rfl⟩ | ⟨hk1, rfl⟩
      · obtain ⟨Dr, cr, er, rr⟩ := hwant.read
        obtain ⟨br, zr, hDr, hzr, hcr⟩ := rr 0 (by decide)
        simp only [Value.slice.injEq] at er
        obtain ⟨rfl, _, rfl⟩ := er
        subst hDr
        obtain rfl : zr = -1 := by simpa using hzr.symm
        obtain ⟨cap, W2, hcv, hmk, hbw, hsz0⟩ := conv_mark wr b
        clear hsz0
        have hwz2 := hbw.size
        go_wp2_with (
          refine wpList_append_mark _ (by rfl) _ _ (by rfl) (g := wr.heap.size) (h := W2.heap.size) (cap := cap) (b := b) (z := R) (by rfl) (by rfl) (by exact hmk.alloc _) (by exact ((Held.new W2 5 #[.int .u8 R]).cell 0).trans rfl) (by omega) (by omega) (by omega) (Nat.le_refl wr.heap.size) ?_
          intro v3 w3 hrd hb3)
        have b2 : Below w.heap.size w W2 := hbr.trans (hbw.mono hz)
        have b3 : Below w.heap.size w w3 := (b2.alloc b2.size _).trans (hb3.mono hz)
        obtain ⟨l1, l2⟩ := HL.out
        refine (feedZ _ _ l1 l2 _ _ (by exact hrd) (by rw [List.length_append, bytesOf_len]; simp; omega)).mono ?_
        rintro e w4 ⟨D4, c4, v4, rfl, hp4, ha4, hw4⟩
        clear l1 l2
        unfold zeroV
        have hwW : Ints w4 0 _ [] := ((Ints.below (ints_nil wr 0) ((hbw.alloc hbw.size _).trans hb3) (Nat.le_refl _)).below hw4 (Nat.le_refl _)).base (Nat.zero_le _)
        have b4 : Below w.heap.size w w4 := b3.trans (hw4.mono b3.size)
        go_wp2_with fail
        refine (sameZ _ _ _ _ 0 0 _ (by exact (hp4.base (Nat.zero_le _)).alloc _) (by exact ints_nil _ _)).mono ?_
        rintro e w5 ⟨rfl, hw5⟩
        have ha5 := ((ha4.base (Nat.zero_le _)).alloc _).below hw5 (Nat.le_refl _)
        have hw5i := (hwW.alloc _).below hw5 (Nat.le_refl _)
        have b5 : Below w.heap.size w w5 := (b4.alloc b4.size _).trans (hw5.mono (by have := b4.size; simp; omega))
        go_wp2_with fail
        refine (sameActions_any _ _ _ 0 0 _ (by exact ha5.alloc _) (by exact acts_lit1 _ _ hw5i (Nat.zero_le _)) (by simp) (by first | (simp; done) | (simp; omega))).mono ?_
        rintro e w6 ⟨rfl, m6, rfl⟩
        go_wp2_with fail
        refine (awake_any _).mono ?_
        rintro e w7 ⟨rfl, hw7⟩
        go_wp2_with fail
        go_ret
        exact ⟨rfl, (below_drewN (b5.alloc b5.size _) m6).trans (hw7.mono (by have := b5.size; simp; omega))⟩
      · obtain ⟨Dr, cr, er, rr⟩ := hwant.read
        obtain ⟨br, zr, hDr, hzr, hcr⟩ := rr 0 (by simp)
        simp only [Value.slice.injEq] at er
        obtain ⟨rfl, _, rfl⟩ := er
        subst hDr
        obtain rfl : zr = y := by simpa using hzr.symm
        obtain ⟨cap, W2, hcv, hmk, hbw, hsz0⟩ := conv_mark wr b
        clear hsz0
        have hwz2 := hbw.size
        go_wp2_with (
          refine wpList_append_mark _ (by rfl) _ _ (by rfl) (g := wr.heap.size) (h := W2.heap.size) (cap := cap) (b := b) (z := R) (by rfl) (by rfl) (by exact hmk.alloc _) (by exact ((Held.new W2 5 #[.int .u8 R]).cell 0).trans rfl) (by omega) (by omega) (by omega) (Nat.le_refl wr.heap.size) ?_
          intro v3 w3 hrd hb3)
        have b2 : Below w.heap.size w W2 := hbr.trans (hbw.mono hz)
        have b3 : Below w.heap.size w w3 := (b2.alloc b2.size _).trans (hb3.mono hz)
        obtain ⟨l1, l2⟩ := HL.out
        refine (feedZ _ _ l1 l2 _ _ (by exact hrd) (by rw [List.length_append, bytesOf_len]; simp; omega)).mono ?_
        rintro e w4 ⟨D4, c4, v4, rfl, hp4, ha4, hw4⟩
        clear l1 l2
        unfold zeroV
        have hwW : Ints w4 0 _ [zr] := ((Ints.below hwant ((hbw.alloc hbw.size _).trans hb3) (Nat.le_refl _)).below hw4 (Nat.le_refl _)).base (Nat.zero_le _)
        have b4 : Below w.heap.size w w4 := b3.trans (hw4.mono b3.size)
        go_wp2_with fail
        refine (sameZ _ _ _ _ 0 0 _ (by exact (hp4.base (Nat.zero_le _)).alloc _) (by exact ints_nil _ _)).mono ?_
        rintro e w5 ⟨rfl, hw5⟩
        have ha5 := ((ha4.base (Nat.zero_le _)).alloc _).below hw5 (Nat.le_refl _)
        have hw5i := (hwW.alloc _).below hw5 (Nat.le_refl _)
        have b5 : Below w.heap.size w w5 := (b4.alloc b4.size _).trans (hw5.mono (by have := b4.size; simp; omega))
        go_wp2_with fail
        refine (sameActions_any _ _ _ 0 0 _ (by exact ha5.alloc _) (by exact acts_lit1 _ _ hw5i (Nat.zero_le _)) (by simp) (by first | (simp; done) | (simp; omega))).mono ?_
        rintro e w6 ⟨rfl, m6, rfl⟩
        go_wp2_with fail
        refine (awake_any _).mono ?_
        rintro e w7 ⟨rfl, hw7⟩
        go_wp2_with fail
        go_ret
        exact ⟨rfl, (below_drewN (b5.alloc b5.size _) m6).trans (hw7.mono (by have := b5.size; simp; omega))⟩
      · have hk1i : ¬ (k : Int) = 1 := by omega
        obtain ⟨cap, W2, hcv, hmk, hbw, hsz0⟩ := conv_mark wr b
        clear hsz0
        have hwz2 := hbw.size
        go_wp2_with (
          refine wpList_append_mark _ (by rfl) _ _ (by rfl) (g := wr.heap.size) (h := W2.heap.size) (cap := cap) (b := b) (z := R) (by rfl) (by rfl) (by exact hmk.alloc _) (by exact ((Held.new W2 5 #[.int .u8 R]).cell 0).trans rfl) (by omega) (by omega) (by omega) (Nat.le_refl wr.heap.size) ?_
          intro v3 w3 hrd hb3)
        have b2 : Below w.heap.size w W2 := hbr.trans (hbw.mono hz)
        have b3 : Below w.heap.size w w3 := (b2.alloc b2.size _).trans (hb3.mono hz)
        obtain ⟨l1, l2⟩ := HL.out
        refine (feedZ _ _ l1 l2 _ _ (by exact hrd) (by rw [List.length_append, bytesOf_len]; simp; omega)).mono ?_
        rintro e w4 ⟨D4, c4, v4, rfl, hp4, ha4, hw4⟩
        clear l1 l2
        unfold zeroV
        have hwW : Ints w4 0 _ F := ((Ints.below hwant ((hbw.alloc hbw.size _).trans hb3) (Nat.le_refl _)).below hw4 (Nat.le_refl _)).base (Nat.zero_le _)
        have b4 : Below w.heap.size w w4 := b3.trans (hw4.mono b3.size)
        go_wp2_with fail
        refine (sameZ _ _ _ _ 0 0 _ (by exact (hp4.base (Nat.zero_le _)).alloc _) (by exact ints_nil _ _)).mono ?_
        rintro e w5 ⟨rfl, hw5⟩
        have ha5 := ((ha4.base (Nat.zero_le _)).alloc _).below hw5 (Nat.le_refl _)
        have hw5i := (hwW.alloc _).below hw5 (Nat.le_refl _)
        have b5 : Below w.heap.size w w5 := (b4.alloc b4.size _).trans (hw5.mono (by have := b4.size; simp; omega))
        go_wp2_with fail
        refine (sameActions_any _ _ _ 0 0 _ (by exact ha5.alloc _) (by exact acts_lit1 _ _ hw5i (Nat.zero_le _)) (by simp) (by first | (simp; done) | (simp; omega))).mono ?_
        rintro e w6 ⟨rfl, m6, rfl⟩
        go_wp2_with fail
        refine (awake_any _).mono ?_
        rintro e w7 ⟨rfl, hw7⟩
        go_wp2_with fail
        go_ret
        exact ⟨rfl, (below_drewN (b5.alloc b5.size _) m6).trans (hw7.mono (by have := b5.size; simp; omega))⟩
end Go.Proofs.Ytgpjphecgcfikaa
