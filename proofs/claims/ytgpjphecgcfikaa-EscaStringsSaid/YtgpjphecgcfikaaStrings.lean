/-
  The walk of EscaStrings: for every row of bytes and every two numbers the call answers true and writes nothing that was there.
-/
import Derived.Test.YtgpjphecgcfikaaRaw
import Derived.Test.YtgpjphecgcfikaaLit
namespace Go.Proofs.Ytgpjphecgcfikaa
open Go.RowKit

/-- Behind k bytes: the bytes so far in b. -/
def StrRel (w : World) (c : Int) (xs : List Int) (bv iv : Value) (wr : World) : Prop := ∃ k : Nat, iv = .int .i64 k ∧ k ≤ xs.length ∧ Bytes wr w.heap.size bv (27 :: c :: (xs.take k).filter passes) ∧ Below w.heap.size w wr
theorem filt_len (xs : List Int) (k : Nat) : ((xs.take k).filter passes).length ≤ xs.length := Nat.le_trans (List.length_filter_le _ _) (List.length_take_le' _ _)
/-- What stands behind the last feed into new variables. -/
def StrEnd (wq : World) (p v : Value) (wx : World) : Prop := ∃ (T : Nat) (D : Option Addr) (c : Nat) (Dv : Option Addr) (cv : Nat), p = .pointer (some ⟨T, 0, none⟩) ∧ v = .slice Dv 0 cv ∧ Held wx T 33 (zeroC D c) ∧ Ints wx wq.heap.size (.slice D 0 c) [] ∧ Below wq.heap.size wq wx

theorem wpList_append_b (w : World) {ops : Array Oper} {rest : List Oper} {o : Oper} {a : Act} {Q : Exit → Act → World → Prop} (hgd : o.guard = none) (s x : Operand)
    (ho : o.op = .call { callee := .builtin .append, args := #[s, x], argTypes := #[36, 36] }) (B : Nat) (v : Value) (bs : List Int) (y : Int) (hs : a.eval s = v) (hx : a.eval x = .slice (some ⟨w.heap.size, 0, none⟩) 1 1)
    (hv : Bytes w B v bs) (hn : bs.length ≤ 1000) (hb : B ≤ w.heap.size)
    (h : ∀ v' w', Bytes w' B v' (bs ++ [y]) → Below B w w' → wpList Try.prog ops Q rest (a.put o.dst v') w') : wpList Try.prog ops Q (o :: rest) a (w.alloc (.cells #[.int .u8 y] 5)) := by
  have hv' := hv.alloc (.cells #[.int .u8 y] 5)
  refine wpList_append_rows _ hgd s x 36 ho rowByte B w.heap.size bs.length 1 v (.slice (some ⟨w.heap.size, 0, none⟩) 1 1) (u8s bs) (u8s [y]) hs hx hv' (bytes_lit w w.heap.size [y] 1 rfl (Nat.le_refl _) (by decide)) (u8s_one _) (by omega) (by simp; omega) ?_
  intro v' w' hap
  refine h v' w' ?_ (((Below.refl _ w).alloc hb _).trans (hap.below hv' (by simp; omega)))
  have := hap.own
  rw [show u8s bs ++ u8s [y] = u8s (bs ++ [y]) by simp [u8s]] at this
  unfold Bytes
  rwa [List.length_append]

theorem str_of {w : World} {x : Ending} {w' : World} (h : StepP w.heap.size w E.str [] x w') : ∃ D c Dv cv, x = .returned (.tuple #[strV D c, .slice Dv 0 cv]) ∧ Ints w' w.heap.size (.slice D 0 c) [] ∧ Below w.heap.size w w' := by
  obtain ⟨p, v, rfl, hp, ha, hb⟩ := h
  obtain ⟨D, c, rfl⟩ := ints_form hp
  obtain ⟨Dv, cv, rfl⟩ := acts_form ha
  exact ⟨D, c, Dv, cv, rfl, hp, hb⟩
/-- Ahead of the string's end: s lies in block S. -/
structure StrAt (w : World) (S : Nat) (D : Option Addr) (c : Nat) (wq : World) : Prop where
  box : Held wq S 33 #[.int .i64 3, .int .i64 0, .int .i64 0, .int .i64 0, .slice D 0 c, .int .i64 0, .bool false, .bool false]
  par : Ints wq 0 (.slice D 0 c) []
  below : Below w.heap.size w wq

set_option maxRecDepth 100000 in
set_option maxHeartbeats 4000000 in
theorem strings_walk (u : Value) (xs : List Int) (which fin : Int) (w : World) (hu : ReadB w u xs) (hxl : xs.length ≤ 9223372036854775807) :
    Calls Try.prog 5 #[u, .int .i64 which, .int .i64 fin] w (TrueBelow w) := by
  have HU := Lib.hid hu
  obtain ⟨DU, cu, rfl, _⟩ := hu
  by_cases hlen : 300 < xs.length
  · have hlen' : (300 : Int) < (xs.length : Int) := by omega
    go_enter Try.func5, Try.ntmps5
    go_wp2_with fail
    refine (awake_any _).mono ?_
    rintro e w1 ⟨rfl, hw1⟩
    go_wp2_with fail
    go_ret
    exact ⟨rfl, hw1⟩
  · have hlen' : (xs.length : Int) ≤ 300 := by omega
    obtain ⟨qw, hqw, qw1⟩ : ∃ q : Nat, bits .and .i64 which 255 = (q : Int) ∧ q ≤ 255 := ⟨(which % 256).toNat, by rw [i64_and255]; omega, by omega⟩
    obtain ⟨c, hc1, hc2, hc3, hc4, hc5⟩ := intro_all (qw % 5) (by omega)
    go_enter Try.func5, Try.ntmps5
    have hcq : ∀ h, (((⟨#[93, 80, 88, 94, 95]⟩ : ByteArray)[qw % 5]'h).toNat : Int) = c := by
      intro h
      have h5 : qw % 5 = 0 ∨ qw % 5 = 1 ∨ qw % 5 = 2 ∨ qw % 5 = 3 ∨ qw % 5 = 4 := by omega
      rcases h5 with e | e | e | e | e
      all_goals
        simp only [e] at hc1 ⊢
        simp [introB] at hc1
        subst hc1
        rfl
    have HC2 := Lib.hid hc2
    have HC3 := Lib.hid hc3
    clear hc1 hc2 hc3
    have hb0 : Bytes (w.alloc (.cells #[.int .u8 27] 5)) w.heap.size (.slice (some ⟨w.heap.size, 0, none⟩) 1 1) [27] := bytes_lit w w.heap.size [27] 1 rfl (Nat.le_refl _) (by decide)
    go_wp2_with (
      refine wpList_append_b _ (by rfl) _ _ (by rfl) w.heap.size _ [27] c (by rfl) (by rw [World.size_alloc]; rfl) (by exact hb0) (by decide) (by simp) ?_
      intro v1 w1 hb1 hw1)
    have b1 : Below w.heap.size w w1 := ((Below.refl _ w).alloc (Nat.le_refl _) _).trans hw1
    clear hb0 hw1
    go_loopw [7, 29] (StrRel w c xs) (fun _ i _ => xs.length - (intOf i).toNat)
    case atStart => exact ⟨0, rfl, Nat.zero_le _, hb1, b1⟩
    case round =>
      obtain ⟨k, rfl, hle, hbk, hbr⟩ := hrel
      have hfl := filt_len xs k
      obtain ⟨fs, hfs⟩ : ∃ fs, fs = (xs.take k).filter passes := ⟨_, rfl⟩
      rw [← hfs] at hbk hfl
      have HF := Lib.hid hfs
      clear hfs
      obtain ⟨D7, c7, rfl⟩ := bytes_form hbk
      have hz := hbr.size
      by_cases hlt : k < xs.length
      · have hki : (k : Int) < (xs.length : Int) := by omega
        obtain ⟨DV, cV, eV, hV⟩ := HU.out
        simp only [Value.slice.injEq] at eV
        obtain ⟨rfl, _, rfl⟩ := eV
        obtain ⟨vb, vo, z, rfl, hvb, hzk, hcell, hz0, hz1⟩ := hV k hlt
        have hcell' : wr.cell? ⟨vb, vo + k, none⟩ = some (.int .u8 z) := (hbr.cell (p := ⟨vb, vo + k, none⟩) hvb).trans hcell
        clear hcell hV
        have htk : (xs.take (k + 1)).filter passes = fs ++ (if passes z then [z] else []) := by
          rw [List.take_add_one, hzk, List.filter_append, HF.out]
          by_cases h : passes z = true
          · simp [h]
          · simp [h]
        have HT := Lib.hid htk
        clear htk hzk
        by_cases hp : passes z = true
        · obtain ⟨p1, p2, p3, p4⟩ := of_decide_eq_true hp
          have e1 : (z != 7) = true := by simpa using p1
          have e2 : (z != 24) = true := by simpa using p2
          have e3 : (z != 26) = true := by simpa using p3
          have e4 : (z != 27) = true := by simpa using p4
          have hp1 := Lib.hid hp
          clear hp
          go_wp2_with (
            refine wpList_append_b _ (by rfl) _ _ (by rfl) w.heap.size _ (27 :: c :: fs) z (by rfl) (by rfl) (by exact hbk) (by simp; omega) (by exact hz) ?_
            intro v3 w3 hb3 hw3)
          go_roundw
          case rel =>
            refine ⟨k + 1, by go_num, by omega, ?_, hbr.trans hw3⟩
            rw [HT.out, if_pos hp1.out]
            exact hb3
          case measure => simp [intOf]; omega
        · have hpf : z = 7 ∨ z = 24 ∨ z = 26 ∨ z = 27 := by
            by_cases q1 : z = 7
            · exact .inl q1
            by_cases q2 : z = 24
            · exact .inr (.inl q2)
            by_cases q3 : z = 26
            · exact .inr (.inr (.inl q3))
            by_cases q4 : z = 27
            · exact .inr (.inr (.inr q4))
            exact absurd (decide_eq_true ⟨q1, q2, q3, q4⟩) hp
          have hp1 := Lib.hid hp
          clear hp
          rcases hpf with rfl | rfl | rfl | rfl
          all_goals
            go_wp2_with fail
            go_roundw
            case rel =>
              refine ⟨k + 1, by go_num, by omega, ?_, hbr⟩
              rw [HT.out, if_neg hp1.out, List.append_nil]
              exact hbk
            case measure => simp [intOf]; omega
      · have ek : k = xs.length := by omega
        subst ek
        rw [List.take_length] at HF
        obtain ⟨bs, hbs⟩ : ∃ bs, bs = 27 :: c :: fs := ⟨_, rfl⟩
        have hbe : feedE E.zero bs = E.str ∧ feedA E.zero bs = [] := by
          have e : bs = [27, c] ++ fs := hbs
          have hs := str_feed fs (by rw [HF.out]; intro z hz; exact (List.mem_filter.1 hz).2)
          rw [e, feedE_app, feedA_app, HC2.out, HC3.out]
          exact ⟨hs.1, by simpa using hs.2⟩
        have hbok : ∀ z ∈ bs, 0 ≤ z ∧ z ≤ 255 := by
          rw [hbs, HF.out]
          intro z hz
          rcases List.mem_cons.1 hz with rfl | hz
          · decide
          rcases List.mem_cons.1 hz with rfl | hz
          · exact ⟨hc4, hc5⟩
          · obtain ⟨_, _, _, hV⟩ := HU.out
            obtain ⟨j, hj, e⟩ := List.getElem_of_mem (List.mem_filter.1 hz).1
            obtain ⟨_, _, y, _, _, hy, _, y0, y1⟩ := hV j hj
            rw [List.getElem?_eq_getElem hj, e] at hy
            have := Option.some.inj hy
            omega
        have hbl : bs.length ≤ 302 := by rw [hbs]; simp; omega
        rw [← hbs] at hbk
        have F1 : Hid (∀ v w, ReadB w v bs → Calls Try.prog 11 #[zeroV none 0, v] w (StepP w.heap.size w E.str [])) := fun v w h => feed0 bs _ _ hbe.1 hbe.2 v w h (by omega)
        clear hbe
        have hrd := hbk.read hbok
        have hlb : fs.length + 1 + 1 = bs.length := by rw [hbs]; simp
        clear hbs hbok
        obtain ⟨qf, hqf, qf1⟩ : ∃ q : Nat, bits .and .i64 fin 255 = (q : Int) ∧ q ≤ 255 := ⟨(fin % 256).toNat, by rw [i64_and255]; omega, by omega⟩
        go_wp2_with fail
        refine (F1.out _ _ (by exact hrd)).mono ?_
        intro e w2 hst
        obtain ⟨D2, c2, Dv, cv, rfl, hp2, hw2⟩ := str_of hst
        clear hst
        unfold strV
        have b2 : Below w.heap.size w w2 := hbr.trans (hw2.mono hz)
        go_upto_region 13 with fail
        refine wp_world (StrAt w w2.heap.size D2 c2) ⟨Held.new w2 33 _, (hp2.base (Nat.zero_le _)).alloc _, b2.alloc b2.size _⟩ ?_
        rintro wq ⟨hS, hpS, hbq⟩
        have hzS := hS.lt
        clear hp2 hw2 b2 hrd hbk F1
        go_cut [12, 13] (StrEnd wq)
        case first =>
          refine str_region rfl ?_ rfl rfl rfl hqf hS hpS ?_
          · intro i hi
            have hi20 : i = 0 ∨ i = 1 ∨ i = 2 ∨ i = 3 ∨ i = 4 ∨ i = 5 ∨ i = 6 ∨ i = 7 ∨ i = 8 ∨ i = 9 ∨ i = 10 ∨ i = 11 ∨ i = 12 ∨ i = 13 ∨ i = 14 ∨ i = 15 ∨ i = 16 ∨ i = 17 ∨ i = 18 ∨ i = 19 := by omega
            rcases hi20 with rfl | rfl | rfl | rfl | rfl | rfl | rfl | rfl | rfl | rfl | rfl | rfl | rfl | rfl | rfl | rfl | rfl | rfl | rfl | rfl
            all_goals exact ⟨_, rfl, rfl, rfl, rfl, deps_iff (by decide) (by decide)⟩
          · rintro f wz ⟨T, D3, c3, g1, g2, g3⟩ ⟨D4, c4, g4⟩ g5
            rw [put_lit]
            go_wp2_with fail
            go_meet
            exact ⟨T, D3, c3, D4, c4, g1, g4, g2, g3, g5⟩
        case rest =>
          obtain ⟨T, D3, c3, D4, c4, rfl, rfl, hT, hp3, hw3⟩ := hcut
          unfold zeroC at hT
          have hbc : Below w.heap.size w wc := hbq.trans (hw3.mono hbq.size)
          have hzT := hT.lt
          obtain ⟨x0, x1, x2, x3, x4, x5, x6, x7, xf⟩ := esc_cells hT
          have kc := fun (w : World) (C : Array Value) (n c g : Nat) (hg : g = w.heap.size) => Joins.run_convert_bytes_const_at (P := Try.prog) w 36 5 C n c g hg Try.underlying36 Try.underlying5
          have F4 : Hid (∀ v w D c B, Ints w B (.slice D 0 c) [] → ReadB w v [97] → Calls Try.prog 11 #[zeroV D c, v] w (ZeroPost w [⟨1, 97, []⟩])) := fun v w D c B h1 h2 => by
            have := feed_any E.zero [97] (.slice D 0 c) v B w h1 E.zero_ok h2 (by decide)
            rw [sign_e, sign_a] at this
            exact this.mono fun _ _ h => zero_of h
          go_wp2_with fail
          refine (F4.out _ _ D3 c3 wq.heap.size (by exact (hp3.below ((Below.refl wc.heap.size wc).alloc (Nat.le_refl _) _) (Nat.le_refl _))) (by exact readB_new _ [97] (u8s [97]).toArray 1 1 _ rfl (u8s_at (by decide)))).mono ?_
          rintro e w5 ⟨D5, c5, v5, rfl, hp5, ha5, hw5⟩
          unfold zeroV
          have hT5 := (hT.below ((Below.refl wc.heap.size wc).alloc (Nat.le_refl _) (.cells #[.int .u8 97] 5 (1, 2))) hzT)
          have hT6 := hT5.below hw5 hT5.lt
          have hz6 := hT6.lt
          clear x0 x1 x2 x3 x4 x5 x6 x7 xf
          obtain ⟨y0, y1, y2, y3, y4, y5, y6, y7, yf⟩ := esc_cells hT6
          obtain ⟨Da, ca, ea, ra⟩ := ha5.read
          obtain ⟨ba, za, pa, hDa, hza, k0, k1, k2, _⟩ := ra 0 (by decide)
          obtain rfl : za = ⟨1, 97, []⟩ := by simpa using hza.symm
          subst hDa
          subst ea
          have hba : ba < w5.heap.size := World.block_lt_of_cell? w5 _ k0
          have b5 : Below w.heap.size w w5 := ((hbc.alloc hbc.size _).trans (hw5.mono (by have := hbc.size; simp; omega)))
          go_wp2_with fail
          refine (sameZ _ _ _ _ 0 0 _ (by exact (hp5.base (Nat.zero_le _)).alloc _) (by exact ints_nil _ _)).mono ?_
          rintro e w7 ⟨rfl, hw7⟩
          have k1' : w7.cell? ⟨ba, 1, none⟩ = some (.int .i32 97) := (hw7.cell (p := ⟨ba, 1, none⟩) (by simp; omega)).trans ((World.cell?_alloc_lt _ _ _ hba).trans k1)
          have b7 : Below w.heap.size w w7 := (b5.alloc b5.size _).trans (hw7.mono (by have := b5.size; simp; omega))
          clear y0 y1 y2 y3 y4 y5 y6 y7 yf k0 k1 k2
          go_wp2_with fail
          refine (awake_any _).mono ?_
          rintro e w8 ⟨rfl, hw8⟩
          go_wp2_with fail
          go_ret
          exact ⟨rfl, b7.trans (hw8.mono b7.size)⟩
end Go.Proofs.Ytgpjphecgcfikaa
