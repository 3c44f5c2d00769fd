/-
  What the walk of ActsRegions needs: what scrolls scrolls within its region alone. No condition.
-/
import Derived.Test.YtmejehanfhampaaRegM
import Derived.Test.YtmejehanfhampaaNewI
import Derived.Test.YtmejehanfhampaaAwake
namespace Go.Proofs.Ytmejehanfhampaa
open Go.RowKit
set_option maxRecDepth 100000

theorem rmask255 (z : Int) : ∃ a : Nat, a ≤ 255 ∧ bits .and .i64 z 255 = a := ⟨(z % 256).toNat, by omega, by rw [i64_and255]; omega⟩
theorem rmask7 (z : Int) : ∃ a : Nat, a ≤ 7 ∧ bits .and .i64 z 7 = a := ⟨(z % 8).toNat, by omega, by rw [i64_and7]; omega⟩
theorem rruneAt_eq (L : List (List C)) (y x : Nat) (hy : y < L.length) (hx : x < L[y].length) : runeAt L y x = L[y][x].r := by simp [runeAt, rowAt, hy, hx]
theorem six_len' (k : Nat) : (sixL k).length = 6 := by simp [sixL]
theorem six_at (k y : Nat) (h : y < (sixL k).length) : (sixL k)[y] = [⟨if y < k then 97 + (y : Int) else 32, 0⟩] := by simp [sixL]
theorem TabAt.rune {B : Nat} {w : World} {D : Option Addr} {vs : List Value} (h : TabAt B w D vs) (hs : ∀ v ∈ vs, ∃ D n c, v = .slice D n c) {g : Nat} {l : List C} (hr : Row w g l) (o : Nat) (x : Value) : TabAt B (w.setCell ⟨g, o, none⟩ x) D vs := fun k hk => by
  obtain ⟨b, off, e, h0, h1, hf, h2⟩ := h k hk
  have hne : b ≠ g := by
    rintro rfl
    rw [Held.cell hr] at h2
    obtain ⟨D', n', c', e'⟩ := hs _ (List.getElem_mem hk)
    rw [e'] at h2
    have hm := Array.mem_of_getElem? h2
    rw [List.mem_toArray] at hm
    simp only [cvs, cv, List.mem_flatMap, List.mem_cons, List.not_mem_nil, or_false] at hm
    obtain ⟨_, _, hh | hh⟩ := hm <;> cases hh
  exact ⟨b, off, e, h0, by simpa using h1, hf.set _ _, (cell_far (p := ⟨g, o, none⟩) hne x).trans h2⟩
/-- Row k has its sign. -/
theorem RowsI.letter {B N : Nat} {w : World} {vs : List Value} {k : Nat} (h : RowsI B N w vs (sixL k)) (hk : k < 6) : ∃ g, vs[k]? = some (.slice (some ⟨g, 0, none⟩) 1 1) ∧ Row w g [⟨32, 0⟩] ∧ B ≤ g ∧ RowsI B N (w.setCell ⟨g, 0, none⟩ (.int .i32 (97 + (k : Int)))) vs (sixL (k + 1)) := by
  obtain ⟨h0, gs, hl, hr, hi⟩ := h
  rw [six_len'] at hl h0
  have e1 : (sixL k)[k]'(by rw [six_len']; exact hk) = [⟨32, 0⟩] := by rw [six_at]; simp
  obtain ⟨a, b, e, r⟩ := hr k (by omega) (by rw [six_len']; exact hk) (by omega)
  rw [e1] at e r
  refine ⟨gs[k], by rw [List.getElem?_eq_getElem (by omega), e]; rfl, r, a, by rw [six_len']; exact h0, gs, by rw [six_len']; exact hl, fun j h1 h2 h3 => ?_, hi⟩
  obtain ⟨a', b', e', r'⟩ := hr j h1 (by rw [six_len'] at h2 ⊢; exact h2) h3
  rw [six_at] at e' r' ⊢
  by_cases hj : j = k
  · subst hj
    rw [if_pos (by omega)]
    refine ⟨a', b', e', ?_⟩
    have := Held.set1 r 0 (.int .i32 (97 + (j : Int)))
    exact this
  · have ej : (if j < k + 1 then 97 + (j : Int) else 32) = if j < k then 97 + (j : Int) else 32 := by
      by_cases hjk : j < k
      · rw [if_pos hjk, if_pos (by omega)]
      · rw [if_neg hjk, if_neg (by omega)]
    rw [ej]
    refine ⟨a', b', e', Held.far r' (p := ⟨gs[k], 0, none⟩) ?_ _⟩
    show gs[j] ≠ gs[k]
    rcases Nat.lt_or_gt_of_ne hj with h' | h'
    · have := hi j k h3 (by omega) h'
      omega
    · have := hi k j (by omega) h3 h'
      omega
/-- The letters so far. -/
structure LtSt (w : World) (b0 : Nat) (D : Option Addr) (c : Nat) (vs : List Value) (k : Nat) (wr : World) : Prop where
  box : Box wr b0 (newNm 1 6) (.slice D 6 c) nilV
  tab : TabAt 0 wr D vs
  rows : RowsI w.heap.size wr.heap.size wr vs (sixL k)
  below : Below w.heap.size w wr
  sl : ∀ v ∈ vs, ∃ D n c, v = .slice D n c
  cap : 6 ≤ c
def LtRel (w : World) (b0 : Nat) (D : Option Addr) (c : Nat) (vs : List Value) (i : Value) (wr : World) : Prop := ∃ k : Nat, i = .int .i64 (k : Int) ∧ k ≤ 6 ∧ LtSt w b0 D c vs k wr
theorem rowsI_slices {B N : Nat} {w : World} {vs : List Value} {L : List (List C)} (h : RowsI B N w vs L) : ∀ v ∈ vs, ∃ D n c, v = Value.slice D n c := by
  intro v hv
  obtain ⟨k, hk, rfl⟩ := List.getElem_of_mem hv
  obtain ⟨h0, gs, hl, hr, _⟩ := h
  obtain ⟨_, _, e, _⟩ := hr k hk (by omega) (by omega)
  exact ⟨_, _, _, e⟩
theorem rg0 : newNm (heldF 1 1 1000) (heldF 6 1 1000) = newNm 1 6 := rfl
theorem rg0L : blankL (heldF 1 1 1000) (heldF 6 1 1000).toNat = sixL 0 := rfl
/-- The screen behind i lines. -/
structure RgSt (w : World) (b0 : Nat) (s : WS) (D : Option Addr) (n c : Nat) (E : Option Addr) (m d : Nat) (wr : World) : Prop where
  box : Box wr b0 s.p (.slice D n c) (.slice E m d)
  scr : Scr 0 wr D E n c m d s.L s.B
  below : Below w.heap.size w wr
def RgRel (w : World) (b0 t u : Nat) (dn : Bool) (n : Nat) (i : Value) (wr : World) : Prop := ∃ (k : Nat) (D : Option Addr) (nr c : Nat) (E : Option Addr) (m d : Nat), i = .int .i64 (k : Int) ∧ k ≤ n ∧ RgSt w b0 (rst t u dn k) D nr c E m d wr

set_option maxHeartbeats 8000000 in
theorem regions_walk (a0 b0 n0 : Int) (down : Bool) (w : World) : Calls Try.prog 5 #[.int .i64 a0, .int .i64 b0, .int .i64 n0, .bool down] w (TrueBelow w) := by
  obtain ⟨A0, hA0, eA⟩ := rmask255 a0
  obtain ⟨B0, hB0, eB⟩ := rmask255 b0
  obtain ⟨n1, hn1, en⟩ := rmask7 n0
  obtain ⟨A, eA6, hA⟩ : ∃ A : Nat, (A0 : Int).tmod 6 = (A : Int) ∧ A < 6 := ⟨A0 % 6, by rw [Int.tmod_eq_emod_of_nonneg (by omega)]; omega, by omega⟩
  obtain ⟨B, eB6, hB⟩ : ∃ B : Nat, (B0 : Int).tmod 6 = (B : Int) ∧ B < 6 := ⟨B0 % 6, by rw [Int.tmod_eq_emod_of_nonneg (by omega)]; omega, by omega⟩
  by_cases hAB : A = B
  · subst hAB
    go_enter Try.func5, Try.ntmps5
    go_wp2_with (go_at_call 11; refine (awake_any _).mono ?_; rintro e w6 ⟨rfl, b6⟩)
    go_ret
    exact ⟨rfl, b6⟩
  have hABi : ((A : Int) == (B : Int)) = false := beq_eq_false_iff_ne.2 (by omega)
  obtain ⟨t, u, etu, htu, hu⟩ : ∃ t u : Nat, ((A < B ∧ t = A ∧ u = B) ∨ (B < A ∧ t = B ∧ u = A)) ∧ t < u ∧ u < 6 := by
    by_cases h : A < B
    · exact ⟨A, B, .inl ⟨h, rfl, rfl⟩, h, hB⟩
    · exact ⟨B, A, .inr ⟨by omega, rfl, rfl⟩, by omega, hA⟩
  have HN := Lib.hid (fun w => rnewI_any 1 6 w)
  rw [rg0, rg0L] at HN
  have HTU := Lib.hid etu
  clear etu
  go_enter Try.func5, Try.ntmps5
  go_upto_region 4 with fail
  go_cut [9, 10] (fun x y wx => x = .int .i64 (t : Int) ∧ y = .int .i64 (u : Int) ∧ w = wx)
  case first =>
    rcases HTU.out with ⟨h1, rfl, rfl⟩ | ⟨h1, rfl, rfl⟩
    · have h2 : ¬ t > u := by omega
      go_wp2_with fail
      all_goals go_meet
      all_goals first
        | exact ⟨rfl, rfl, rfl⟩
        | (exfalso; omega)
    · have h2 : ¬ u < t := by omega
      go_wp2_with fail
      all_goals go_meet
      all_goals first
        | exact ⟨rfl, rfl, rfl⟩
        | (exfalso; omega)
  case rest =>
  obtain ⟨rfl, rfl, hww⟩ := hcut
  subst hww
  clear HTU hAB eA eB hA0 hB0 eA6 eB6 hABi hA hB
  go_upto_region 6 with (first
   | (with_reducible refine wpList_storeB (x := .tmp 11) (y := .tmp 35) (p := newNm 1 6) (D := D0) (E := none) (n := 6) (c := c0) (m := 0) (d := 0) ?_ ?_ ?_ ?_ ?_ ?_
      · with_reducible rfl
      · rfl
      · rfl
      · rfl
      · rfl)
   | (go_at_call 12
      refine (HN.out _).mono ?_
      clear HN
      rintro e w1 ⟨D0, nn, c0, vs, rfl, tb0, ri0, hlen, hc0, bb0⟩
      obtain rfl : 6 = nn := hlen))
  have h1z := bb0.size
  have hsl := rowsI_slices ri0
  refine wp_world (fun wq => LtSt w w1.heap.size D0 c0 vs 0 wq) ⟨Box.new _ _ _ _, (tb0.weak (Nat.zero_le _)).below ((Below.refl _ _).alloc (Nat.le_refl _) _) (Nat.le_refl _), (ri0.mono (by simp)).map fun g l hg hr => hr.alloc _, bb0.alloc bb0.size _, hsl, hc0⟩ ?_
  clear tb0 ri0 bb0 hsl
  intro wq st0
  obtain ⟨tb, tq, rfl, hx0⟩ := st0.tab 0 (by rw [st0.rows.1, six_len']; decide)
  clear hx0
  have cc13 := st0.box.cells.c13
  go_wp2_with fail
  go_loopw [39] (LtRel w w1.heap.size (some ⟨tb, tq, none⟩) c0 vs) (fun i _ => 6 - (intOf i).toNat)
  case atStart => exact ⟨0, rfl, by omega, st0⟩
  case round =>
    clear st0 cc13
    obtain ⟨k, rfl, hk6, st⟩ := hrel
    have v13 := st.box.cells.c13
    by_cases hk : k < 6
    · have hki : (k : Int) < 6 := by omega
      obtain ⟨g, hv, hrow, hBg, hri⟩ := st.rows.letter hk
      have hkv : k < vs.length := by rw [st.rows.1, six_len']; exact hk
      obtain ⟨_, _, e0, _, _, _, ht⟩ := st.tab k hkv
      cases e0
      have ht' : wr.cell? ⟨tb, tq + k, none⟩ = some (.slice (some ⟨g, 0, none⟩) 1 1) := by rw [ht, ← List.getElem?_eq_getElem hkv, hv]
      have c0' := (hrow.cells 0 (by decide)).1
      have c00 : wr.cell? ⟨g, 0, none⟩ = some (.int .i32 32) := c0'
      have cf := hrow.frozen
      have hgl := hrow.lt
      have s1 : IntKind.i64.wrap (97 + (k : Int)) = 97 + (k : Int) := IntWalk.i64_in _ (by omega)
      have s2 : IntKind.i32.wrap (97 + (k : Int)) = 97 + (k : Int) := IntWalk.i32_in _ (by omega)
      have HST : Hid (LtSt w w1.heap.size (some ⟨tb, tq, none⟩) c0 vs (k + 1) (wr.setCell ⟨g, 0, none⟩ (.int .i32 (97 + (k : Int))))) :=
        ⟨st.box.far (q := ⟨g, 0, none⟩) (Held.ne st.box hrow (by decide)) _, st.tab.rune st.sl hrow 0 _, hri.mono (by simp), st.below.setCell (p := ⟨g, 0, none⟩) hBg _, st.sl, st.cap⟩
      clear hri hrow st ht hv c0'
      go_wp2_with fail
      go_roundw
      case rel => exact ⟨k + 1, by go_num, by omega, HST.out⟩
      case measure => simp [intOf]; omega
    · have hki : ¬ (k : Int) < 6 := by omega
      obtain rfl : k = 6 := by omega
      have x1 := st.box
      have sc : Scr 0 wr (some ⟨tb, tq, none⟩) none 6 c0 0 0 (sixL 6) [] := ⟨⟨vs, st.tab, st.rows.v.weak (Nat.zero_le _)⟩, Lines.nil _ _ _, six_len' 6, rfl, st.cap, Nat.le_refl _⟩
      have b1 := st.below
      clear st v13
      have s1 : IntKind.i64.wrap ((t : Int) + 1) = (t : Int) + 1 := IntWalk.i64_in _ (by omega)
      have s2 : IntKind.i64.wrap ((u : Int) + 1) = (u : Int) + 1 := IntWalk.i64_in _ (by omega)
      have s3 : IntKind.i64.wrap ((n1 : Int) + 1) = (n1 : Int) + 1 := IntWalk.i64_in _ (by omega)
      have HA := Lib.hid (rset_any t u wr.heap.size (some ⟨tb, tq, none⟩) none c0 0 0 (wr.alloc (.cells #[.int .i64 ((t : Int) + 1), .int .i64 ((u : Int) + 1)] 3)) (sc.below ((Below.refl _ _).alloc (Nat.le_refl _) _) (Nat.le_refl _)) hu htu (Held.new _ _ _))
      have hz1 : w1.heap.size < wr.heap.size := x1.lt
      go_upto_region 12 with (first
       | (with_reducible refine wpList_loadB x1 (x := .tmp 11) ?_ ?_ ?_ ?_
          · with_reducible rfl
          · rfl
          · rfl)
       | (go_at_call 13
          refine HA.out.mono ?_
          clear HA
          rintro e w3 ⟨D5, E5, n5, c5, m5, d5, rfl, s3', b30⟩
          obtain rfl : 6 = n5 := s3'.nr
          obtain rfl : 0 = m5 := s3'.nb
          have b3 : Below wr.heap.size wr w3 := ((Below.refl _ _).alloc (Nat.le_refl _) _).trans (b30.mono (by simp))
          have x3 := x1.below b3 hz1)
       | (with_reducible refine wpList_storeA x3 (x := .tmp 11) (y := .tmp 60) (p := rgNm t u 0) (D := D5) (E := E5) (n := 6) (c := c5) (m := 0) (d := d5) ?_ ?_ ?_ ?_ ?_
          · with_reducible rfl
          · rfl
          · rfl
          · rfl))
      refine wp_world (fun wq => Box wq w1.heap.size (rgNm t u 0) (.slice D5 6 c5) (.slice E5 0 d5) ∧ Scr 0 wq D5 E5 6 c5 0 d5 (sixL 6) [] ∧ Below w.heap.size w wq) ⟨x3.setRow _ _ _, s3'.bput (by simp; omega) _, below_setRow (b1.trans (b3.mono b1.size)) h1z _⟩ ?_
      clear x1 sc b1 x3 s3' b30 b3 hz1
      rintro w4 ⟨x4, s4, b4⟩
      have u2 := x4.cells.c2
      have u3 := x4.cells.c3
      have u6 := x4.cells.c6
      have u7 := x4.cells.c7
      simp only [rgNm] at u2 u3 u6 u7
      have hz4 : w1.heap.size < w4.heap.size := x4.lt
      go_upto_region 15 with fail
      clear u2 u3 u6 u7
      cases down with
      | false =>
        have sa : IntKind.i64.wrap ((u : Int) + 1) = (u : Int) + 1 := IntWalk.i64_in _ (by omega)
        have HA := Lib.hid (rgo_any t u u w4.heap.size D5 E5 c5 0 d5 (w4.alloc (.cells #[.int .i64 ((u : Int) + 1)] 3)) (s4.below ((Below.refl _ _).alloc (Nat.le_refl _) _) (Nat.le_refl _)) (by omega) (Held.new _ _ _))
        go_upto_region 19 with (first
         | (with_reducible refine wpList_loadB x4 (x := .tmp 11) ?_ ?_ ?_ ?_
            · with_reducible rfl
            · rfl
            · rfl)
         | (go_at_call 13
            refine HA.out.mono ?_
            clear HA
            rintro e w5 ⟨D6, E6, n6, c6, m6, d6, rfl, s6, b60⟩
            obtain rfl : 6 = n6 := s6.nr
            obtain rfl : 0 = m6 := s6.nb
            have b6 : Below w4.heap.size w4 w5 := ((Below.refl _ _).alloc (Nat.le_refl _) _).trans (b60.mono (by simp))
            have x6 := x4.below b6 hz4)
         | (with_reducible refine wpList_storeA x6 (x := .tmp 11) (y := .tmp 92) (p := rgNm t u u) (D := D6) (E := E6) (n := 6) (c := c6) (m := 0) (d := d6) ?_ ?_ ?_ ?_ ?_
            · with_reducible rfl
            · rfl
            · rfl
            · rfl))
        refine wp_world (fun wq => RgSt w w1.heap.size (rst t u false 0) D6 6 c6 E6 0 d6 wq) ⟨x6.setRow _ _ _, s6.bput (by simp; omega) _, below_setRow (b4.trans (b6.mono b4.size)) h1z _⟩ ?_
        clear x4 s4 b4 x6 s6 b60 b6 hz4 sa s1 s2 s3 en
        intro w7 st7
        go_wp2_with fail
        go_loopw [15] (RgRel w w1.heap.size t u false (n1 + 1)) (fun i _ => n1 + 1 - (intOf i).toNat)
        case atStart => exact ⟨0, _, _, _, _, _, _, rfl, by omega, st7⟩
        case round =>
          clear st7
          obtain ⟨k, D, nr, c, E, m, d, rfl, hk, st⟩ := hrel
          have HOK := rg_ok t u false k hu htu (by omega)
          by_cases hl : k < n1 + 1
          · have hli : (k : Int) < (n1 : Int) + 1 := by omega
            have HA : Hid (Calls Try.prog 13 #[gv (rst t u false k).p (.slice D nr c) (.slice E m d), .agg #[.int .i64 3, .int .i32 68, .slice none 0 0]] wr (GridPost wr (rst t u false (k + 1)).p (rst t u false (k + 1)).L (rst t u false (k + 1)).B)) := rapply_any (rst t u false k) t u false k D E nr c m d wr st.scr HOK
            have x1 := st.box
            have hz1 : w1.heap.size < wr.heap.size := x1.lt
            have b1 := st.below
            clear st HOK
            obtain ⟨z2, hz2⟩ : ∃ z2, z2 = rst t u false (k + 1) := ⟨_, rfl⟩
            rw [← hz2] at HA
            have HE2 := Lib.hid hz2.symm
            clear hz2
            generalize rst t u false k = z1 at *
            go_wp2_with (first
             | (with_reducible refine wpList_loadB x1 (x := .tmp 11) ?_ ?_ ?_ ?_
                · with_reducible rfl
                · rfl
                · rfl)
             | (go_at_call 13
                refine HA.out.mono ?_
                clear HA
                rintro e w3 ⟨D7, E7, n7, c7, m7, d7, rfl, s3, b3⟩
                have x3 := x1.below b3 hz1)
             | (with_reducible refine wpList_storeA x3 (x := .tmp 11) (y := .tmp 101) (p := z2.p) (D := D7) (E := E7) (n := n7) (c := c7) (m := m7) (d := d7) ?_ ?_ ?_ ?_ ?_
                · with_reducible rfl
                · rfl
                · rfl
                · rfl))
            go_roundw
            case rel =>
              refine ⟨k + 1, D7, n7, c7, E7, m7, d7, by go_num, by omega, ?_⟩
              rw [HE2.out]
              exact ⟨x3.setRow _ _ _, s3.bput hz1 _, below_setRow (b1.trans (b3.mono b1.size)) h1z _⟩
            case measure => simp [intOf]; omega
          · have hli : ¬ (k : Int) < (n1 : Int) + 1 := by omega
            obtain rfl : k = n1 + 1 := by omega
            generalize rst t u false (n1 + 1) = z at *
            have hnr : nr = 6 := by rw [← st.scr.nr, HOK.ok.ln]
            have hm : m = z.B.length := st.scr.nb.symm
            subst hnr
            have v3 := st.box.cells.c3
            have v13 := st.box.cells.c13
            have v14 := st.box.cells.c14
            rw [HOK.y] at v3
            have b1 := st.below
            have HSC := Lib.hid st.scr.rows
            have HO := Lib.hid HOK
            have HB := Lib.hid HOK.back
            have HLN := Lib.hid HOK.ok.ln
            clear st HOK
            go_wp2_with fail
            go_loopw [16] (fun i wx => ∃ yk : Nat, i = .int .i64 (yk : Int) ∧ yk ≤ 6 ∧ wx = wr) (fun i _ => 6 - (intOf i).toNat)
            case atStart => exact ⟨0, rfl, by omega, rfl⟩
            case round =>
              obtain ⟨yk, rfl, hyk, hwd⟩ := hrel
              subst hwd
              by_cases hy : yk < 6
              · have hyi : (yk : Int) < 6 := by omega
                have hyl : yk < z.L.length := by rw [HLN.out]; exact hy
                obtain ⟨tb, tq, R, cr, eD, _, _, _, t0, hcr, r0⟩ := HSC.out.at yk hyl
                have hrl : z.L[yk].length = 1 := HO.out.ok.rows _ (List.getElem_mem hyl)
                obtain ⟨rb, ro, eR, _, _, _, q0, _⟩ := r0 0 (by omega)
                have hru : z.L[yk][0].r = wantF t u false (n1 + 1) yk := by
                  rw [← rruneAt_eq _ _ _ hyl (by omega)]
                  exact HO.out.runes yk hy
                rw [hru] at q0
                rw [hrl] at t0
                subst eD eR
                have q0' : wr.cell? ⟨rb, ro, none⟩ = some (.int .i32 (wantF t u false (n1 + 1) yk)) := q0
                clear q0 hru r0
                have s1 : IntKind.i64.wrap (97 + (yk : Int)) = 97 + (yk : Int) := IntWalk.i64_in _ (by omega)
                have s2 : IntKind.i32.wrap (97 + (yk : Int)) = 97 + (yk : Int) := IntWalk.i32_in _ (by omega)
                by_cases ht1 : t ≤ yk
                · have ht2 : (yk : Int) ≥ (t : Int) := by omega
                  by_cases hu1 : yk ≤ u
                  · have hu2 : (yk : Int) ≤ (u : Int) := by omega
                    have s3 : IntKind.i64.wrap ((yk : Int) + ((n1 : Int) + 1)) = (yk : Int) + ((n1 : Int) + 1) := IntWalk.i64_in _ (by omega)
                    have s4 : IntKind.i64.wrap ((yk : Int) - ((n1 : Int) + 1)) = (yk : Int) - ((n1 : Int) + 1) := IntWalk.i64_in _ (by omega)
                    by_cases hin : yk + (n1 + 1) ≤ u
                    · have ew : wantF t u false (n1 + 1) yk = 97 + ((yk : Int) + ((n1 : Int) + 1)) := by simp [wantF, ht1, hu1, hin]; omega
                      rw [ew] at q0'
                      have s5 : IntKind.i64.wrap (97 + ((yk : Int) + ((n1 : Int) + 1))) = 97 + ((yk : Int) + ((n1 : Int) + 1)) := IntWalk.i64_in _ (by omega)
                      have s6 : IntKind.i32.wrap (97 + ((yk : Int) + ((n1 : Int) + 1))) = 97 + ((yk : Int) + ((n1 : Int) + 1)) := IntWalk.i32_in _ (by omega)
                      clear ew
                      have g1 : ((yk : Int) + ((n1 : Int) + 1)) ≥ (t : Int) := by omega
                      have g2 : ((yk : Int) + ((n1 : Int) + 1)) ≤ (u : Int) := by omega
                      go_wp2_with fail
                      go_roundw
                      case rel => exact ⟨yk + 1, by go_num, by omega, trivial⟩
                      case measure => simp [intOf]; omega
                    · have ew : wantF t u false (n1 + 1) yk = 32 := by simp [wantF, ht1, hu1, hin]
                      rw [ew] at q0'
                      clear ew
                      have g1 : ((yk : Int) + ((n1 : Int) + 1)) ≥ (t : Int) := by omega
                      have g2 : ¬ ((yk : Int) + ((n1 : Int) + 1)) ≤ (u : Int) := by omega
                      go_wp2_with fail
                      go_roundw
                      case rel => exact ⟨yk + 1, by go_num, by omega, trivial⟩
                      case measure => simp [intOf]; omega
                  · have hu2 : ¬ (yk : Int) ≤ (u : Int) := by omega
                    have ew : wantF t u false (n1 + 1) yk = 97 + (yk : Int) := by simp [wantF, hu1]
                    rw [ew] at q0'
                    clear ew
                    go_wp2_with fail
                    go_roundw
                    case rel => exact ⟨yk + 1, by go_num, by omega, trivial⟩
                    case measure => simp [intOf]; omega
                · have ht2 : ¬ (yk : Int) ≥ (t : Int) := by omega
                  have ew : wantF t u false (n1 + 1) yk = 97 + (yk : Int) := by simp [wantF, ht1]
                  rw [ew] at q0'
                  clear ew
                  go_wp2_with fail
                  go_roundw
                  case rel => exact ⟨yk + 1, by go_num, by omega, trivial⟩
                  case measure => simp [intOf]; omega
              · have hyi : ¬ (yk : Int) < 6 := by omega
                have hb := HB.out
                by_cases h0 : t = 0
                · have hmv : m = n1 + 1 := by rw [hm, hb]; simp [h0]
                  clear hm hb
                  subst hmv
                  subst h0
                  go_wp2_with (go_at_call 11; refine (awake_any _).mono ?_; rintro e w9 ⟨rfl, b9⟩)
                  go_ret
                  exact ⟨rfl, b1.trans (b9.mono b1.size)⟩
                · have hmv : m = 0 := by rw [hm, hb]; simp [h0]
                  clear hm hb
                  subst hmv
                  have h1 : (t : Int) > 0 := by omega
                  have h2 : ((t : Int) == 0) = false := beq_eq_false_iff_ne.2 (by omega)
                  go_wp2_with (go_at_call 11; refine (awake_any _).mono ?_; rintro e w9 ⟨rfl, b9⟩)
                  go_ret
                  exact ⟨rfl, b1.trans (b9.mono b1.size)⟩
      | true =>
        have sa : IntKind.i64.wrap ((t : Int) + 1) = (t : Int) + 1 := IntWalk.i64_in _ (by omega)
        have HA := Lib.hid (rgo_any t u t w4.heap.size D5 E5 c5 0 d5 (w4.alloc (.cells #[.int .i64 ((t : Int) + 1)] 3)) (s4.below ((Below.refl _ _).alloc (Nat.le_refl _) _) (Nat.le_refl _)) (by omega) (Held.new _ _ _))
        go_upto_region 19 with (first
         | (with_reducible refine wpList_loadB x4 (x := .tmp 11) ?_ ?_ ?_ ?_
            · with_reducible rfl
            · rfl
            · rfl)
         | (go_at_call 13
            refine HA.out.mono ?_
            clear HA
            rintro e w5 ⟨D6, E6, n6, c6, m6, d6, rfl, s6, b60⟩
            obtain rfl : 6 = n6 := s6.nr
            obtain rfl : 0 = m6 := s6.nb
            have b6 : Below w4.heap.size w4 w5 := ((Below.refl _ _).alloc (Nat.le_refl _) _).trans (b60.mono (by simp))
            have x6 := x4.below b6 hz4)
         | (with_reducible refine wpList_storeA x6 (x := .tmp 11) (y := .tmp 92) (p := rgNm t u t) (D := D6) (E := E6) (n := 6) (c := c6) (m := 0) (d := d6) ?_ ?_ ?_ ?_ ?_
            · with_reducible rfl
            · rfl
            · rfl
            · rfl))
        refine wp_world (fun wq => RgSt w w1.heap.size (rst t u true 0) D6 6 c6 E6 0 d6 wq) ⟨x6.setRow _ _ _, s6.bput (by simp; omega) _, below_setRow (b4.trans (b6.mono b4.size)) h1z _⟩ ?_
        clear x4 s4 b4 x6 s6 b60 b6 hz4 sa s1 s2 s3 en
        intro w7 st7
        go_wp2_with fail
        go_loopw [15] (RgRel w w1.heap.size t u true (n1 + 1)) (fun i _ => n1 + 1 - (intOf i).toNat)
        case atStart => exact ⟨0, _, _, _, _, _, _, rfl, by omega, st7⟩
        case round =>
          clear st7
          obtain ⟨k, D, nr, c, E, m, d, rfl, hk, st⟩ := hrel
          have HOK := rg_ok t u true k hu htu (by omega)
          by_cases hl : k < n1 + 1
          · have hli : (k : Int) < (n1 : Int) + 1 := by omega
            have HA : Hid (Calls Try.prog 13 #[gv (rst t u true k).p (.slice D nr c) (.slice E m d), .agg #[.int .i64 3, .int .i32 77, .slice none 0 0]] wr (GridPost wr (rst t u true (k + 1)).p (rst t u true (k + 1)).L (rst t u true (k + 1)).B)) := rapply_any (rst t u true k) t u true k D E nr c m d wr st.scr HOK
            have x1 := st.box
            have hz1 : w1.heap.size < wr.heap.size := x1.lt
            have b1 := st.below
            clear st HOK
            obtain ⟨z2, hz2⟩ : ∃ z2, z2 = rst t u true (k + 1) := ⟨_, rfl⟩
            rw [← hz2] at HA
            have HE2 := Lib.hid hz2.symm
            clear hz2
            generalize rst t u true k = z1 at *
            go_wp2_with (first
             | (with_reducible refine wpList_loadB x1 (x := .tmp 11) ?_ ?_ ?_ ?_
                · with_reducible rfl
                · rfl
                · rfl)
             | (go_at_call 13
                refine HA.out.mono ?_
                clear HA
                rintro e w3 ⟨D7, E7, n7, c7, m7, d7, rfl, s3, b3⟩
                have x3 := x1.below b3 hz1)
             | (with_reducible refine wpList_storeA x3 (x := .tmp 11) (y := .tmp 101) (p := z2.p) (D := D7) (E := E7) (n := n7) (c := c7) (m := m7) (d := d7) ?_ ?_ ?_ ?_ ?_
                · with_reducible rfl
                · rfl
                · rfl
                · rfl))
            go_roundw
            case rel =>
              refine ⟨k + 1, D7, n7, c7, E7, m7, d7, by go_num, by omega, ?_⟩
              rw [HE2.out]
              exact ⟨x3.setRow _ _ _, s3.bput hz1 _, below_setRow (b1.trans (b3.mono b1.size)) h1z _⟩
            case measure => simp [intOf]; omega
          · have hli : ¬ (k : Int) < (n1 : Int) + 1 := by omega
            obtain rfl : k = n1 + 1 := by omega
            generalize rst t u true (n1 + 1) = z at *
            have hnr : nr = 6 := by rw [← st.scr.nr, HOK.ok.ln]
            have hm : m = z.B.length := st.scr.nb.symm
            subst hnr
            have v3 := st.box.cells.c3
            have v13 := st.box.cells.c13
            have v14 := st.box.cells.c14
            rw [HOK.y] at v3
            have b1 := st.below
            have HSC := Lib.hid st.scr.rows
            have HO := Lib.hid HOK
            have HB := Lib.hid HOK.back
            have HLN := Lib.hid HOK.ok.ln
            clear st HOK
            go_wp2_with fail
            go_loopw [16] (fun i wx => ∃ yk : Nat, i = .int .i64 (yk : Int) ∧ yk ≤ 6 ∧ wx = wr) (fun i _ => 6 - (intOf i).toNat)
            case atStart => exact ⟨0, rfl, by omega, rfl⟩
            case round =>
              obtain ⟨yk, rfl, hyk, hwd⟩ := hrel
              subst hwd
              by_cases hy : yk < 6
              · have hyi : (yk : Int) < 6 := by omega
                have hyl : yk < z.L.length := by rw [HLN.out]; exact hy
                obtain ⟨tb, tq, R, cr, eD, _, _, _, t0, hcr, r0⟩ := HSC.out.at yk hyl
                have hrl : z.L[yk].length = 1 := HO.out.ok.rows _ (List.getElem_mem hyl)
                obtain ⟨rb, ro, eR, _, _, _, q0, _⟩ := r0 0 (by omega)
                have hru : z.L[yk][0].r = wantF t u true (n1 + 1) yk := by
                  rw [← rruneAt_eq _ _ _ hyl (by omega)]
                  exact HO.out.runes yk hy
                rw [hru] at q0
                rw [hrl] at t0
                subst eD eR
                have q0' : wr.cell? ⟨rb, ro, none⟩ = some (.int .i32 (wantF t u true (n1 + 1) yk)) := q0
                clear q0 hru r0
                have s1 : IntKind.i64.wrap (97 + (yk : Int)) = 97 + (yk : Int) := IntWalk.i64_in _ (by omega)
                have s2 : IntKind.i32.wrap (97 + (yk : Int)) = 97 + (yk : Int) := IntWalk.i32_in _ (by omega)
                by_cases ht1 : t ≤ yk
                · have ht2 : (yk : Int) ≥ (t : Int) := by omega
                  by_cases hu1 : yk ≤ u
                  · have hu2 : (yk : Int) ≤ (u : Int) := by omega
                    have s3 : IntKind.i64.wrap ((yk : Int) + ((n1 : Int) + 1)) = (yk : Int) + ((n1 : Int) + 1) := IntWalk.i64_in _ (by omega)
                    have s4 : IntKind.i64.wrap ((yk : Int) - ((n1 : Int) + 1)) = (yk : Int) - ((n1 : Int) + 1) := IntWalk.i64_in _ (by omega)
                    by_cases hin : t + (n1 + 1) ≤ yk
                    · have ew : wantF t u true (n1 + 1) yk = 97 + ((yk : Int) - ((n1 : Int) + 1)) := by simp [wantF, ht1, hu1, hin]; omega
                      rw [ew] at q0'
                      have s5 : IntKind.i64.wrap (97 + ((yk : Int) - ((n1 : Int) + 1))) = 97 + ((yk : Int) - ((n1 : Int) + 1)) := IntWalk.i64_in _ (by omega)
                      have s6 : IntKind.i32.wrap (97 + ((yk : Int) - ((n1 : Int) + 1))) = 97 + ((yk : Int) - ((n1 : Int) + 1)) := IntWalk.i32_in _ (by omega)
                      clear ew
                      have g1 : ((yk : Int) - ((n1 : Int) + 1)) ≥ (t : Int) := by omega
                      have g2 : ((yk : Int) - ((n1 : Int) + 1)) ≤ (u : Int) := by omega
                      go_wp2_with fail
                      go_roundw
                      case rel => exact ⟨yk + 1, by go_num, by omega, trivial⟩
                      case measure => simp [intOf]; omega
                    · have ew : wantF t u true (n1 + 1) yk = 32 := by simp [wantF, ht1, hu1, hin]
                      rw [ew] at q0'
                      clear ew
                      have g1 : ¬ ((yk : Int) - ((n1 : Int) + 1)) ≥ (t : Int) := by omega
                      go_wp2_with fail
                      go_roundw
                      case rel => exact ⟨yk + 1, by go_num, by omega, trivial⟩
                      case measure => simp [intOf]; omega
                  · have hu2 : ¬ (yk : Int) ≤ (u : Int) := by omega
                    have ew : wantF t u true (n1 + 1) yk = 97 + (yk : Int) := by simp [wantF, hu1]
                    rw [ew] at q0'
                    clear ew
                    go_wp2_with fail
                    go_roundw
                    case rel => exact ⟨yk + 1, by go_num, by omega, trivial⟩
                    case measure => simp [intOf]; omega
                · have ht2 : ¬ (yk : Int) ≥ (t : Int) := by omega
                  have ew : wantF t u true (n1 + 1) yk = 97 + (yk : Int) := by simp [wantF, ht1]
                  rw [ew] at q0'
                  clear ew
                  go_wp2_with fail
                  go_roundw
                  case rel => exact ⟨yk + 1, by go_num, by omega, trivial⟩
                  case measure => simp [intOf]; omega
              · have hyi : ¬ (yk : Int) < 6 := by omega
                have hb := HB.out
                by_cases h0 : t = 0
                · have hmv : m = 0 := by rw [hm, hb]; simp [h0]
                  clear hm hb
                  subst hmv
                  subst h0
                  go_wp2_with (go_at_call 11; refine (awake_any _).mono ?_; rintro e w9 ⟨rfl, b9⟩)
                  go_ret
                  exact ⟨rfl, b1.trans (b9.mono b1.size)⟩
                · have hmv : m = 0 := by rw [hm, hb]; simp [h0]
                  clear hm hb
                  subst hmv
                  have h1 : (t : Int) > 0 := by omega
                  have h2 : ((t : Int) == 0) = false := beq_eq_false_iff_ne.2 (by omega)
                  go_wp2_with (go_at_call 11; refine (awake_any _).mono ?_; rintro e w9 ⟨rfl, b9⟩)
                  go_ret
                  exact ⟨rfl, b1.trans (b9.mono b1.size)⟩
end Go.Proofs.Ytmejehanfhampaa
