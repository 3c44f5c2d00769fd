/-
  The walk of GridBacks. Conditions: the row that came in reads as numbers.
-/
import Derived.Test.YtjgdabbcbfhijaaGrid
import Derived.Test.YtjgdabbcbfhijaaTurns
import Derived.Test.YtjgdabbcbfhijaaOwn
namespace Go.Proofs.Ytjgdabbcbfhijaa
open Go.RowKit

/-! ### the lines that should have gone -/
def rowF (t : Nat) : List C := [⟨1000 + (t : Int), 0⟩]
def runF (s n : Nat) : List (List C) := (List.range' s n).map rowF
/-- What is kept of N lines that went. -/
def bkF (N : Nat) : List (List C) := runF (N - min N 50) (min N 50)
theorem runF_len (s n : Nat) : (runF s n).length = n := by simp [runF]
theorem bkF_len (N : Nat) : (bkF N).length = min N 50 := runF_len _ _
theorem runF_app (s m n : Nat) : runF s m ++ runF (s + m) n = runF s (m + n) := by
  unfold runF
  rw [← List.map_append, List.range'_append_1]
theorem runF_drop (s n k : Nat) : (runF s n).drop k = runF (s + k) (n - k) := by
  unfold runF
  rw [← List.map_drop, List.drop_range', Nat.mul_one]
theorem runF_take (s n k : Nat) (h : k ≤ n) : (runF s n).take k = runF s k := by
  have := runF_app s k (n - k)
  rw [show k + (n - k) = n by omega] at this
  rw [← this, List.take_left' (runF_len s k)]
theorem runF_at (s n j : Nat) (h : j < n) : (runF s n)[j]? = some (rowF (s + j)) := by
  unfold runF
  rw [List.getElem?_map, List.getElem?_range' h, Nat.one_mul]
  rfl
theorem back_next (N k : Nat) (hk : k ≤ 4) : upBack (runF N 4) (bkF N) 0 k = bkF (N + k) := by
  unfold upBack
  rw [if_pos rfl]
  have e : [bkF N, (runF N 4).take k].flatten = runF (N - min N 50) (min N 50 + k) := by
    rw [runF_take N 4 k hk]
    simp only [List.flatten_cons, List.flatten_nil, List.append_nil]
    unfold bkF
    have := runF_app (N - min N 50) (min N 50) k
    rwa [show N - min N 50 + min N 50 = N by omega] at this
  rw [e, runF_len, runF_drop]
  unfold bkF
  congr 1 <;> omega
theorem runF_one (s n : Nat) : ∀ r ∈ runF s n, r.length ≤ 1000 := by
  intro r hr
  obtain ⟨t, _, rfl⟩ := List.mem_map.1 hr
  simp [rowF]
theorem take_set {α : Type} (L : List α) (y : Nat) (v : α) (h : y < L.length) : (L.set y v).take (y + 1) = L.take y ++ [v] := by
  rw [List.take_succ_eq_append_getElem (by rw [List.length_set]; exact h), List.getElem_set_self, List.take_set_of_le (Nat.le_refl _)]
theorem runF_next (s n : Nat) : runF s n ++ [rowF (s + n)] = runF s (n + 1) := by
  have := runF_app s n 1
  simpa [runF] using this
/-! ### the screen on its way -/
theorem Lines.eq2 {B : Nat} {w w' : World} {D : Option Addr} {L : List (List C)} (h : Lines B w D L) (hs : w.heap.size ≤ w'.heap.size) (hf : ∀ b, B ≤ b → b < w.heap.size → w'.heap[b]? = w.heap[b]?) : Lines B w' D L := by
  obtain ⟨vs, h1, h2⟩ := h
  refine ⟨vs, fun k hk => ?_, h2.1, fun k a b => ?_⟩
  · obtain ⟨b, off, e, q0, q1, q2, q3⟩ := h1 k hk
    have he := hf b q0 q1
    exact ⟨b, off, e, q0, by omega, q2.eq he, (cell_eq he).trans q3⟩
  · obtain ⟨D', c, e, hc, hr⟩ := h2.2 k a b
    exact ⟨D', c, e, hc, hr.eq hs fun b _ _ hb hl _ => hf b hb hl⟩
structure KSt (w : World) (G : Nat) (wv : World) (tb tq c : Nat) (E : Option Addr) (m d : Nat) (L Bk : List (List C)) (wr : World) : Prop where
  box : Box wr G (newNm 1 4) (.slice (some ⟨tb, tq, none⟩) 4 c) (.slice E m d)
  rows : Lines wv.heap.size wr (some ⟨tb, tq, none⟩) L
  len : L.length = 4
  cap : 4 ≤ c
  back : Lines (G + 1) wv E Bk
  blen : Bk.length = m
  bcap : m ≤ d
  G0 : w.heap.size ≤ G
  W0 : w.heap.size ≤ wv.heap.size
  neG : tb ≠ G
  far : ∀ b, G + 1 ≤ b → b < wv.heap.size → wr.heap[b]? = wv.heap[b]?
  size : wv.heap.size ≤ wr.heap.size
  below : Below w.heap.size w wr
theorem KSt.tb {w : World} {G : Nat} {wv : World} {tb tq c : Nat} {E : Option Addr} {m d : Nat} {L Bk : List (List C)} {wr : World} (h : KSt w G wv tb tq c E m d L Bk wr) : wv.heap.size ≤ tb ∧ tb < wr.heap.size := by
  obtain ⟨_, _, _, _, e, h1, h2, _⟩ := h.rows.at 0 (by rw [h.len]; decide)
  cases e
  exact ⟨h1, h2⟩
theorem KSt.scr {w : World} {G : Nat} {wv : World} {tb tq c : Nat} {E : Option Addr} {m d : Nat} {L Bk : List (List C)} {wr : World} (h : KSt w G wv tb tq c E m d L Bk wr) : Scr 0 wr (some ⟨tb, tq, none⟩) E 4 c m d L Bk :=
  ⟨h.rows.weak (Nat.zero_le _), (h.back.eq2 h.size h.far).weak (Nat.zero_le _), h.len, h.blen, h.cap, h.bcap⟩
/-- A new row is laid at y. -/
theorem KSt.put {w : World} {G : Nat} {wv : World} {tb tq c : Nat} {E : Option Addr} {m d : Nat} {L Bk : List (List C)} {wr : World} (h : KSt w G wv tb tq c E m d L Bk wr) (y : Nat) (hy : y < 4) (x : Int) :
    KSt w G wv tb tq c E m d (L.set y [⟨x, 0⟩]) Bk ((wr.alloc (.cells #[.int .i32 x, .int .i64 0] 35)).setCell ⟨tb, tq + y, none⟩ (.slice (some ⟨wr.heap.size, 0, none⟩) 1 1)) := by
  have htb := h.tb
  have hG0 := h.G0
  have hG1 := h.W0
  have hne := h.neG
  have hb0 := h.below.size
  have hrow : Row (wr.alloc (.cells #[.int .i32 x, .int .i64 0] 35)) wr.heap.size [⟨x, 0⟩] := Held.new wr 35 (cvs [⟨x, 0⟩]).toArray
  have b1 : Below wr.heap.size wr (wr.alloc (.cells #[.int .i32 x, .int .i64 0] 35)) := (Below.refl _ _).alloc (Nat.le_refl _) _
  have l1 := (h.rows.below b1 (Nat.le_refl _)).set y (by rw [h.len]; exact hy) (Nat.le_refl _) (hrow.at h.size)
  refine ⟨(h.box.alloc _).far (q := ⟨tb, tq + y, none⟩) (by exact (by omega : G ≠ tb)) _, l1, by rw [List.length_set, h.len], h.cap, h.back, h.blen, h.bcap, h.G0, h.W0, h.neG, fun b q1 q2 => ?_, by have := h.size; simp; omega, (h.below.trans (b1.mono hb0)).setCell (p := ⟨tb, tq + y, none⟩) (by exact (by omega : w.heap.size ≤ tb)) _⟩
  rw [heap_setCell_other _ _ _ _ (by exact (by omega : b ≠ tb)), b1.block b (by have := h.size; omega), h.far b q1 q2]
/-- The screen that came of it, laid into the variable. -/
structure QSt (w : World) (G : Nat) (D E : Option Addr) (c m d : Nat) (Bk : List (List C)) (wr : World) : Prop where
  box : Box wr G (newNm 1 4) (.slice D 4 c) (.slice E m d)
  back : Lines (G + 1) wr E Bk
  blen : Bk.length = m
  bcap : m ≤ d
  G0 : w.heap.size ≤ G
  below : Below w.heap.size w wr
theorem KSt.laid {w : World} {G : Nat} {wv : World} {tb tq c : Nat} {E : Option Addr} {m d : Nat} {L Bk : List (List C)} {wr w2 : World} (h : KSt w G wv tb tq c E m d L Bk wr) {D' E' : Option Addr} {c' m' d' : Nat} {L' Bk' : List (List C)} (hs : Scr wr.heap.size w2 D' E' 4 c' m' d' L' Bk') (hb : Below wr.heap.size wr w2) :
    QSt w G D' E' c' m' d' Bk' (w2.setRow G (gcs (newNm 1 4) (.slice D' 4 c') (.slice E' m' d'))) := by
  have hz := h.box.lt
  exact ⟨(h.box.below hb hz).setRow _ _ _, (hs.back.eq (by simp) fun b hb' => setRow_other w2 _ _ _ (by omega)).weak hz, hs.nb, hs.cb, h.G0, below_setRow (h.below.trans (hb.mono h.below.size)) h.G0 _⟩
theorem QSt.next {w : World} {G : Nat} {D E : Option Addr} {c m d : Nat} {Bk : List (List C)} {wr wx : World} (h : QSt w G D E c m d Bk wr) (hb : Below wr.heap.size wr wx) : QSt w G D E c m d Bk wx :=
  ⟨h.box.below hb h.box.lt, h.back.below hb (Nat.le_refl _), h.blen, h.bcap, h.G0, h.below.trans (hb.mono h.below.size)⟩
theorem lay_eq {w : World} {b o : Nat} (h : b < w.heap.size) (v : Value) (ob : Obj) : (w.setCell ⟨b, o, none⟩ v).alloc ob = (w.alloc ob).setCell ⟨b, o, none⟩ v := by
  rw [World.setCell_alloc_past _ _ _ _ (by exact h)]
theorem rowF_eq (N y : Nat) : [(⟨1000 + (N : Int) + (y : Int), 0⟩ : C)] = rowF (N + y) := by
  unfold rowF
  rw [Int.natCast_add, Int.add_assoc]
/-- The next screen: the lines that went are handed on. -/
structure NSt (w : World) (G Y : Nat) (wv : World) (D E D5 : Option Addr) (c m d c5 : Nat) (b5 : Value) (L Bk : List (List C)) (wr : World) : Prop where
  g : Box wr G (newNm 1 4) (.slice D 4 c) (.slice E m d)
  h : Box wr Y (newNm 1 4) (.slice D5 4 c5) b5
  q : QSt w G D E c m d Bk wv
  lt : wv.heap.size ≤ Y
  rows : Lines wv.heap.size wr D5 L
  below : Below wv.heap.size wv wr
theorem NSt.done {w : World} {G Y : Nat} {wv : World} {D E : Option Addr} {tb tq : Nat} {c m d c5 : Nat} {L Bk : List (List C)} {wr : World} (h : NSt w G Y wv D E (some ⟨tb, tq, none⟩) c m d c5 (.slice E m d) L Bk wr) (hL : L.length = 4) (hc : 4 ≤ c5) :
    KSt w G wv tb tq c5 E m d L Bk (wr.setRow G (gcs (newNm 1 4) (.slice (some ⟨tb, tq, none⟩) 4 c5) (.slice E m d))) := by
  have hz := h.q.box.lt
  have hw := h.q.below.size
  obtain ⟨_, _, _, _, e, htb, _⟩ := h.rows.at 0 (by rw [hL]; decide)
  cases e
  refine ⟨h.g.setRow _ _ _, h.rows.eq (by simp) fun b hb => setRow_other wr _ _ _ (by omega), hL, hc, h.q.back, h.q.blen, h.q.bcap, h.q.G0, hw, by omega, fun b q1 q2 => ?_, by simpa using h.below.size, below_setRow (h.q.below.trans (h.below.mono hw)) h.q.G0 _⟩
  rw [setRow_other wr _ _ _ (by omega), h.below.block b q2]
theorem Lines.other {B : Nat} {w : World} {tb tq : Nat} {L : List (List C)} (h : Lines B w (some ⟨tb, tq, none⟩) L) {p : Addr} (hp : p.block ≠ tb) {old : Value} (hc : w.cell? p = some old) (hne : ∀ k n, old ≠ .int k n) (v : Value) : Lines B (w.setCell p v) (some ⟨tb, tq, none⟩) L := by
  obtain ⟨vs, h1, h2⟩ := h
  refine ⟨vs, fun k hk => ?_, h2.1, fun k a b => (h2.2 k a b).set _ _ _ hc hne⟩
  obtain ⟨b, off, e, q0, q1, q2, q3⟩ := h1 k hk
  cases e
  exact ⟨tb, tq, rfl, q0, by simpa using q1, q2.set _ _, (World.cell?_setCell_other _ _ _ _ (by rintro rfl; exact hp rfl)).trans q3⟩
def KHead (w : World) (G N : Nat) (wr : World) : Prop := ∃ wv tb tq c E d L, KSt w G wv tb tq c E (min N 50) d L (bkF N) wr
def MainRel (w : World) (G : Nat) (u v : Value) (wr : World) : Prop := ∃ N i : Nat, u = .int .i64 (N : Int) ∧ v = .int .i64 (i : Int) ∧ i ≤ 40 ∧ N ≤ 4 * i ∧ KHead w G N wr
def LayRel (w : World) (G : Nat) (wv : World) (tb tq c : Nat) (E : Option Addr) (m d N : Nat) (Bk : List (List C)) (v : Value) (wr : World) : Prop := ∃ (y : Nat) (L : List (List C)), v = .int .i64 (y : Int) ∧ y ≤ 4 ∧ L.take y = runF N y ∧ KSt w G wv tb tq c E m d L Bk wr
def UpRel (w : World) (G N k : Nat) (u : Value) (wr : World) : Prop := ∃ (M : Nat) (D E : Option Addr) (c d : Nat), u = .int .i64 (M : Int) ∧ M ≤ N + k ∧ QSt w G D E c (min M 50) d (bkF M) wr
def XJ (S : World → Prop) (n : Nat) (v : Value) (wr : World) : Prop := ∃ j : Nat, v = .int .i64 (j : Int) ∧ j ≤ n ∧ S wr

set_option maxRecDepth 100000 in
set_option maxHeartbeats 4000000 in
theorem backs_walk (D0 : Option Addr) (c0 : Nat) (xs : List Int) (w : World) (hr : ReadI w (.slice D0 xs.length c0) xs) :
    Calls Try.prog 4 #[.slice D0 xs.length c0] w (TrueBelow w) := by
  have HRI := Lib.hid hr
  clear hr
  have HN : Hid (∀ w, Calls Try.prog 12 #[.int .i64 1, .int .i64 4] w (NewPost w (newNm 1 4) (blankL 1 4))) := fun w => rnew_nil 1 4 w
  go_enter Try.func4, Try.ntmps4
  go_upto_region 2 with (first
  | (with_reducible refine wpList_storeB (x := .tmp 3) (y := .tmp 10) (p := newNm 1 4) (D := D1) (E := none) (n := 4) (c := c1) (m := 0) (d := 0) ?_ ?_ ?_ ?_ ?_ ?_
     · with_reducible rfl
     · rfl
     · rfl
     · rfl
     · rfl)
  | (go_at_call 12
     refine (HN.out _).mono ?_
     rintro e w1 ⟨D1, n1, c1, rfl, l1, hn1, hc1, hb1⟩
     obtain rfl : 4 = n1 := hn1))
  try dsimp only [Act.put]
  obtain ⟨tb, tq, rfl⟩ : ∃ b o, D1 = some ⟨b, o, none⟩ := by
    obtain ⟨b, o, _, _, e, _⟩ := l1.at 0 (by decide)
    exact ⟨b, o, e⟩
  have hb1' := hb1.size
  refine wp_world (KHead w w1.heap.size 0) ⟨w, tb, tq, c1, none, 0, blankL 1 4, Box.new _ (newNm 1 4) _ _, l1.below ((Below.refl _ _).alloc (Nat.le_refl _) _) (Nat.le_refl _), rfl, hc1, Lines.nil _ _ _, rfl, Nat.le_refl _, hb1', Nat.le_refl _, ?_, fun b q1 q2 => by omega, by simp; omega, hb1.alloc hb1' _⟩ ?_
  · obtain ⟨_, _, _, _, e, _, h, _⟩ := l1.at 0 (by decide)
    cases e
    omega
  clear l1 hc1 hb1 hb1'
  generalize w1.heap.size = G at *
  rintro wa ka
  go_upto_region 4 with fail
  go_loopw [4, 5] (MainRel w G) (fun _ i _ => 41 - (intOf i).toNat)
  case atStart => exact ⟨0, 0, rfl, rfl, by omega, by omega, ka⟩
  case round =>
    clear ka
    obtain ⟨N, i, rfl, rfl, hi, hN, wv, tb, tq, c, E, d, L, ks⟩ := hrel
    by_cases hlt : i < xs.length ∧ i < 40
    · obtain ⟨hl1, hl2⟩ := hlt
      have i1 : (i : Int) < (xs.length : Int) := by omega
      have i2 : (i : Int) < (40 : Int) := by omega
      obtain ⟨D0', c0', e0, hrd⟩ := HRI.out
      cases e0
      obtain ⟨pb, po, z, rfl, hpb, hz, hcz⟩ := hrd i hl1
      have hcz' := (ks.below.cell (p := ⟨pb, po + i, none⟩) hpb).trans hcz
      obtain ⟨a7, ha7, hA7⟩ := mask7 z
      have hk5 : Int.tmod (a7 : Int) 5 = ((a7 % 5 : Nat) : Int) := rfl
      obtain ⟨k, hk⟩ : ∃ k, a7 % 5 = k := ⟨_, rfl⟩
      have hk4 : k ≤ 4 := by omega
      rw [hk] at hk5
      go_wp2_with fail
      clear hcz' hA7 hk5
      go_loopw [7] (LayRel w G wv tb tq c E (min N 50) d N (bkF N)) (fun y _ => 5 - (intOf y).toNat)
      case atStart => exact ⟨0, L, rfl, by omega, rfl, ks⟩
      case round =>
        clear ks
        obtain ⟨y, L, rfl, hy, htk, ks⟩ := hrel
        by_cases hy4 : y < 4
        · as_aux_lemma =>
          have yi : (y : Int) < (4 : Int) := by omega
          have y13 := ks.box.cells.c13
          have hyl : y < L.length := by rw [ks.len]; omega
          obtain ⟨_, _, Ey, cy, eD, _, _, hfr, hcy, _, _⟩ := ks.rows.at y hyl
          cases eD
          have hf := hfr (tq + y)
          have htb := ks.tb.2
          have HST := Lib.hid (ks.put y hy4 (1000 + (N : Int) + (y : Int)))
          rw [← lay_eq htb, rowF_eq] at HST
          have HTK : Hid ((L.set y (rowF (N + y))).take (y + 1) = runF N (y + 1)) := by
            show _ = _
            rw [take_set L y _ (by rw [ks.len]; exact hy4), htk, runF_next]
          clear ks htk hfr
          go_wp2_with fail
          go_roundw
          case rel => exact ⟨y + 1, _, by go_num, by omega, HTK.out, HST.out⟩
          case measure => simp [intOf]; omega
        · have yi : ¬ (y : Int) < (4 : Int) := by omega
          obtain rfl : y = 4 := by omega
          obtain rfl : L = runF N 4 := by rw [← htk, List.take_of_length_le (by rw [ks.len]; exact Nat.le_refl _)]
          have hcz2 := (ks.below.cell (p := ⟨pb, po + i, none⟩) hpb).trans hcz
          obtain ⟨a3, ha3, hA3⟩ := mask3 (z / 8)
          go_upto_if 48 with fail
          clear hcz2 hA3 htk
          go_cut [4] (UpRel w G N k)
          case first =>
           as_aux_lemma =>
            have x1 := ks.box
            have hz1 := x1.lt
            have hm50 : min N 50 ≤ 50 := Nat.min_le_right _ _
            by_cases h3 : a3 = 0
            · have b3 : ((a3 : Int) == 0) = true := by rw [h3]; rfl
              have HU : Hid (Calls Try.prog 7 #[gv (newNm 1 4) (.slice (some ⟨tb, tq, none⟩) 4 c) (.slice E (min N 50) d), .int .i64 1, .int .i64 3, .int .i64 (k : Int)] wr (GridPost wr (newNm 1 4) (upL (runF N 4) 1 (3 + 1) (min k (3 + 1 - 1)) (newNm 1 4).w) (upBack (runF N 4) (bkF N) 1 (min k (3 + 1 - 1))))) := up_nat (newNm 1 4) _ E 4 c _ d _ _ 1 3 k wr ks.scr (by decide) (by decide) (by decide) hm50 (runF_one _ _) (runF_one _ _)
              go_wp2_with (first
                | (with_reducible refine wpList_loadB x1 (x := .tmp 3) ?_ ?_ ?_ ?_
                   · with_reducible rfl
                   · rfl
                   · rfl)
                | (go_at_call 7
                   refine HU.out.mono ?_
                   rintro e w2 ⟨D2, E2, n2, c2, m2, d2, rfl, s2, hb2⟩
                   obtain rfl : 4 = n2 := by rw [← s2.nr, upL_len _ (runF_len N 4) (by omega) (by decide)]
                   have x2 := x1.below hb2 hz1)
                | (with_reducible refine wpList_storeA x2 (x := .tmp 3) (y := .tmp 51) (p := newNm 1 4) (D := D2) (E := E2) (n := 4) (c := c2) (m := m2) (d := d2) ?_ ?_ ?_ ?_ ?_
                   · with_reducible rfl
                   · rfl
                   · rfl
                   · rfl))
              go_meet
              have hbk : upBack (runF N 4) (bkF N) 1 (min k (3 + 1 - 1)) = bkF N := if_neg (by decide)
              rw [hbk] at s2
              obtain rfl : min N 50 = m2 := by rw [← s2.nb, bkF_len]
              exact ⟨N, D2, E2, c2, d2, rfl, by omega, ks.laid s2 hb2⟩
            · have b3 : ((a3 : Int) == 0) = false := beq_eq_false_iff_ne.2 (by omega)
              have HU : Hid (Calls Try.prog 7 #[gv (newNm 1 4) (.slice (some ⟨tb, tq, none⟩) 4 c) (.slice E (min N 50) d), .int .i64 0, .int .i64 3, .int .i64 (k : Int)] wr (GridPost wr (newNm 1 4) (upL (runF N 4) 0 (3 + 1) (min k (3 + 1 - 0)) (newNm 1 4).w) (upBack (runF N 4) (bkF N) 0 (min k (3 + 1 - 0))))) := up_nat (newNm 1 4) _ E 4 c _ d _ _ 0 3 k wr ks.scr (by decide) (by decide) (by decide) hm50 (runF_one _ _) (runF_one _ _)
              go_wp2_with (first
                | (with_reducible refine wpList_loadB x1 (x := .tmp 3) ?_ ?_ ?_ ?_
                   · with_reducible rfl
                   · rfl
                   · rfl)
                | (go_at_call 7
                   refine HU.out.mono ?_
                   rintro e w2 ⟨D2, E2, n2, c2, m2, d2, rfl, s2, hb2⟩
                   obtain rfl : 4 = n2 := by rw [← s2.nr, upL_len _ (runF_len N 4) (by omega) (by decide)]
                   have x2 := x1.below hb2 hz1)
                | (with_reducible refine wpList_storeA x2 (x := .tmp 3) (y := .tmp 54) (p := newNm 1 4) (D := D2) (E := E2) (n := 4) (c := c2) (m := m2) (d := d2) ?_ ?_ ?_ ?_ ?_
                   · with_reducible rfl
                   · rfl
                   · rfl
                   · rfl))
              go_meet
              have hbk : upBack (runF N 4) (bkF N) 0 (min k (3 + 1 - 0)) = bkF (N + k) := by
                rw [show min k (3 + 1 - 0) = k by omega]
                exact back_next N k hk4
              rw [hbk] at s2
              obtain rfl : min (N + k) 50 = m2 := by rw [← s2.nb, bkF_len]
              exact ⟨N + k, D2, E2, c2, d2, by rw [Int.natCast_add], by omega, ks.laid s2 hb2⟩
          case rest =>
            clear ks
            obtain ⟨M, D2, E2, c2, d2, rfl, hM, qs⟩ := hcut
            have hM2 : M ≤ 200 := by omega
            go_upto_region 15 with fail
            go_cut [69] (BRel (QSt w G D2 E2 c2 (min M 50) d2 (bkF M)) false)
            case first =>
              have y13 := qs.box.cells.c13
              have y14 := qs.box.cells.c14
              by_cases h5 : 50 < M
              · have e5 : min M 50 = 50 := by omega
                have f5 : (50 : Int) < (M : Int) := by omega
                rw [e5] at y14
                go_wp2_with fail
                go_meet
                exact ⟨rfl, qs⟩
              · have e5 : min M 50 = M := by omega
                have f5 : ¬ (50 : Int) < (M : Int) := by omega
                rw [e5] at y14
                go_wp2_with fail
                go_meet
                exact ⟨rfl, qs⟩
            case rest =>
              clear qs
              obtain ⟨rfl, qs⟩ := hcut
              have y14 := qs.box.cells.c14
              obtain ⟨mm, hmm⟩ : ∃ mm, min M 50 = mm := ⟨_, rfl⟩
              rw [hmm] at qs y14
              have hmm2 : mm ≤ 50 := by omega
              have hmm3 : mm ≤ M := by omega
              have HBA : Hid (∀ j, j < mm → (bkF M)[j]? = some (rowF (M - mm + j))) := fun j hj => by
                have := runF_at (M - min M 50) (min M 50) j (by omega)
                rw [hmm] at this
                unfold bkF
                rw [hmm]
                exact this
              have HMM := Lib.hid hmm
              clear hmm
              go_wp2_with fail
              clear y14
              go_loopw [73] (XJ (QSt w G D2 E2 c2 mm d2 (bkF M)) mm) (fun j _ => mm + 1 - (intOf j).toNat)
              case atStart => exact ⟨0, rfl, Nat.zero_le _, qs⟩
              case round =>
                clear qs
                obtain ⟨j, rfl, hj, qs⟩ := hrel
                by_cases hjm : j < mm
                · as_aux_lemma =>
                  have ji : (j : Int) < (mm : Int) := by omega
                  obtain ⟨eb, eo, F, cF, rfl, _, hcj, _, hrj⟩ := qs.back.at? (HBA.out j hjm)
                  obtain ⟨fb, fo, rfl, _, _, _, hfj, _⟩ := hrj 0 (by simp [rowF])
                  have y14 := qs.box.cells.c14
                  have hcj' : wr.cell? ⟨eb, eo + j, none⟩ = some (.slice (some ⟨fb, fo, none⟩) 1 cF) := hcj
                  have hfj' : wr.cell? ⟨fb, fo, none⟩ = some (.int .i32 (1000 + (M : Int) - (mm : Int) + (j : Int))) := by
                    have e : (1000 + ((M - mm + j : Nat) : Int)) = 1000 + (M : Int) - (mm : Int) + (j : Int) := by omega
                    rw [← e]
                    exact hfj
                  clear hcj hfj hrj
                  go_upto_region 20 with fail
                  go_quiet (fail)
                  go_wp2_with fail
                  go_roundw
                  case rel => exact ⟨j + 1, by go_num, by omega, qs.next (below_drewN (Below.refl _ _) _)⟩
                  case measure => simp [intOf]; omega
                · have ji : ¬ (j : Int) < (mm : Int) := by omega
                  have x3 := qs.box
                  go_upto_region 24 with (first
                    | (go_at_call 12
                       refine (HN.out _).mono ?_
                       rintro e w5 ⟨D5, n5, c5, rfl, l5, hn5, hc5, hb5⟩
                       obtain rfl : 4 = n5 := hn5)
                    | (with_reducible refine wpList_storeB (x := .tmp 9) (y := .tmp 104) (p := newNm 1 4) (D := D5) (E := none) (n := 4) (c := c5) (m := 0) (d := 0) ?_ ?_ ?_ ?_ ?_ ?_
                       · with_reducible rfl
                       · rfl
                       · rfl
                       · rfl
                       · rfl))
                  try dsimp only [Act.put]
                  obtain ⟨tb5, tq5, rfl⟩ : ∃ b o, D5 = some ⟨b, o, none⟩ := by
                    obtain ⟨b, o, _, _, e, _⟩ := l5.at 0 (by decide)
                    exact ⟨b, o, e⟩
                  have h5Y : w5.heap.size ≠ tb5 := by
                    obtain ⟨_, _, _, _, e, _, h, _⟩ := l5.at 0 (by decide)
                    cases e
                    omega
                  refine wp_world (NSt w G w5.heap.size wr D2 E2 (some ⟨tb5, tq5, none⟩) c2 mm d2 c5 nilV (blankL 1 4) (bkF M)) ⟨(x3.below hb5 x3.lt).alloc _, Box.new _ (newNm 1 4) _ _, qs, hb5.size, l5.below ((Below.refl _ _).alloc (Nat.le_refl _) _) (Nat.le_refl _), hb5.alloc hb5.size _⟩ ?_
                  clear hb5 l5 x3 qs
                  generalize w5.heap.size = Y at *
                  obtain ⟨wv, hwv⟩ : ∃ wv, wv = wr := ⟨_, rfl⟩
                  subst hwv
                  rintro wb ns
                  have g14 := ns.g.cells.c14
                  have h14 := ns.h.cells.c14
                  have hf := ns.h.cells.free
                  simp only [nilV] at h14
                  go_upto_region 25 with fail
                  clear g14 h14 hf
                  have hYG : G ≠ Y := by have := ns.q.box.lt; have := ns.lt; omega
                  refine wp_world (NSt w G Y wv D2 E2 (some ⟨tb5, tq5, none⟩) c2 mm d2 c5 (.slice E2 mm d2) (blankL 1 4) (bkF M)) ⟨ns.g.far (q := ⟨Y, 14, none⟩) (by exact hYG) _, ns.h.set_back _, ns.q, ns.lt, ?_, ns.below.setCell (p := ⟨Y, 14, none⟩) (by exact ns.lt) _⟩ ?_
                  · exact ns.rows.other (p := ⟨Y, 14, none⟩) (by exact h5Y) ns.h.cells.c14 (by intro _ _ e; cases e) _
                  clear ns
                  rintro wb ns
                  have x7 := ns.h
                  have x8 := ns.g
                  go_wp2_with (first
                    | (with_reducible refine wpList_loadB x7 (x := .tmp 9) ?_ ?_ ?_ ?_
                       · with_reducible rfl
                       · rfl
                       · rfl)
                    | (with_reducible refine wpList_storeA x8 (x := .tmp 3) (y := .tmp 108) (p := newNm 1 4) (D := some ⟨tb5, tq5, none⟩) (E := E2) (n := 4) (c := c5) (m := mm) (d := d2) ?_ ?_ ?_ ?_ ?_
                       · with_reducible rfl
                       · rfl
                       · rfl
                       · rfl))
                  go_roundw
                  case rel =>
                    refine ⟨M, i + 1, rfl, by go_num, by omega, by omega, wv, tb5, tq5, c5, E2, d2, blankL 1 4, ?_⟩
                    rw [HMM.out]
                    exact ns.done rfl hc5
                  case measure => simp [intOf]; omega
    · by_cases hl1 : i < xs.length
      · have i1 : (i : Int) < (xs.length : Int) := by omega
        have i2 : ¬ (i : Int) < (40 : Int) := by omega
        go_wp2_with (go_at_call 11; refine (awake_any _).mono ?_; rintro e w9 ⟨rfl, hb9⟩)
        go_ret
        exact ⟨rfl, ks.below.trans (hb9.mono ks.below.size)⟩
      · have i1 : ¬ (i : Int) < (xs.length : Int) := by omega
        go_wp2_with (go_at_call 11; refine (awake_any _).mono ?_; rintro e w9 ⟨rfl, hb9⟩)
        go_ret
        exact ⟨rfl, ks.below.trans (hb9.mono ks.below.size)⟩
end Go.Proofs.Ytjgdabbcbfhijaa
