/-
  The walk of PaneLines: lines that are fed show the last ones, and the others are kept. No condition.
-/
import Derived.Test.YtpcpmeihebgncaaB7
import Derived.Test.YtpcpmeihebgncaaB8
import Derived.Deep.QuietTactic
import Derived.BigQuiet
namespace Go.Proofs.Ytpcpmeihebgncaa
open Go.RowKit
set_option maxRecDepth 100000
set_option linter.unusedSimpArgs false

theorem lmask7 (z : Int) : ∃ a : Nat, a ≤ 7 ∧ bits .and .i64 z 7 = a := ⟨(z % 8).toNat, by omega, by rw [i64_and7]; omega⟩
theorem lmask63 (z : Int) : ∃ a : Nat, a ≤ 63 ∧ bits .and .i64 z 63 = a := ⟨(z % 64).toNat, by omega, by rw [i64_and63]; omega⟩
/-- A pane in a variable. -/
structure PSt (w : World) (g : Nat) (q : PM) (F D E : Option Addr) (f qq n c m d : Nat) (wr : World) : Prop where
  box : PBox wr g q.e (.slice F f qq) q.s.p (.slice D n c) (.slice E m d)
  par : Esca.Ints wr 0 (.slice F f qq) q.e.par
  scr : Scr 0 wr D E n c m d q.s.L q.s.B
  below : Below w.heap.size w wr
  ge : w.heap.size ≤ g
theorem PSt.next {w : World} {g : Nat} {q : PM} {F D E : Option Addr} {f qq n c m d : Nat} {wr wy : World} (h : PSt w g q F D E f qq n c m d wr) (hb : Below wr.heap.size wr wy) : PSt w g q F D E f qq n c m d wy :=
  ⟨h.box.below hb h.box.lt, h.par.below hb (Nat.le_refl _), h.scr.below hb (Nat.le_refl _), h.below.trans (hb.mono h.below.size), h.ge⟩
theorem PSt.alloc {w : World} {g : Nat} {q : PM} {F D E : Option Addr} {f qq n c m d : Nat} {wr : World} (h : PSt w g q F D E f qq n c m d wr) (o : Obj) : PSt w g q F D E f qq n c m d (wr.alloc o) := h.next ((Below.refl _ _).alloc (Nat.le_refl _) _)
theorem PSt.drew {w : World} {g : Nat} {q : PM} {F D E : Option Addr} {f qq n c m d : Nat} {wr : World} (h : PSt w g q F D E f qq n c m d wr) : PSt w g q F D E f qq n c m d wr.drew := h.next (below_drewN (Below.refl _ _) 1)
theorem PSt.drewN {w : World} {g : Nat} {q : PM} {F D E : Option Addr} {f qq n c m d : Nat} {wr : World} (h : PSt w g q F D E f qq n c m d wr) (k : Nat) : PSt w g q F D E f qq n c m d (wr.drewN k) := h.next (below_drewN (Below.refl _ _) k)
/-- Behind a feed: the answer is stored. -/
theorem PSt.put {w : World} {g : Nat} {q q' : PM} {F D E : Option Addr} {f qq n c m d : Nat} {wr w' : World} (h : PSt w g q F D E f qq n c m d wr) {F' D' E' : Option Addr} {f' qq' n' c' m' d' : Nat} {B : Nat} (hb : Below wr.heap.size wr w') (hB : wr.heap.size ≤ B) (hp : Esca.Ints w' B (.slice F' f' qq') q'.e.par) (hs : Scr B w' D' E' n' c' m' d' q'.s.L q'.s.B) :
    PSt w g q' F' D' E' f' qq' n' c' m' d' (w'.setRow g (pcs q'.e (.slice F' f' qq') q'.s.p (.slice D' n' c') (.slice E' m' d'))) :=
  have hg : g < B := Nat.lt_of_lt_of_le h.box.lt hB
  ⟨(h.box.below hb h.box.lt).setRow _ _ _ _ _, (ints_put hp hg _).base (Nat.zero_le _), (hs.put hg _).weak (Nat.zero_le _), below_setRow (h.below.trans (hb.mono h.below.size)) h.ge _, h.ge⟩
def LnRel (w : World) (g H N : Nat) (i : Value) (wr : World) : Prop := ∃ (k : Nat) (F D E : Option Addr) (f qq n c m d : Nat), i = .int .i64 (k : Int) ∧ k ≤ N ∧ PSt w g (pl H k) F D E f qq n c m d wr
def feedCall (q q' : PM) (bs : List Int) : Prop := ∀ (wx : World) (F D E V : Option Addr) (f qq n c m d cv B : Nat), Esca.Ints wx B (.slice F f qq) q.e.par → Scr 0 wx D E n c m d q.s.L q.s.B → Esca.ReadB wx (.slice V bs.length cv) bs → Calls Try.prog 20 #[pv q.e (.slice F f qq) q.s.p (.slice D n c) (.slice E m d), .slice V bs.length cv] wx (PanePost wx q'.e q'.s.p q'.s.L q'.s.B)
theorem feed_call {W H : Nat} (q : PM) (bs : List Int) (ok : q.Ok W H) (hn : bs.length ≤ 300000) : feedCall q (feedP q bs) bs := fun wx F D E V f qq n c m d cv B h1 h2 h3 => pfeed_any q bs F D E V f qq n c m d cv B wx ok h1 h2 h3 hn
theorem readB2 (w : World) (a b : Int) (n c : Nat) (fr : Nat × Nat) (hn : n = 2) (ha : 0 ≤ a ∧ a ≤ 255) (hb : 0 ≤ b ∧ b ≤ 255) : Esca.ReadB (w.alloc (.cells #[.int .u8 a, .int .u8 b] 5 fr)) (.slice (some ⟨w.heap.size, 0, none⟩) n c) [a, b] :=
  Esca.readB_new w [a, b] _ n c fr hn.symm fun k z hz => by
    match k, hz with
    | 0, hz => cases hz; exact ⟨rfl, ha⟩
    | 1, hz => cases hz; exact ⟨rfl, hb⟩
theorem sign_lt {L : List (List C)} {y x : Nat} (h : x < (rowAt L y).length) : y < L.length := by
  by_cases hy : y < L.length
  · exact hy
  · simp [rowAt, List.getD_eq_getElem?_getD, hy] at h
theorem row_w {W H : Nat} {s : WS} (k : Wk W H s) {y : Nat} (hy : y < H) : (rowAt s.L y).length = W := by
  have hl : y < s.L.length := by rw [k.ok.ln]; exact hy
  rw [getD_at hl]
  exact k.ok.rows _ (List.getElem_mem hl)

set_option maxHeartbeats 8000000 in
theorem lines_walk (x0 y0 : Int) (w : World) : Calls Try.prog 8 #[.int .i64 x0, .int .i64 y0] w (TrueBelow w) := by
  obtain ⟨N0, hN, eN⟩ := lmask63 x0
  obtain ⟨H0, hH, eH⟩ := lmask7 y0
  have HN : Hid (∀ wx, Calls Try.prog 21 #[.int .i64 4, .int .i64 ((H0 : Int) + 1)] wx (PanePost wx (newP 4 (H0 + 1)).e (newP 4 (H0 + 1)).s.p (newP 4 (H0 + 1)).s.L (newP 4 (H0 + 1)).s.B)) := fun wx => newP_any 4 (H0 + 1) wx (by omega) (by omega) (by omega) (by omega)
  have HC : Hid (lchk (H0 + 1) (N0 + 1) (pl (H0 + 1) (N0 + 1)) = true) := lchk_all H0 (N0 + 1) (by omega) (by omega) (by omega)
  have HK : Hid (∀ k, (pl (H0 + 1) k).Ok 4 (H0 + 1)) := fun k => pl_ok (H0 + 1) (by omega) (by omega) k
  have s1 : IntKind.i64.wrap ((N0 : Int) + 1) = (N0 : Int) + 1 := IntWalk.i64_in _ (by omega)
  have s2 : IntKind.i64.wrap ((H0 : Int) + 1) = (H0 : Int) + 1 := IntWalk.i64_in _ (by omega)
  have H0Q : Hid (newP 4 (H0 + 1) = pl (H0 + 1) 0) := Lib.hid rfl
  generalize newP 4 (H0 + 1) = q0 at *
  go_enter Try.func8, Try.ntmps8
  have kc := fun (w : World) (C : Array Value) (n c g : Nat) (hg : g = w.heap.size) => Joins.run_convert_bytes_const_at (P := Try.prog) w 40 5 C n c g hg Try.underlying40 Try.underlying5
  go_upto_region 3 with (first
    | (go_at_call 21
       refine (HN.out _).mono ?_
       rintro e w1 ⟨F, f, q, D, n, c, E, m, d, rfl, i1, s1, b1⟩)
    | (with_reducible refine wpList_storePn (x := .tmp 5) (y := .tmp 20) (e := q0.e) (p := q0.s.p) (F := F) (f := f) (q := q) (D := D) (E := E) (n := n) (c := c) (m := m) (d := d) ?_ ?_ ?_ ?_ ?_ ?_
       · with_reducible rfl
       · rfl
       · rfl
       · rfl
       · rfl))
  refine wp_world (fun wq => PSt w w1.heap.size q0 F D E f q n c m d wq) ⟨PBox.new _ _ _ _ _ _, (i1.base (Nat.zero_le _)).alloc _, (s1.weak (Nat.zero_le _)).below ((Below.refl _ _).alloc (Nat.le_refl _) _) (Nat.le_refl _), b1.alloc b1.size _, b1.size⟩ ?_
  clear i1 s1 b1 HN eN eH
  intro w2 st0
  rw [H0Q.out] at st0
  clear H0Q
  generalize w1.heap.size = g at *
  go_wp2_with fail
  go_loopw [6] (LnRel w g (H0 + 1) (N0 + 1)) (fun i _ => N0 + 1 - (intOf i).toNat)
  case atStart => exact ⟨0, _, _, _, _, _, _, _, _, _, rfl, Nat.zero_le _, st0⟩
  case round =>
    clear st0
    obtain ⟨k, F, D, E, f, qq, n, c, m, d, rfl, hk, st⟩ := hrel
    by_cases hlt : k < N0 + 1
    · have hki : (k : Int) < (N0 : Int) + 1 := by omega
      have ok1 := HK.out k
      have ek : pl (H0 + 1) (k + 1) = feedP (plN k (pl (H0 + 1) k)) (plB k) := rfl
      have HE := Lib.hid ek
      clear ek
      generalize pl (H0 + 1) k = q at *
      have s3 : IntKind.i64.wrap (65 + (((k % 26 : Nat)) : Int)) = 65 + ((k % 26 : Nat) : Int) := IntWalk.i64_in _ (by omega)
      have s4 : IntKind.i64.wrap (97 + (((k / 26 : Nat)) : Int)) = 97 + ((k / 26 : Nat) : Int) := IntWalk.i64_in _ (by omega)
      have s5 : IntKind.u8.wrap (65 + (((k % 26 : Nat)) : Int)) = 65 + ((k % 26 : Nat) : Int) := IntWalk.u8_in _ (by omega)
      have s6 : IntKind.u8.wrap (97 + (((k / 26 : Nat)) : Int)) = 97 + ((k / 26 : Nat) : Int) := IntWalk.u8_in _ (by omega)
      have s7 : (k : Int).tmod 26 = ((k % 26 : Nat) : Int) := by rw [Int.tmod_eq_emod_of_nonneg (by omega)]; exact (Int.natCast_emod k 26).symm
      have s8 : (k : Int).tdiv 26 = ((k / 26 : Nat) : Int) := by rw [Int.tdiv_eq_ediv_of_nonneg (by omega)]; exact (Int.natCast_ediv k 26).symm
      have hr1 : k % 26 ≤ 25 := by omega
      have hr2 : k / 26 ≤ 2 := by omega
      by_cases hk0 : 0 < k
      · have hk0i : (0 : Int) < (k : Int) := by omega
        have HF1 := Lib.hid (feed_call q [13, 10] ok1 (by decide))
        have ok2 := ok1.feedP [13, 10]
        have HB := Lib.hid (show Esca.okBytes [13, 10] = true from rfl)
        have eN : plN k q = feedP q [13, 10] := by unfold plN; rw [if_neg (by omega)]
        rw [eN] at HE
        clear eN
        generalize feedP q [13, 10] = q1 at *
        have x1 := st.box
        go_upto_region 8 with (first
          | (with_reducible refine wpList_loadP x1 (x := .tmp 5) ?_ ?_ ?_ ?_
             · with_reducible rfl
             · rfl
             · rfl)
          | (go_at_call 20
             refine (HF1.out _ F D E _ f qq n c m d _ 0 (st.par.alloc _) (st.scr.below ((Below.refl _ _).alloc (Nat.le_refl _) _) (Nat.le_refl _)) (Esca.readB_new wr [13, 10] _ 2 _ _ rfl (Esca.u8s_at HB.out))).mono ?_
             rintro e w4 ⟨F4, f4, q4, D4, n4, c4, E4, m4, d4, rfl, i4, s4, b4⟩
             have b14 : Below wr.heap.size wr w4 := ((Below.refl _ wr).alloc (Nat.le_refl _) _).trans (b4.mono (by simp))
             have x4 := x1.below b14 x1.lt)
          | (with_reducible refine wpList_storeP x4 (x := .tmp 5) (y := .tmp 31) (e' := q1.e) (p' := q1.s.p) (F := F4) (f := f4) (q := q4) (D := D4) (E := E4) (n := n4) (c := c4) (m := m4) (d := d4) ?_ ?_ ?_ ?_ ?_
             · with_reducible rfl
             · rfl
             · rfl
             · rfl))
        refine wp_world (fun wq => PSt w g q1 F4 D4 E4 f4 q4 n4 c4 m4 d4 wq) (PSt.put (q' := q1) st b14 (by simp) i4 s4) ?_
        clear st x1 x4 i4 s4 b4 b14 HF1 HB ok1
        intro w5 st
        have HF2 := Lib.hid (feed_call q1 (plB k) ok2 (by simp [plB]))
        rw [← HE.out] at HF2
        clear HE ok2
        generalize hq2 : pl (H0 + 1) (k + 1) = q2 at *
        have HQ2 := Lib.hid hq2
        clear hq2
        have y1 := st.box
        go_upto_region 5 with (first
          | (with_reducible refine wpList_loadP y1 (x := .tmp 5) ?_ ?_ ?_ ?_
             · with_reducible rfl
             · rfl
             · rfl)
          | (go_at_call 20
             refine (HF2.out _ F4 D4 E4 _ f4 q4 n4 c4 m4 d4 _ 0 (st.par.alloc _) (st.scr.below ((Below.refl _ _).alloc (Nat.le_refl _) _) (Nat.le_refl _)) (readB2 w5 _ _ 2 _ _ rfl (by omega) (by omega))).mono ?_
             rintro e w6 ⟨F6, f6, q6, D6, n6, c6, E6, m6, d6, rfl, i6, s6, b6⟩
             have b16 : Below w5.heap.size w5 w6 := ((Below.refl _ w5).alloc (Nat.le_refl _) _).trans (b6.mono (by simp))
             have y6 := y1.below b16 y1.lt)
          | (with_reducible refine wpList_storeP y6 (x := .tmp 5) (y := .tmp 42) (e' := q2.e) (p' := q2.s.p) (F := F6) (f := f6) (q := q6) (D := D6) (E := E6) (n := n6) (c := c6) (m := m6) (d := d6) ?_ ?_ ?_ ?_ ?_
             · with_reducible rfl
             · rfl
             · rfl
             · rfl))
        refine wp_world (fun wq => PSt w g q2 F6 D6 E6 f6 q6 n6 c6 m6 d6 wq) (PSt.put (q' := q2) st b16 (by simp) i6 s6) ?_
        clear st y1 y6 i6 s6 b6 b16 HF2
        intro w7 st
        go_wp2_with fail
        go_roundw
        case rel => exact ⟨k + 1, F6, D6, E6, f6, q6, n6, c6, m6, d6, by go_num, by omega, by rw [HQ2.out]; exact st⟩
        case measure => simp [intOf]; omega
      · have hk0i : ¬ (0 : Int) < (k : Int) := by omega
        have eN : plN k q = q := by unfold plN; rw [if_pos (by omega)]
        rw [eN] at HE
        clear eN
        go_upto_region 8 with fail
        have HF2 := Lib.hid (feed_call q (plB k) ok1 (by simp [plB]))
        rw [← HE.out] at HF2
        clear HE ok1
        generalize hq2 : pl (H0 + 1) (k + 1) = q2 at *
        have HQ2 := Lib.hid hq2
        clear hq2
        have y1 := st.box
        go_upto_region 5 with (first
          | (with_reducible refine wpList_loadP y1 (x := .tmp 5) ?_ ?_ ?_ ?_
             · with_reducible rfl
             · rfl
             · rfl)
          | (go_at_call 20
             refine (HF2.out _ F D E _ f qq n c m d _ 0 (st.par.alloc _) (st.scr.below ((Below.refl _ _).alloc (Nat.le_refl _) _) (Nat.le_refl _)) (readB2 wr _ _ 2 _ _ rfl (by omega) (by omega))).mono ?_
             rintro e w6 ⟨F6, f6, q6, D6, n6, c6, E6, m6, d6, rfl, i6, s6, b6⟩
             have b16 : Below wr.heap.size wr w6 := ((Below.refl _ wr).alloc (Nat.le_refl _) _).trans (b6.mono (by simp))
             have y6 := y1.below b16 y1.lt)
          | (with_reducible refine wpList_storeP y6 (x := .tmp 5) (y := .tmp 42) (e' := q2.e) (p' := q2.s.p) (F := F6) (f := f6) (q := q6) (D := D6) (E := E6) (n := n6) (c := c6) (m := m6) (d := d6) ?_ ?_ ?_ ?_ ?_
             · with_reducible rfl
             · rfl
             · rfl
             · rfl))
        refine wp_world (fun wq => PSt w g q2 F6 D6 E6 f6 q6 n6 c6 m6 d6 wq) (PSt.put (q' := q2) st b16 (by simp) i6 s6) ?_
        clear st y1 y6 i6 s6 b6 b16 HF2
        intro w7 st
        go_wp2_with fail
        go_roundw
        case rel => exact ⟨k + 1, F6, D6, E6, f6, q6, n6, c6, m6, d6, by go_num, by omega, by rw [HQ2.out]; exact st⟩
        case measure => simp [intOf]; omega
    · have hki : ¬ (k : Int) < (N0 : Int) + 1 := by omega
      have hkN : k = N0 + 1 := by omega
      subst hkN
      have hc := HC.out
      have ok1 := HK.out (N0 + 1)
      generalize pl (H0 + 1) (N0 + 1) = q at *
      unfold lchk at hc
      simp only [Bool.and_eq_true, decide_eq_true_eq, List.all_eq_true, List.mem_range] at hc
      obtain ⟨⟨⟨⟨⟨c1, c2⟩, c3⟩, c4⟩, c5⟩, c6⟩ := hc
      have HW : Hid (∀ y, y < H0 + 1 → (rowAt q.s.L y).length = 4) := fun y hy => row_w ok1.k hy
      obtain rfl : H0 + 1 = n := by rw [← st.scr.nr, c1]
      obtain ⟨gN, egN⟩ : ∃ gN : Nat, gN = N0 + 1 - (H0 + 1) := ⟨_, rfl⟩
      rw [← egN] at c2 c5 c6
      obtain rfl : q.s.B.length = m := st.scr.nb
      obtain ⟨bN, ebN⟩ : ∃ bN : Nat, bN = q.s.B.length := ⟨_, rfl⟩
      rw [← ebN] at c2 c6 st
      have HM : Hid (q.s.B.length = bN) := ebN.symm
      obtain ⟨mn, emn⟩ : ∃ mn : Nat, mn = min (N0 + 1) (H0 + 1) := ⟨_, rfl⟩
      rw [← emn] at c3
      have g3 : IntKind.i64.wrap ((N0 : Int) + 1 - ((H0 : Int) + 1)) = (N0 : Int) + 1 - ((H0 : Int) + 1) := IntWalk.i64_in _ (by omega)
      have g4 : (if (N0 : Int) + 1 - ((H0 : Int) + 1) < 0 then (0 : Int) else (N0 : Int) + 1 - ((H0 : Int) + 1)) = (gN : Int) := by rw [egN]; split <;> omega
      have g5 : (if (50 : Int) < (gN : Int) then (50 : Int) else (gN : Int)) = (bN : Int) := by rw [c2]; split <;> omega
      have g1 : (if H0 < N0 then (H0 : Int) + 1 else (N0 : Int) + 1) = (mn : Int) := by rw [emn]; split <;> omega
      have g2 : IntKind.i64.wrap ((mn : Int) - 1) = (mn : Int) - 1 := IntWalk.i64_in _ (by omega)
      have hgN : gN ≤ 63 := by omega
      have hbN : bN ≤ gN := by omega
      have C5 := Lib.hid c5
      have C6 := Lib.hid c6
      obtain ⟨_, _, u10, u11, _, u21, u22⟩ := st.box.at
      rw [c3] at u11
      rw [c4] at u10
      have HST := Lib.hid st
      clear st c1 c2 c3 c4 c5 c6 HC HK ok1 emn ebN egN hki hlt
      go_upto_region 12 with fail
      clear g1 g2 g3 g4 g5 u10 u11 u21 u22
      go_wp2_with fail
      go_loopw [8] (fun i wx => ∃ y : Nat, i = .int .i64 (y : Int) ∧ y ≤ H0 + 1 ∧ PSt w g q F D E f qq (H0 + 1) c bN d wx) (fun i _ => H0 + 1 - (intOf i).toNat)
      case atStart => exact ⟨0, rfl, Nat.zero_le _, HST.out⟩
      case round =>
        clear HST
        obtain ⟨y, rfl, hy, st⟩ := hrel
        by_cases hlt : y < H0 + 1
        · have hli : (y : Int) < (H0 : Int) + 1 := by omega
          obtain ⟨cl0, cl1⟩ := C5.out y hlt
          have hw := HW.out y hlt
          have e0 : IntKind.i64.wrap ((gN : Int) + (y : Int)) = (gN : Int) + (y : Int) := IntWalk.i64_in _ (by omega)
          have hge : 0 ≤ (gN : Int) + (y : Int) := by omega
          obtain ⟨i, ei⟩ : ∃ i : Nat, i = gN + y := ⟨_, rfl⟩
          have eii : (gN : Int) + (y : Int) = (i : Int) := by omega
          rw [← ei] at cl0 cl1
          have hi : i ≤ 70 := by omega
          clear ei hge
          by_cases hin : i < N0 + 1
          · have hini : (i : Int) < (N0 : Int) + 1 := by omega
            have s3 : IntKind.i64.wrap (65 + (((i % 26 : Nat)) : Int)) = 65 + ((i % 26 : Nat) : Int) := IntWalk.i64_in _ (by omega)
            have s4 : IntKind.i64.wrap (97 + (((i / 26 : Nat)) : Int)) = 97 + ((i / 26 : Nat) : Int) := IntWalk.i64_in _ (by omega)
            have s5 : IntKind.i32.wrap (65 + (((i % 26 : Nat)) : Int)) = 65 + ((i % 26 : Nat) : Int) := IntWalk.i32_in _ (by omega)
            have s6 : IntKind.i32.wrap (97 + (((i / 26 : Nat)) : Int)) = 97 + ((i / 26 : Nat) : Int) := IntWalk.i32_in _ (by omega)
            have s7 : (i : Int).tmod 26 = ((i % 26 : Nat) : Int) := by rw [Int.tmod_eq_emod_of_nonneg (by omega)]; exact (Int.natCast_emod i 26).symm
            have s8 : (i : Int).tdiv 26 = ((i / 26 : Nat) : Int) := by rw [Int.tdiv_eq_ediv_of_nonneg (by omega)]; exact (Int.natCast_ediv i 26).symm
            have ew : wantL (N0 + 1) i = (65 + ((i % 26 : Nat) : Int), 97 + ((i / 26 : Nat) : Int)) := by unfold wantL; rw [if_pos hin]
            rw [ew] at cl0 cl1
            clear ew
            go_upto_region 19 with fail
            refine wp_world (fun wq => PSt w g q F D E f qq (H0 + 1) c bN d wq ∧ Held wq wr.heap.size 60 #[.int .i32 (65 + ((i % 26 : Nat) : Int)), .int .i32 (97 + ((i / 26 : Nat) : Int))]) ⟨st.next (by repeat (first | exact (Below.refl _ _).alloc (Nat.le_refl _) _ | refine Below.setCell ?_ (by exact Nat.le_refl _) _)), by first | exact Held.new _ _ _ | exact ((Held.new wr 60 _).set1 0 _).set1 1 _ | exact ((((Held.new wr 60 _).set1 0 _).set1 1 _).set1 0 _).set1 1 _⟩ ?_
            clear st
            rintro w9 ⟨st9, ha⟩
            obtain ⟨_, _, _, _, _, u21, u22⟩ := st9.box.at
            have z0 := ha.cell 0
            have z1 := ha.cell 1
            simp only [List.getElem?_toArray, List.getElem?_cons_zero, List.getElem?_cons_succ] at z0 z1
            obtain ⟨tb, tq, rb, ro, cr, eD, t1, hcr, y0⟩ := sign_at st9.scr.rows y 0 (sign_lt (x := 0) (by rw [hw]; omega)) (by rw [hw]; omega)
            obtain ⟨tb', tq', rb', ro', cr', eD', t1', hcr', y1⟩ := sign_at st9.scr.rows y 1 (sign_lt (x := 0) (by rw [hw]; omega)) (by rw [hw]; omega)
            rw [eD] at eD'
            cases eD'
            rw [hw] at t1 t1' hcr
            rw [t1] at t1'
            cases t1'
            rw [cl0, Nat.zero_mul, Nat.add_zero] at y0
            rw [cl1] at y1
            have HST := Lib.hid st9
            subst eD
            clear st9 cl0 cl1 hcr' ha
            go_quiet (fail)
            go_wp2_with fail
            go_roundw
            case rel => exact ⟨y + 1, by go_num, by omega, HST.out.drewN _⟩
            case measure => simp [intOf]; omega
          · have hini : ¬ (i : Int) < (N0 : Int) + 1 := by omega
            have ew : wantL (N0 + 1) i = (32, 32) := by unfold wantL; rw [if_neg hin]
            rw [ew] at cl0 cl1
            clear ew
            go_upto_region 19 with fail
            refine wp_world (fun wq => PSt w g q F D E f qq (H0 + 1) c bN d wq ∧ Held wq wr.heap.size 60 #[.int .i32 (32), .int .i32 (32)]) ⟨st.next (by repeat (first | exact (Below.refl _ _).alloc (Nat.le_refl _) _ | refine Below.setCell ?_ (by exact Nat.le_refl _) _)), by first | exact Held.new _ _ _ | exact ((Held.new wr 60 _).set1 0 _).set1 1 _ | exact ((((Held.new wr 60 _).set1 0 _).set1 1 _).set1 0 _).set1 1 _⟩ ?_
            clear st
            rintro w9 ⟨st9, ha⟩
            obtain ⟨_, _, _, _, _, u21, u22⟩ := st9.box.at
            have z0 := ha.cell 0
            have z1 := ha.cell 1
            simp only [List.getElem?_toArray, List.getElem?_cons_zero, List.getElem?_cons_succ] at z0 z1
            obtain ⟨tb, tq, rb, ro, cr, eD, t1, hcr, y0⟩ := sign_at st9.scr.rows y 0 (sign_lt (x := 0) (by rw [hw]; omega)) (by rw [hw]; omega)
            obtain ⟨tb', tq', rb', ro', cr', eD', t1', hcr', y1⟩ := sign_at st9.scr.rows y 1 (sign_lt (x := 0) (by rw [hw]; omega)) (by rw [hw]; omega)
            rw [eD] at eD'
            cases eD'
            rw [hw] at t1 t1' hcr
            rw [t1] at t1'
            cases t1'
            rw [cl0, Nat.zero_mul, Nat.add_zero] at y0
            rw [cl1] at y1
            have HST := Lib.hid st9
            subst eD
            clear st9 cl0 cl1 hcr' ha
            go_quiet (fail)
            go_wp2_with fail
            go_roundw
            case rel => exact ⟨y + 1, by go_num, by omega, HST.out.drewN _⟩
            case measure => simp [intOf]; omega
        · have hli : ¬ (y : Int) < (H0 : Int) + 1 := by omega
          obtain ⟨_, _, _, _, _, u21, u22⟩ := st.box.at
          have HST := Lib.hid st
          clear st C5 HW
          go_wp2_with fail
          clear u21 u22
          go_loopw [129] (fun i wx => ∃ j : Nat, i = .int .i64 (j : Int) ∧ j ≤ bN ∧ PSt w g q F D E f qq (H0 + 1) c bN d wx) (fun i _ => bN - (intOf i).toNat)
          case atStart => exact ⟨0, rfl, Nat.zero_le _, HST.out⟩
          case round =>
            clear HST
            obtain ⟨j, rfl, hj, st⟩ := hrel
            by_cases hlt : j < bN
            · have hji : (j : Int) < (bN : Int) := by omega
              obtain ⟨cb, cl⟩ := C6.out j hlt
              obtain ⟨_, _, _, _, _, u21, u22⟩ := st.box.at
              have hml : j < q.s.B.length := by rw [HM.out]; exact hlt
              obtain ⟨tb, tq, rb, ro, cr, eD, t1, hcr, y0⟩ := sign_at st.scr.back j 0 hml cl
              rw [cb, Nat.zero_mul, Nat.add_zero] at y0
              generalize hrl : (rowAt q.s.B j).length = rl at *
              obtain ⟨i, ei⟩ : ∃ i : Nat, i = gN - bN + j := ⟨_, rfl⟩
              rw [← ei] at y0
              have e1 : IntKind.i64.wrap ((gN : Int) - (bN : Int)) = (gN : Int) - (bN : Int) := IntWalk.i64_in _ (by omega)
              have e2 : (gN : Int) - (bN : Int) + (j : Int) = (i : Int) := by omega
              have e3 : IntKind.i64.wrap (i : Int) = (i : Int) := IntWalk.i64_in _ (by omega)
              have s3 : IntKind.i64.wrap (65 + (((i % 26 : Nat)) : Int)) = 65 + ((i % 26 : Nat) : Int) := IntWalk.i64_in _ (by omega)
              have s5 : IntKind.i32.wrap (65 + (((i % 26 : Nat)) : Int)) = 65 + ((i % 26 : Nat) : Int) := IntWalk.i32_in _ (by omega)
              have s7 : (i : Int).tmod 26 = ((i % 26 : Nat) : Int) := by rw [Int.tmod_eq_emod_of_nonneg (by omega)]; exact (Int.natCast_emod i 26).symm
              have HST := Lib.hid st
              subst eD
              clear st cb hrl ei hml hcr
              go_wp2_with fail
              go_roundw
              case rel => exact ⟨j + 1, by go_num, by omega, HST.out⟩
              case measure => simp [intOf]; omega
            · have hji : ¬ (j : Int) < (bN : Int) := by omega
              go_wp2_with (go_at_call 24; refine (pawake_any _).mono ?_; rintro e w8 ⟨rfl, b8⟩)
              go_ret
              exact ⟨rfl, st.below.trans (b8.mono st.below.size)⟩
end Go.Proofs.Ytpcpmeihebgncaa
