/-
  What the walk of ActsMoves needs: the cursor goes as far as it is told. No condition.
-/
import Derived.Test.YtmejehanfhampaaAwake
import Derived.Test.YtmejehanfhampaaSeqH
namespace Go.Proofs.Ytmejehanfhampaa
open Go.RowKit
set_option maxRecDepth 100000

theorem i64_and31 (n : Int) : bits .and .i64 n 31 = n % 32 := and_low n 31 5 (by decide) (by decide)
theorem mask31 (z : Int) : ∃ a : Nat, a ≤ 31 ∧ bits .and .i64 z 31 = a := ⟨(z % 32).toNat, by omega, by rw [i64_and31]; omega⟩
theorem mask7 (z : Int) : ∃ a : Nat, a ≤ 7 ∧ bits .and .i64 z 7 = a := ⟨(z % 8).toNat, by omega, by rw [i64_and7]; omega⟩
theorem mask63 (z : Int) : ∃ a : Nat, a ≤ 63 ∧ bits .and .i64 z 63 = a := ⟨(z % 64).toNat, by omega, by rw [i64_and63]; omega⟩
/-- The screen so far: blank, the cursor where it was told to go. -/
structure MvSt (w : World) (b0 : Nat) (W H : Nat) (X Y : Int) (p : Nm) (D : Option Addr) (c : Nat) (E : Option Addr) (d : Nat) (wr : World) : Prop where
  on : On p
  pw : p.w = W
  ph : p.h = H
  px : p.x = X
  py : p.y = Y
  box : Box wr b0 p (.slice D H c) (.slice E 0 d)
  scr : Scr 0 wr D E H c 0 d (blankL W H) []
  below : Below w.heap.size w wr
def MvRel (w : World) (b0 W H : Nat) (x y i : Value) (wr : World) : Prop := ∃ (X Y : Int) (k : Nat) (p : Nm) (D : Option Addr) (c : Nat) (E : Option Addr) (d : Nat), x = .int .i64 X ∧ y = .int .i64 Y ∧ i = .int .i64 (k : Int) ∧ k ≤ 40 ∧ MvSt w b0 W H X Y p D c E d wr

/-- Where the cursor is told to go. -/
def tgt (r X Y kk mm : Int) : Int × Int := if r = 65 then (X, Y - kk) else if r = 66 then (X, Y + kk) else if r = 67 then (X + kk, Y) else if r = 68 then (X - kk, Y) else if r = 71 then (kk - 1, Y) else if r = 100 then (X, kk - 1) else (mm - 1, kk - 1)
def Letter (r : Int) : Prop := r = 65 ∨ r = 66 ∨ r = 67 ∨ r = 68 ∨ r = 71 ∨ r = 100 ∨ r = 72 ∨ r = 102
/-- The number n, or 1 where that is less. -/
def atl (n : Nat) : Int := if (n : Int) < 1 then 1 else n
theorem told_0 (n m : Nat) (hn : n ≤ 63) : toldF [(n : Int), m] 0 1 = atl n := by
  simp only [toldF, List.getElem?_cons_zero, atl]
  split <;> split <;> omega
theorem told_1 (n m : Nat) (hm : m ≤ 63) : toldF [(n : Int), m] 1 1 = atl m := by
  simp only [toldF, List.getElem?_cons_succ, List.getElem?_cons_zero, atl]
  split <;> split <;> omega
theorem mv_apply (p : Nm) (D E : Option Addr) (nr c m0 d bp : Nat) (L Bk : List (List C)) (r : Int) (n m : Nat) (w : World) (hs : Scr 0 w D E nr c m0 d L Bk) (hnr : nr ≤ 1000) (hmr : m0 ≤ 50) (hl : ∀ r ∈ L, r.length ≤ 1000) (hlb : ∀ r ∈ Bk, r.length ≤ 1000) (on : On p) (hn : n ≤ 63) (hm : m ≤ 63) (hp : Held w bp 3 #[.int .i64 n, .int .i64 m]) (hr : Letter r) :
    Calls Try.prog 13 #[gv p (.slice D nr c) (.slice E m0 d), .agg #[.int .i64 4, .int .i32 r, .slice (some ⟨bp, 0, none⟩) 2 2]] w (GridPost w (movedNm p (tgt r p.x p.y (atl n) (atl m)).1 (tgt r p.x p.y (atl n) (atl m)).2) L Bk) := by
  refine app_csi p _ D E (some ⟨bp, 0, none⟩) nr c m0 d 2 2 L Bk L Bk r w hs hnr hmr hl hlb fun B wx g h hb ho => ?_
  have hri : ReadI wx (.slice (some ⟨bp, 0, none⟩) [(n : Int), m].length 2) [(n : Int), m] := by
    refine ⟨_, _, rfl, fun k hk => ?_⟩
    have hpx := hp.below hb hp.lt
    have : k = 0 ∨ k = 1 := by simp at hk; omega
    rcases this with rfl | rfl
    · exact ⟨bp, 0, n, rfl, hpx.lt, rfl, hpx.cell 0⟩
    · exact ⟨bp, 0, m, rfl, hpx.lt, rfl, hpx.cell 1⟩
  rcases hr with rfl | rfl | rfl | rfl | rfl | rfl | rfl | rfl
  · have := seq_A p (some ⟨g, 0, none⟩) (some ⟨h, 0, none⟩) (some ⟨bp, 0, none⟩) L.length L.length Bk.length Bk.length 2 [(n : Int), m] wx hri on
    rw [told_0 n m hn] at this
    exact this.mono fun _ _ t => ⟨g, h, t.1, ho.below t.2 (Nat.le_refl _), Chg.of t.2 ho.rows.lt⟩
  · have := seq_B p (some ⟨g, 0, none⟩) (some ⟨h, 0, none⟩) (some ⟨bp, 0, none⟩) L.length L.length Bk.length Bk.length 2 [(n : Int), m] wx hri on
    rw [told_0 n m hn] at this
    exact this.mono fun _ _ t => ⟨g, h, t.1, ho.below t.2 (Nat.le_refl _), Chg.of t.2 ho.rows.lt⟩
  · have := seq_C p (some ⟨g, 0, none⟩) (some ⟨h, 0, none⟩) (some ⟨bp, 0, none⟩) L.length L.length Bk.length Bk.length 2 [(n : Int), m] wx hri on
    rw [told_0 n m hn] at this
    exact this.mono fun _ _ t => ⟨g, h, t.1, ho.below t.2 (Nat.le_refl _), Chg.of t.2 ho.rows.lt⟩
  · have := seq_D p (some ⟨g, 0, none⟩) (some ⟨h, 0, none⟩) (some ⟨bp, 0, none⟩) L.length L.length Bk.length Bk.length 2 [(n : Int), m] wx hri on
    rw [told_0 n m hn] at this
    exact this.mono fun _ _ t => ⟨g, h, t.1, ho.below t.2 (Nat.le_refl _), Chg.of t.2 ho.rows.lt⟩
  · have := seq_G p (some ⟨g, 0, none⟩) (some ⟨h, 0, none⟩) (some ⟨bp, 0, none⟩) L.length L.length Bk.length Bk.length 2 [(n : Int), m] wx hri on
    rw [told_0 n m hn] at this
    exact this.mono fun _ _ t => ⟨g, h, t.1, ho.below t.2 (Nat.le_refl _), Chg.of t.2 ho.rows.lt⟩
  · have := seq_d p (some ⟨g, 0, none⟩) (some ⟨h, 0, none⟩) (some ⟨bp, 0, none⟩) L.length L.length Bk.length Bk.length 2 [(n : Int), m] wx hri on
    rw [told_0 n m hn] at this
    exact this.mono fun _ _ t => ⟨g, h, t.1, ho.below t.2 (Nat.le_refl _), Chg.of t.2 ho.rows.lt⟩
  · have := seq_H p (some ⟨g, 0, none⟩) (some ⟨h, 0, none⟩) (some ⟨bp, 0, none⟩) L.length L.length Bk.length Bk.length 2 [(n : Int), m] wx hri on
    rw [told_0 n m hn, told_1 n m hm] at this
    exact this.mono fun _ _ t => ⟨g, h, t.1, ho.below t.2 (Nat.le_refl _), Chg.of t.2 ho.rows.lt⟩
  · have := seq_f p (some ⟨g, 0, none⟩) (some ⟨h, 0, none⟩) (some ⟨bp, 0, none⟩) L.length L.length Bk.length Bk.length 2 [(n : Int), m] wx hri on
    rw [told_0 n m hn, told_1 n m hm] at this
    exact this.mono fun _ _ t => ⟨g, h, t.1, ho.below t.2 (Nat.le_refl _), Chg.of t.2 ho.rows.lt⟩

/-- The action that is asked lies in memory. -/
def MvAct (wr : World) (n m : Nat) (v : Value) (wx : World) : Prop := ∃ (ba bp : Nat) (r : Int), v = .pointer (some ⟨ba, 0, none⟩) ∧ Held wx ba 35 #[.int .i64 4, .int .i32 r, .slice (some ⟨bp, 0, none⟩) 2 2] ∧ Held wx bp 3 #[.int .i64 n, .int .i64 m] ∧ Letter r ∧ Below wr.heap.size wr wx
theorem mv_actA (wr : World) (n m : Nat) (r : Int) (hr : Letter r) : MvAct wr n m (.pointer (some ⟨wr.heap.size + 1, 0, none⟩)) ((wr.alloc (.cells #[.int .i64 n, .int .i64 m] 3)).alloc (.cells #[.int .i64 4, .int .i32 r, .slice (some ⟨wr.heap.size, 0, none⟩) 2 2] 35)).drew :=
  ⟨wr.heap.size + 1, wr.heap.size, r, rfl, by have := Held.new (wr.alloc (.cells #[.int .i64 n, .int .i64 m] 3)) 35 #[.int .i64 4, .int .i32 r, .slice (some ⟨wr.heap.size, 0, none⟩) 2 2]; rw [World.size_alloc] at this; exact this, (Held.new wr 3 _).alloc _, hr, below_drewN (((Below.refl _ _).alloc (Nat.le_refl _) _).alloc (by simp) _) 1⟩
theorem mv_actB (wr : World) (n m : Nat) (r : Int) (hr : Letter r) : MvAct wr n m (.pointer (some ⟨wr.heap.size, 0, none⟩)) ((wr.alloc (.cells #[.int .i64 4, .int .i32 r, .slice (some ⟨wr.heap.size + 1, 0, none⟩) 2 2] 35)).alloc (.cells #[.int .i64 n, .int .i64 m] 3)).drew :=
  ⟨wr.heap.size, wr.heap.size + 1, r, rfl, (Held.new wr 35 _).alloc _, by have := Held.new (wr.alloc (.cells #[.int .i64 4, .int .i32 r, .slice (some ⟨wr.heap.size + 1, 0, none⟩) 2 2] 35)) 3 #[.int .i64 n, .int .i64 m]; rw [World.size_alloc] at this; exact this, hr, below_drewN (((Below.refl _ _).alloc (Nat.le_refl _) _).alloc (by simp) _) 1⟩
theorem MvSt.go {w : World} {b0 W H : Nat} {X Y : Int} {p : Nm} {D : Option Addr} {c : Nat} {E : Option Addr} {d : Nat} {wr wx : World} (h : MvSt w b0 W H X Y p D c E d wr) (hb : Below wr.heap.size wr wx) : MvSt w b0 W H X Y p D c E d wx :=
  ⟨h.on, h.pw, h.ph, h.px, h.py, h.box.below hb h.box.lt, h.scr.below hb (Nat.le_refl _), h.below.trans (hb.mono h.below.size)⟩
theorem field_r (p : Nm) (D E : Option Addr) (n c m d : Nat) (w : World) : (Instr.field 31 (.agg #[.int .i64 p.w, .int .i64 p.h, .int .i64 p.x, .int .i64 p.y, .bool p.wrap, .int .i64 p.a, .int .i64 p.top, .int .i64 p.bottom, .int .i64 p.sx, .int .i64 p.sy, .int .i64 p.sa, .bool p.noWrap, .bool p.hidden, .slice D n c, .slice E m d]) 13).run Try.prog w = .ok (.slice D n c) w := by kernel_rfl
def XY (x y : Int) (wc : World) (a b : Value) (wx : World) : Prop := a = .int .i64 x ∧ b = .int .i64 y ∧ wx = wc
theorem blankL_le (W H : Nat) (hW : W ≤ 1000) : ∀ r ∈ blankL (W : Int) H, r.length ≤ 1000 := by
  intro r hr
  rw [List.eq_of_mem_replicate hr, blankF_len]
  unfold withinF
  omega
set_option maxHeartbeats 8000000 in
theorem moves_walk (x0 y0 : Int) (PD : Option Addr) (pc : Nat) (xs : List Int) (w : World) (hr : ReadI w (.slice PD xs.length pc) xs) : Calls Try.prog 4 #[.int .i64 x0, .int .i64 y0, .slice PD xs.length pc] w (TrueBelow w) := by
  obtain ⟨W0, hW, eW⟩ := mask31 x0
  obtain ⟨H0, hH, eH⟩ := mask31 y0
  have eWh : heldF ((W0 : Int) + 1) 1 1000 = ((W0 + 1 : Nat) : Int) := by unfold heldF; omega
  have eHh : heldF ((H0 : Int) + 1) 1 1000 = ((H0 + 1 : Nat) : Int) := by unfold heldF; omega
  have HN : Hid (∀ w, Calls Try.prog 12 #[.int .i64 ((W0 : Int) + 1), .int .i64 ((H0 : Int) + 1)] w (GridPost w (newNm ((W0 + 1 : Nat) : Int) ((H0 + 1 : Nat) : Int)) (blankL ((W0 + 1 : Nat) : Int) (H0 + 1)) [])) := fun w => by
    have := rnew_any ((W0 : Int) + 1) ((H0 : Int) + 1) w
    rwa [eWh, eHh, Int.toNat_natCast] at this
  have s1 : IntKind.i64.wrap ((W0 : Int) + 1) = (W0 : Int) + 1 := IntWalk.i64_in _ (by omega)
  have s2 : IntKind.i64.wrap ((H0 : Int) + 1) = (H0 : Int) + 1 := IntWalk.i64_in _ (by omega)
  clear eWh eHh
  go_enter Try.func4, Try.ntmps4
  go_upto_region 3 with (first
   | (with_reducible refine wpList_storeB (x := .tmp 7) (y := .tmp 22) (p := newNm ((W0 + 1 : Nat) : Int) ((H0 + 1 : Nat) : Int)) (D := D0) (E := E0) (n := H0 + 1) (c := c0) (m := 0) (d := d0) ?_ ?_ ?_ ?_ ?_ ?_
      · with_reducible rfl
      · rfl
      · rfl
      · rfl
      · rfl)
   | (go_at_call 12
      refine (HN.out _).mono ?_
      rintro e w1 ⟨D0, E0, n0, c0, m0, d0, rfl, s0, b0⟩
      obtain rfl : H0 + 1 = n0 := by rw [← s0.nr, blankL_len]
      obtain rfl : 0 = m0 := s0.nb))
  have h1z := b0.size
  refine wp_world (fun wq => MvSt w w1.heap.size (W0 + 1) (H0 + 1) 0 0 (newNm ((W0 + 1 : Nat) : Int) ((H0 + 1 : Nat) : Int)) D0 c0 E0 d0 wq)
    ⟨⟨by simp only [newNm]; omega, by simp only [newNm]; omega, by simp only [newNm]; omega, by simp only [newNm]; omega, Int.le_refl _, by simp only [newNm]; omega, Int.le_refl _, by simp only [newNm]; omega⟩, rfl, rfl, rfl, rfl, Box.new _ _ _ _, (s0.weak (Nat.zero_le _)).below ((Below.refl _ _).alloc (Nat.le_refl _) _) (Nat.le_refl _), b0.alloc b0.size _⟩ ?_
  clear s0 b0 s1 s2 eW eH
  intro wq st0
  go_wp2_with fail
  go_loopw [8, 9, 10] (MvRel w w1.heap.size (W0 + 1) (H0 + 1)) (fun _ _ i _ => 40 - (intOf i).toNat)
  case atStart => exact ⟨0, 0, 0, _, _, _, _, _, rfl, rfl, rfl, by omega, st0⟩
  case round =>
    clear st0
    obtain ⟨X, Y, k, p, D, c, E, d, rfl, rfl, rfl, hk, st⟩ := hrel
    by_cases hl : k < xs.length
    · have hli : (k : Int) < (xs.length : Int) := by omega
      by_cases hl4 : k < 40
      · have hl4i : (k : Int) < 40 := by omega
        have hr2 := hr.below st.below (Nat.le_refl _)
        obtain ⟨PD', pc', ee, hx⟩ := hr2
        cases ee
        obtain ⟨xb, xo, z, rfl, hxb, hz, hxc⟩ := hx k hl
        obtain ⟨n, hn, en⟩ := mask63 (z / 8)
        obtain ⟨m, hm, em⟩ := mask63 (z / 512)
        obtain ⟨j, hj, ej⟩ := mask7 z
        have hkk : (if (n : Int) < 1 then (1 : Int) else n) = atl n := rfl
        have hmm : (if (m : Int) < 1 then (1 : Int) else m) = atl m := rfl
        have k1 : 1 ≤ atl n ∧ atl n ≤ 63 := by unfold atl; split <;> omega
        have m1 : 1 ≤ atl m ∧ atl m ≤ 63 := by unfold atl; split <;> omega
        obtain ⟨kk, ek⟩ : ∃ kk, kk = atl n := ⟨_, rfl⟩
        obtain ⟨mm, eq⟩ : ∃ mm, mm = atl m := ⟨_, rfl⟩
        rw [← ek] at hkk k1
        rw [← eq] at hmm m1
        have HK := Lib.hid ek
        have HM := Lib.hid eq
        have bX : 0 ≤ X ∧ X ≤ 1000 := by have := st.on.x0; have := st.on.x1; have := st.on.w1; have := st.px; omega
        have bY : 0 ≤ Y ∧ Y ≤ 1000 := by have := st.on.y0; have := st.on.y1; have := st.on.h1; have := st.py; omega
        have s1 : IntKind.i64.wrap (Y - kk) = Y - kk := IntWalk.i64_in _ (by omega)
        have s2 : IntKind.i64.wrap (Y + kk) = Y + kk := IntWalk.i64_in _ (by omega)
        have s3 : IntKind.i64.wrap (X + kk) = X + kk := IntWalk.i64_in _ (by omega)
        have s4 : IntKind.i64.wrap (X - kk) = X - kk := IntWalk.i64_in _ (by omega)
        have s5 : IntKind.i64.wrap (kk - 1) = kk - 1 := IntWalk.i64_in _ (by omega)
        have s6 : IntKind.i64.wrap (mm - 1) = mm - 1 := IntWalk.i64_in _ (by omega)
        clear ek eq
        go_upto_region 9 with fail
        have hxd : wr.drew.cell? ⟨xb, xo + k, none⟩ = some (.int .i64 z) := hxc
        have hnew := World.new_ne wr.drew _ hxd
        have hj8 : (j : Int) < 8 := by omega
        have HST := Lib.hid st
        have HX := Lib.hid hx
        clear st hx
        go_cut [13] (MvAct wr n m)
        case first =>
          go_region_held3 (fun w' => w'.cell? ⟨xb, xo + k, none⟩ = some (.int .i64 z)) (first | with_reducible exact hxd | go_keep) (fail)
          all_goals go_wp2_with fail
          all_goals go_meet
          all_goals first
            | refine mv_actA wr n m _ ?_
            | refine mv_actB wr n m _ ?_
          all_goals
            have hj7 : j = 0 ∨ j = 1 ∨ j = 2 ∨ j = 3 ∨ j = 4 ∨ j = 5 ∨ j = 6 ∨ j = 7 := by omega
            rcases hj7 with rfl | rfl | rfl | rfl | rfl | rfl | rfl | rfl
            · exact .inl rfl
            · exact .inr (.inl rfl)
            · exact .inr (.inr (.inl rfl))
            · exact .inr (.inr (.inr (.inl rfl)))
            · exact .inr (.inr (.inr (.inr (.inl rfl))))
            · exact .inr (.inr (.inr (.inr (.inr (.inl rfl)))))
            · exact .inr (.inr (.inr (.inr (.inr (.inr (.inl rfl))))))
            · exact .inr (.inr (.inr (.inr (.inr (.inr (.inr (rfl)))))))
        case rest =>
          obtain ⟨ba, bp, r, rfl, ha, hp, hlet, hb⟩ := hcut
          have st := HST.out.go hb
          have hxc2 := (hb.cell (p := ⟨xb, xo + k, none⟩) hxb).trans hxc
          clear HST hb hxd hnew hxc ej hj hj8
          have a1 := ha.cell 1
          simp only [List.getElem?_toArray, List.getElem?_cons_zero, List.getElem?_cons_succ] at a1
          go_upto_region 10 with fail
          go_cut [58] (fun v wx => v = .int .i32 r ∧ wx = wc)
          case first =>
            go_wp2_with fail
            go_meet
            exact ⟨rfl, rfl⟩
          case rest =>
            obtain ⟨rfl, hww⟩ := hcut
            subst hww
            apply_assumption
            go_cut [8, 9] (XY (tgt r X Y kk mm).1 (tgt r X Y kk mm).2 wc)
            case first =>
              have HP := Lib.hid hlet
              clear hlet
              rcases HP.out with rfl | rfl | rfl | rfl | rfl | rfl | rfl | rfl
              all_goals
                go_wp2_with fail
                go_meet
                exact ⟨rfl, rfl, rfl⟩
            case rest =>
              obtain ⟨rfl, rfl, hww⟩ := hcut
              subst hww
              have HC : Hid (∀ wy, Below wc.heap.size wc wy → Calls Try.prog 13 #[gv p (.slice D (H0 + 1) c) (.slice E 0 d), .agg #[.int .i64 4, .int .i32 r, .slice (some ⟨bp, 0, none⟩) 2 2]] wy (GridPost wy (movedNm p (tgt r X Y kk mm).1 (tgt r X Y kk mm).2) (blankL ((W0 + 1 : Nat) : Int) (H0 + 1)) [])) := fun wy hy => by
                rw [HK.out, HM.out, ← st.px, ← st.py]
                exact mv_apply p D E (H0 + 1) c 0 d bp _ _ r n m wy (st.scr.below hy (Nat.le_refl _)) (by omega) (by omega) (blankL_le _ _ (by omega)) none_le st.on hn hm (hp.below hy hp.lt) hlet
              have bt : -100 ≤ (tgt r X Y kk mm).1 ∧ (tgt r X Y kk mm).1 ≤ 2000 ∧ -100 ≤ (tgt r X Y kk mm).2 ∧ (tgt r X Y kk mm).2 ≤ 2000 := by
                unfold tgt
                (repeat' split) <;> (dsimp only; omega)
              generalize (tgt r X Y kk mm).1 = X1 at *
              generalize (tgt r X Y kk mm).2 = Y1 at *
              clear s1 s2 s3 s4 s5 s6 hmm hkk en em hxc2 hlet
              have s7 : IntKind.i64.wrap ((W0 : Int) + 1 - 1) = W0 := by rw [IntWalk.i64_in _ (by omega)]; omega
              have s8 : IntKind.i64.wrap ((H0 : Int) + 1 - 1) = H0 := by rw [IntWalk.i64_in _ (by omega)]; omega
              go_upto_region 24 with fail
              go_cut [8, 9] (XY (withinF X1 W0) (withinF Y1 H0) wc)
              case first =>
                go_wp2_with fail
                all_goals go_meet
                all_goals
                  refine ⟨?_, ?_, rfl⟩
                  · congr 1
                    unfold withinF
                    (repeat' split) <;> omega
                  · congr 1
                    unfold withinF
                    (repeat' split) <;> omega
              case rest =>
                obtain ⟨rfl, rfl, hww⟩ := hcut
                subst hww
                have a0 := ha.cell 0
                have a2 := ha.cell 2
                simp only [List.getElem?_toArray, List.getElem?_cons_zero, List.getElem?_cons_succ] at a0 a2
                obtain ⟨p2, hp2⟩ : ∃ p2, p2 = movedNm p X1 Y1 := ⟨_, rfl⟩
                rw [← hp2] at HC
                have q2 : p2.w = ((W0 + 1 : Nat) : Int) ∧ p2.h = ((H0 + 1 : Nat) : Int) ∧ p2.x = withinF X1 W0 ∧ p2.y = withinF Y1 H0 := by
                  rw [hp2]
                  simp only [movedNm]
                  refine ⟨st.pw, st.ph, ?_, ?_⟩
                  · rw [st.pw]; congr 1; omega
                  · rw [st.ph]; congr 1; omega
                have x1 := st.box
                have hz1 : w1.heap.size < wc.heap.size := x1.lt
                have b1 := st.below
                have bX2 := within_nat X1 W0
                have bY2 := within_nat Y1 H0
                generalize withinF X1 W0 = X2 at *
                generalize withinF Y1 H0 = Y2 at *
                clear hp2 s7 s8 bX bY k1 m1 HK HM st
                go_upto_region 26 with (first
                 | (with_reducible refine wpList_loadB x1 (x := .tmp 7) ?_ ?_ ?_ ?_
                    · with_reducible rfl
                    · rfl
                    · rfl)
                 | (go_at_call 13
                    refine (HC.out wc (Below.refl _ _)).mono ?_
                    clear HC
                    rintro e w3 ⟨D5, E5, n5, c5, m5, d5, rfl, s3, b3⟩
                    obtain rfl : H0 + 1 = n5 := by rw [← s3.nr, blankL_len]
                    obtain rfl : 0 = m5 := s3.nb
                    have x3 := x1.below b3 hz1)
                 | (with_reducible refine wpList_storeA x3 (x := .tmp 7) (y := .tmp 109) (p := p2) (D := D5) (E := E5) (n := H0 + 1) (c := c5) (m := 0) (d := d5) ?_ ?_ ?_ ?_ ?_
                    · with_reducible rfl
                    · rfl
                    · rfl
                    · rfl))
                refine wp_world (fun wq => MvSt w w1.heap.size (W0 + 1) (H0 + 1) X2 Y2 p2 D5 c5 E5 d5 wq)
                  ⟨⟨by omega, by omega, by omega, by omega, by omega, by omega, by omega, by omega⟩, q2.1, q2.2.1, q2.2.2.1, q2.2.2.2, x3.setRow _ _ _, s3.bput hz1 _, below_setRow (b1.trans (b3.mono b1.size)) h1z _⟩ ?_
                clear x1 x3 s3 b3 b1 hz1 a0 a1 a2 ha hp hxb hz
                intro w4 st
                have st4 : MvSt w w1.heap.size (W0 + 1) (H0 + 1) X2 Y2 p2 D5 c5 E5 d5 w4.drew := st.go (below_drewN (Below.refl _ _) 1)
                clear st
                have f2 := st4.box.cells.c2
                have f3 := st4.box.cells.c3
                have f13 := st4.box.cells.c13
                rw [st4.px] at f2
                rw [st4.py] at f3
                refine wp_region_held_drew (S := fun w' => w'.cell? ⟨w1.heap.size, 2, none⟩ = some (.int .i64 X2) ∧ w'.cell? ⟨w1.heap.size, 3, none⟩ = some (.int .i64 Y2) ∧ w'.cell? ⟨w1.heap.size, 13, none⟩ = some (.slice D5 (H0 + 1) c5)) (by kernel_rfl) (by exact ⟨f2, f3, f13⟩) (fun hH0 => ?_)
                refine wpAnyH_take (i := 0) (oi := _) (v := .pointer (some ⟨w1.heap.size, 2, none⟩)) rfl (by kernel_rfl) (by kernel_rfl) (by kernel_rfl) (fun _ _ _ h => h) (Or.inl ⟨by rfl, ?_⟩) hH0 ?_
                · intro wv hSw
                  try dsimp only at hSw
                  go_simp
                change wpAnyH _ _ _ _ _ _ _ (Act.put _ (some 110) (.pointer (some ⟨w1.heap.size, 2, none⟩))) _
                simp only [Act.put, List.setIfInBounds_toArray, List.set_cons_zero, List.set_cons_succ]
                refine wpAnyH_take (i := 1) (oi := _) (v := .int .i64 X2) rfl (by kernel_rfl) (by kernel_rfl) (by kernel_rfl) (fun _ _ _ h => h) (Or.inl ⟨by rfl, ?_⟩) hH0 ?_
                · intro wv hSw
                  try dsimp only at hSw
                  go_simp
                change wpAnyH _ _ _ _ _ _ _ (Act.put _ (some 111) (.int .i64 X2)) _
                simp only [Act.put, List.setIfInBounds_toArray, List.set_cons_zero, List.set_cons_succ]
                refine wpAnyH_take (i := 2) (oi := _) (v := .int .i64 X2) rfl (by kernel_rfl) (by kernel_rfl) (by kernel_rfl) (fun _ _ _ h => h) (Or.inl ⟨by rfl, ?_⟩) hH0 ?_
                · intro wv hSw
                  try dsimp only at hSw
                  go_simp
                change wpAnyH _ _ _ _ _ _ _ (Act.put _ (some 112) (.int .i64 X2)) _
                simp only [Act.put, List.setIfInBounds_toArray, List.set_cons_zero, List.set_cons_succ]
                refine wpAnyH_take (i := 3) (oi := _) (v := .bool false) rfl (by kernel_rfl) (by kernel_rfl) (by kernel_rfl) (fun _ _ _ h => h) (Or.inl ⟨by rfl, ?_⟩) hH0 ?_
                · intro wv hSw
                  try dsimp only at hSw
                  go_simp
                change wpAnyH _ _ _ _ _ _ _ (Act.put _ (some 113) (.bool false)) _
                simp only [Act.put, List.setIfInBounds_toArray, List.set_cons_zero, List.set_cons_succ]
                refine wpAnyH_take (i := 4) (oi := _) (v := .bool false) rfl (by kernel_rfl) (by kernel_rfl) (by kernel_rfl) (fun _ _ _ h => h) (Or.inl ⟨by rfl, ?_⟩) hH0 ?_
                · intro wv hSw
                  try dsimp only at hSw
                  go_simp
                change wpAnyH _ _ _ _ _ _ _ (Act.put _ (some 114) (.bool false)) _
                simp only [Act.put, List.setIfInBounds_toArray, List.set_cons_zero, List.set_cons_succ]
                refine wpAnyH_take (i := 5) (oi := _) (v := .pointer (some ⟨w1.heap.size, 3, none⟩)) rfl (by kernel_rfl) (by kernel_rfl) (by kernel_rfl) (fun _ _ _ h => h) (Or.inl ⟨by rfl, ?_⟩) hH0 ?_
                · intro wv hSw
                  try dsimp only at hSw
                  go_simp
                change wpAnyH _ _ _ _ _ _ _ (Act.put _ (some 115) (.pointer (some ⟨w1.heap.size, 3, none⟩))) _
                simp only [Act.put, List.setIfInBounds_toArray, List.set_cons_zero, List.set_cons_succ]
                refine wpAnyH_take (i := 6) (oi := _) (v := .int .i64 Y2) rfl (by kernel_rfl) (by kernel_rfl) (by kernel_rfl) (fun _ _ _ h => h) (Or.inl ⟨by rfl, ?_⟩) hH0 ?_
                · intro wv hSw
                  try dsimp only at hSw
                  go_simp
                change wpAnyH _ _ _ _ _ _ _ (Act.put _ (some 116) (.int .i64 Y2)) _
                simp only [Act.put, List.setIfInBounds_toArray, List.set_cons_zero, List.set_cons_succ]
                refine wpAnyH_take (i := 7) (oi := _) (v := .int .i64 Y2) rfl (by kernel_rfl) (by kernel_rfl) (by kernel_rfl) (fun _ _ _ h => h) (Or.inl ⟨by rfl, ?_⟩) hH0 ?_
                · intro wv hSw
                  try dsimp only at hSw
                  go_simp
                change wpAnyH _ _ _ _ _ _ _ (Act.put _ (some 117) (.int .i64 Y2)) _
                simp only [Act.put, List.setIfInBounds_toArray, List.set_cons_zero, List.set_cons_succ]
                refine wpAnyH_take (i := 8) (oi := _) (v := .bool false) rfl (by kernel_rfl) (by kernel_rfl) (by kernel_rfl) (fun _ _ _ h => h) (Or.inl ⟨by rfl, ?_⟩) hH0 ?_
                · intro wv hSw
                  try dsimp only at hSw
                  go_simp
                change wpAnyH _ _ _ _ _ _ _ (Act.put _ (some 118) (.bool false)) _
                simp only [Act.put, List.setIfInBounds_toArray, List.set_cons_zero, List.set_cons_succ]
                refine wpAnyH_take (i := 9) (oi := _) (v := .bool false) rfl (by kernel_rfl) (by kernel_rfl) (by kernel_rfl) (fun _ _ _ h => h) (Or.inl ⟨by rfl, ?_⟩) hH0 ?_
                · intro wv hSw
                  try dsimp only at hSw
                  go_simp
                change wpAnyH _ _ _ _ _ _ _ (Act.put _ (some 119) (.bool false)) _
                simp only [Act.put, List.setIfInBounds_toArray, List.set_cons_zero, List.set_cons_succ]
                refine wpAnyH_take (i := 10) (oi := _) (v := .bool false) rfl (by kernel_rfl) (by kernel_rfl) (by kernel_rfl) (fun _ _ _ h => h) (Or.inl ⟨by rfl, ?_⟩) hH0 ?_
                · intro wv hSw
                  try dsimp only at hSw
                  go_simp
                change wpAnyH _ _ _ _ _ _ _ (Act.put _ (some 120) (.bool false)) _
                simp only [Act.put, List.setIfInBounds_toArray, List.set_cons_zero, List.set_cons_succ]
                refine wpAnyH_take (i := 11) (oi := _) (v := .pointer (some ⟨w1.heap.size, 13, none⟩)) rfl (by kernel_rfl) (by kernel_rfl) (by kernel_rfl) (fun _ _ _ h => h) (Or.inl ⟨by rfl, ?_⟩) hH0 ?_
                · intro wv hSw
                  try dsimp only at hSw
                  go_simp
                change wpAnyH _ _ _ _ _ _ _ (Act.put _ (some 121) (.pointer (some ⟨w1.heap.size, 13, none⟩))) _
                simp only [Act.put, List.setIfInBounds_toArray, List.set_cons_zero, List.set_cons_succ]
                refine wpAnyH_take (i := 12) (oi := _) (v := .slice D5 (H0 + 1) c5) rfl (by kernel_rfl) (by kernel_rfl) (by kernel_rfl) (fun _ _ _ h => h) (Or.inl ⟨by rfl, ?_⟩) hH0 ?_
                · intro wv hSw
                  try dsimp only at hSw
                  go_simp
                change wpAnyH _ _ _ _ _ _ _ (Act.put _ (some 122) (.slice D5 (H0 + 1) c5)) _
                simp only [Act.put, List.setIfInBounds_toArray, List.set_cons_zero, List.set_cons_succ]
                refine wpAnyH_take (i := 13) (oi := _) (v := .int .i64 ((W0 : Int) + 1)) rfl (by kernel_rfl) (by kernel_rfl) (by kernel_rfl) (fun _ _ _ h => h) (Or.inl ⟨by rfl, ?_⟩) hH0 ?_
                · intro wv hSw
                  try dsimp only at hSw
                  go_simp
                change wpAnyH _ _ _ _ _ _ _ (Act.put _ (some 123) (.int .i64 ((W0 : Int) + 1))) _
                simp only [Act.put, List.setIfInBounds_toArray, List.set_cons_zero, List.set_cons_succ]
                refine wpAnyH_take (i := 14) (oi := _) (v := .int .i64 ((H0 : Int) + 1)) rfl (by kernel_rfl) (by kernel_rfl) (by kernel_rfl) (fun _ _ _ h => h) (Or.inl ⟨by rfl, ?_⟩) hH0 ?_
                · intro wv hSw
                  try dsimp only at hSw
                  go_simp
                change wpAnyH _ _ _ _ _ _ _ (Act.put _ (some 124) (.int .i64 ((H0 : Int) + 1))) _
                simp only [Act.put, List.setIfInBounds_toArray, List.set_cons_zero, List.set_cons_succ]
                refine wpAnyH_ready (rs := [15]) (by kernel_rfl) (by simp) ?_
                refine AllReadyH.cons (o := _) rfl (fun K hK => ?_) AllReadyH.nil
                go_simp
                refine (HN.out _).mono ?_
                rintro e w5 ⟨D6, E6, n6, c6, m6, d6, rfl, s6, b6⟩
                obtain rfl : H0 + 1 = n6 := by rw [← s6.nr, blankL_len]
                obtain rfl : 0 = m6 := s6.nb
                have st5 := st4.go b6
                have g2 := st5.box.cells.c2
                have g3 := st5.box.cells.c3
                have g13 := st5.box.cells.c13
                rw [st5.px] at g2
                rw [st5.py] at g3
                go_wp2_with fail
                refine hK.out _ _ (by exact ⟨g2, g3, g13⟩) (fun hH1 => ?_)
                clear hK K
                try simp only [Act.put, List.setIfInBounds_toArray, List.set_cons_zero, List.set_cons_succ]
                refine wpAnyH_take (i := 16) (oi := _) (v := .slice D6 (H0 + 1) c6) rfl (by kernel_rfl) (by kernel_rfl) (by kernel_rfl) (fun _ _ _ h => h) (Or.inl ⟨by rfl, ?_⟩) hH1 ?_
                · intro wv hSw
                  simp only [gv, gcs]
                  have hf := fun pz : Nm => field_r pz D6 E6 (H0 + 1) c6 0 d6 wv
                  go_simp
                change wpAnyH _ _ _ _ _ _ _ (Act.put _ (some 126) (.slice D6 (H0 + 1) c6)) _
                simp only [Act.put, List.setIfInBounds_toArray, List.set_cons_zero, List.set_cons_succ]
                refine wpAnyH_ready (rs := [17]) (by kernel_rfl) (by simp) ?_
                refine AllReadyH.cons (o := _) rfl (fun K hK => ?_) AllReadyH.nil
                go_simp
                have HQ := sameRows_any D5 D6 c5 c6 _ w5 st5.scr.rows (s6.rows.weak (Nat.zero_le _)) (by rw [blankL_len]; omega) (blankL_le _ _ (by omega))
                rw [blankL_len] at HQ
                refine HQ.mono ?_
                rintro e w6 hq6
                obtain ⟨rfl, b7⟩ := hq6.below
                have st6 := st5.go b7
                have k2 := st6.box.cells.c2
                have k3 := st6.box.cells.c3
                have k13 := st6.box.cells.c13
                rw [st6.px] at k2
                rw [st6.py] at k3
                go_wp2_with fail
                refine hK.out _ _ (by exact ⟨k2, k3, k13⟩) (fun hH2 => ?_)
                clear hK K
                try simp only [Act.put, List.setIfInBounds_toArray, List.set_cons_zero, List.set_cons_succ]
                refine wpAnyH_take (i := 18) (oi := _) (v := .bool false) rfl (by kernel_rfl) (by kernel_rfl) (by kernel_rfl) (fun _ _ _ h => h) (Or.inl ⟨by rfl, ?_⟩) hH2 ?_
                · intro wv hSw
                  try dsimp only at hSw
                  go_simp
                change wpAnyH _ _ _ _ _ _ _ (Act.put _ (some 128) (.bool false)) _
                simp only [Act.put, List.setIfInBounds_toArray, List.set_cons_zero, List.set_cons_succ]
                refine wpAnyH_take (i := 19) (oi := _) (v := .bool false) rfl (by kernel_rfl) (by kernel_rfl) (by kernel_rfl) (fun _ _ _ h => h) (Or.inl ⟨by rfl, ?_⟩) hH2 ?_
                · intro wv hSw
                  try dsimp only at hSw
                  go_simp
                change wpAnyH _ _ _ _ _ _ _ (Act.put _ (some 129) (.bool false)) _
                simp only [Act.put, List.setIfInBounds_toArray, List.set_cons_zero, List.set_cons_succ]
                refine wpAnyH_done (by kernel_rfl) ?_ _
                clear hH0 hH1 hH2
                clear f2 f3 f13 g2 g3 g13 k2 k3 k13 HQ hq6 b7 b6 s6
                go_wp2_with fail
                go_roundw
                case rel => exact ⟨X2, Y2, k + 1, p2, D5, c5, E5, d5, rfl, rfl, by go_num, by omega, st6⟩
                case measure => simp [intOf]; omega
      · have hl4i : ¬ (k : Int) < 40 := by omega
        have b2 := st.below
        clear st hr
        go_wp2_with (go_at_call 11; refine (awake_any _).mono ?_; rintro e w6 ⟨rfl, b6⟩)
        go_ret
        exact ⟨rfl, b2.trans (b6.mono b2.size)⟩
    · have hli : ¬ (k : Int) < (xs.length : Int) := by omega
      have b2 := st.below
      clear st hr
      go_wp2_with (go_at_call 11; refine (awake_any _).mono ?_; rintro e w6 ⟨rfl, b6⟩)
      go_ret
      exact ⟨rfl, b2.trans (b6.mono b2.size)⟩
end Go.Proofs.Ytmejehanfhampaa
