/-
  The walk of EscaParts: for every row of bytes, every row of numbers, and every two numbers the call answers true and writes nothing that was there.
-/
import Derived.Test.YtgpjphecgcfikaaRaw
namespace Go.Proofs.Ytgpjphecgcfikaa
open Go.RowKit

def parts (ts : List Int) (lo hi : Nat) : List (List Int) := [ts.take lo, (ts.drop lo).take (hi - lo), ts.drop hi]
/-- Behind the three pieces: s, u and the row of the pieces lie in three new blocks. -/
structure PartsMem (w4 : World) (s : E) (D : Option Addr) (c : Nat) (x0 x1 x2 : Value) (wx : World) : Prop where
  box : Held wx w4.heap.size 33 (escC s (.slice D s.par.length c))
  ub : Held wx (w4.heap.size + 1) 33 (escC E.zero (.slice none 0 0))
  tab : Held wx (w4.heap.size + 1 + 1) 36 #[x0, x1, x2]
  below : Below w4.heap.size w4 wx
def PartsRead (w4 : World) (ts : List Int) (lo hi : Nat) (x0 x1 x2 : Value) : Prop := ReadB w4 x0 (ts.take lo) ∧ ReadB w4 x1 ((ts.drop lo).take (hi - lo)) ∧ ReadB w4 x2 (ts.drop hi)
def PartsRel (w4 : World) (s : E) (D : Option Addr) (c : Nat) (ts : List Int) (lo hi : Nat) (p q r : Value) (wx : World) : Prop :=
  q = .int .i64 3 ∧ r = .int .i64 0 ∧ ∃ x0 x1 x2, p = .slice (some ⟨w4.heap.size + 1 + 1, 0, none⟩) 3 3 ∧ PartsRead w4 ts lo hi x0 x1 x2 ∧ PartsMem w4 s D c x0 x1 x2 wx
theorem held_new3 (w : World) (o o' : Obj) (t : TypeId) (cs : Array Value) : Held (((w.alloc o).alloc o').alloc (.cells cs t)) (w.heap.size + 1 + 1) t cs := by
  have := Held.new ((w.alloc o).alloc o') t cs
  rwa [World.size_alloc, World.size_alloc] at this

theorem readB_nil (w : World) (D : Option Addr) (c : Nat) : ReadB w (.slice D 0 c) [] := ⟨D, c, rfl, fun k hk => absurd hk (Nat.not_lt_zero k)⟩
theorem ReadB.form {w : World} {v : Value} {bs : List Int} (h : ReadB w v bs) : ∃ D n c, v = .slice D n c := by
  obtain ⟨D, c, rfl, _⟩ := h
  exact ⟨_, _, _, rfl⟩
theorem parts_at {w4 : World} {ts : List Int} {lo hi : Nat} {x0 x1 x2 : Value} (htl : ts.length ≤ 1220) (r0 : ReadB w4 x0 (ts.take lo)) (r1 : ReadB w4 x1 ((ts.drop lo).take (hi - lo))) (r2 : ReadB w4 x2 (ts.drop hi)) :
    ∀ k : Nat, k < 3 → ∃ D n c bs, #[x0, x1, x2][k]? = some (.slice D n c) ∧ (parts ts lo hi)[k]? = some bs ∧ ReadB w4 (.slice D n c) bs ∧ bs.length ≤ 1220 := by
  intro k hk
  obtain ⟨D0, n0, c0, rfl⟩ := r0.form
  obtain ⟨D1, n1, c1, rfl⟩ := r1.form
  obtain ⟨D2, n2, c2, rfl⟩ := r2.form
  have hk3 : k = 0 ∨ k = 1 ∨ k = 2 := by omega
  rcases hk3 with rfl | rfl | rfl
  · exact ⟨_, _, _, _, rfl, rfl, r0, by rw [List.length_take]; omega⟩
  · exact ⟨_, _, _, _, rfl, rfl, r1, by rw [List.length_take, List.length_drop]; omega⟩
  · exact ⟨_, _, _, _, rfl, rfl, r2, by rw [List.length_drop]; omega⟩
/-- Behind k pieces: where it is lies in the block of u, the actions that came in y. -/
structure PartsLoopAt (w4 : World) (s : E) (D : Option Addr) (c : Nat) (ts : List Int) (lo hi : Nat) (x0 x1 x2 : Value) (k : Nat) (y p : Value) (wr : World) : Prop where
  le : k ≤ 3
  box : Held wr w4.heap.size 33 (escC s (.slice D s.par.length c))
  ub : Held wr (w4.heap.size + 1) 33 (escC (feedE E.zero ((parts ts lo hi).take k).flatten) p)
  tab : Held wr (w4.heap.size + 1 + 1) 36 #[x0, x1, x2]
  par : Ints wr (w4.heap.size + 3) p (feedE E.zero ((parts ts lo hi).take k).flatten).par
  acts : Acts wr (w4.heap.size + 3) y (feedA E.zero ((parts ts lo hi).take k).flatten)
  below : Below w4.heap.size w4 wr
def PartsLoop (w4 : World) (s : E) (D : Option Addr) (c : Nat) (ts : List Int) (lo hi : Nat) (x0 x1 x2 : Value) (y i : Value) (wr : World) : Prop := ∃ (k : Nat) (p : Value), i = .int .i64 k ∧ PartsLoopAt w4 s D c ts lo hi x0 x1 x2 k y p wr

theorem parts_len (ts : List Int) (lo hi k : Nat) (h : lo ≤ hi) (h2 : hi ≤ ts.length) : (((parts ts lo hi).take k).flatten).length ≤ ts.length := by
  have h3 : ((parts ts lo hi).flatten).length = ts.length := by
    simp only [parts, List.flatten_cons, List.flatten_nil, List.append_nil, List.length_append, List.length_take, List.length_drop]
    omega
  have h4 : (parts ts lo hi).flatten = ((parts ts lo hi).take k).flatten ++ ((parts ts lo hi).drop k).flatten := by
    rw [← List.flatten_append, List.take_append_drop]
  rw [h4, List.length_append] at h3
  omega
theorem parts_all (ts : List Int) (lo hi : Nat) (h : lo ≤ hi) : (parts ts lo hi).flatten = ts := by
  simp only [parts, List.flatten_cons, List.flatten_nil, List.append_nil]
  have e1 : ts.drop hi = (ts.drop lo).drop (hi - lo) := by rw [List.drop_drop]; congr 1; omega
  rw [e1, List.take_append_drop, List.take_append_drop]
/-- Ahead of the last statement of a round. -/
structure PartsIn (w4 : World) (C N : Nat) (s s0 s' : E) (D Dq D5 : Option Addr) (c cq c5 : Nat) (l0 l' : List A) (x0 x1 x2 y v : Value) (wq : World) : Prop where
  box : Held wq w4.heap.size 33 (escC s (.slice D s.par.length c))
  ub : Held wq (w4.heap.size + 1) 33 (escC s0 (.slice Dq s0.par.length cq))
  tab : Held wq (w4.heap.size + 1 + 1) 36 #[x0, x1, x2]
  new : Held wq N 33 (escC s' (.slice D5 s'.par.length c5))
  par : Ints wq C (.slice D5 s'.par.length c5) s'.par
  acts : Acts wq (w4.heap.size + 3) y l0
  more : Acts wq C v l'
  below : Below w4.heap.size w4 wq

set_option maxRecDepth 100000 in
set_option maxHeartbeats 4000000 in
theorem parts_walk (u v : Value) (raw xs : List Int) (a b : Int) (w : World) (hu : RawArg w u raw) (hv : ReadI w v xs) (hur : raw.length ≤ 9223372036854775807) :
    Calls Try.prog 7 #[u, v, .int .i64 a, .int .i64 b] w (TrueBelow w) := by
  have HU := Lib.hid hu
  have HX := Lib.hid hv
  obtain ⟨DU, cu, rfl⟩ := hu.form
  obtain ⟨V, cv, rfl, _⟩ := hv
  clear hu
  by_cases hlen : 500 < raw.length
  · have hlen' : (500 : Int) < (raw.length : Int) := by omega
    go_enter Try.func7, Try.ntmps7
    go_wp2_with fail
    refine (awake_any _).mono ?_
    rintro e w1 ⟨rfl, hw1⟩
    go_wp2_with fail
    go_ret
    exact ⟨rfl, hw1⟩
  · have hlen' : (raw.length : Int) ≤ 500 := by omega
    have hbl := bytesFn_len xs
    obtain ⟨ts, hts⟩ : ∃ ts, ts = bytesFn xs ++ raw := ⟨_, rfl⟩
    have htl : ts.length ≤ 1220 := by rw [hts, List.length_append]; omega
    have htok : ∀ z ∈ ts, 0 ≤ z ∧ z ≤ 255 := by
      intro z hz
      rw [hts] at hz
      rcases List.mem_append.1 hz with h | h
      · exact bytesFn_ok xs z h
      · exact HU.out.1 z h
    obtain ⟨qa, hqa, qa1⟩ : ∃ q : Nat, bits .and .i64 a 65535 = (q : Int) ∧ q ≤ 65535 := ⟨(a % 65536).toNat, by rw [i64_and65535]; omega, by omega⟩
    obtain ⟨qb, hqb, qb1⟩ : ∃ q : Nat, bits .and .i64 b 65535 = (q : Int) ∧ q ≤ 65535 := ⟨(b % 65536).toNat, by rw [i64_and65535]; omega, by omega⟩
    go_enter Try.func7, Try.ntmps7
    go_wp2_with fail
    refine (bytes_any _ xs _ HX.out).mono ?_
    rintro e w1 ⟨v1, rfl, hb1, hw1⟩
    obtain ⟨D1, c1, rfl⟩ := bytes_form hb1
    have HU1 : Hid (RawArg w1 _ raw) := HU.out.below hw1 (Nat.le_refl _)
    go_upto_region 4 with (
      refine wpList_append_raw _ (by rfl) _ _ (by rfl) w.heap.size _ _ (bytesFn xs) raw (by rfl) (by rfl) (by exact hb1) (by exact HU1.out) (by omega) (by exact hw1.size) ?_
      rw [← hts]
      intro v2 w2 hb2 hw2)
    have b2 : Below w.heap.size w w2 := hw1.trans hw2
    clear hw1 hw2 hb1 HU1
    obtain ⟨D2, c2, rfl⟩ := bytes_form hb2
    have HT := Lib.hid hts
    clear hts
    obtain ⟨A, hA, hA1⟩ : ∃ A : Nat, (qa : Int) % ((ts.length : Int) + 1) = (A : Int) ∧ A ≤ ts.length := ⟨qa % (ts.length + 1), by push_cast; rfl, Nat.le_of_lt_succ (Nat.mod_lt _ (Nat.succ_pos _))⟩
    obtain ⟨B, hB, hB1⟩ : ∃ A : Nat, (qb : Int) % ((ts.length : Int) + 1) = (A : Int) ∧ A ≤ ts.length := ⟨qb % (ts.length + 1), by push_cast; rfl, Nat.le_of_lt_succ (Nat.mod_lt _ (Nat.succ_pos _))⟩
    have hne : ¬ ((ts.length : Int) + 1 = 0) := by omega
    go_quiet (fail)
    obtain ⟨w3, hw3⟩ : ∃ w3, w3 = w2.drewN nq := ⟨_, rfl⟩
    have b3 : Below w.heap.size w w3 := by rw [hw3]; exact below_drewN b2 nq
    have hb3 : Bytes w3 w.heap.size (.slice D2 ts.length c2) ts := by rw [hw3]; exact hb2.below (below_drewN (Below.refl _ _) nq) (Nat.le_refl _)
    rw [← hw3]
    clear hw3 b2 hb2 hqa hqb hne
    simp only [hA, hB]
    go_upto_region 5 with fail
    go_cut [10, 11] (fun p q wx => ∃ lo hi : Nat, p = .int .i64 lo ∧ q = .int .i64 hi ∧ lo ≤ hi ∧ hi ≤ ts.length ∧ wx = w3)
    case first =>
      go_wp2_with fail
      all_goals (go_meet; first | exact ⟨B, A, rfl, rfl, by omega, by omega, rfl⟩ | exact ⟨A, B, rfl, rfl, by omega, by omega, rfl⟩ | exact ⟨A, A, rfl, rfl, by omega, by omega, rfl⟩)
    case rest =>
      obtain ⟨lo, hi, rfl, rfl, hlh, hh1, rfl⟩ := hcut
      clear hA hA1 hB hB1
      obtain ⟨s, hs⟩ : ∃ s, s = feedE E.zero ts := ⟨_, rfl⟩
      obtain ⟨l, hl⟩ : ∃ l, l = feedA E.zero ts := ⟨_, rfl⟩
      have F1 : Hid (∀ v w, ReadB w v ts → Calls Try.prog 11 #[zeroV none 0, v] w (StepP w.heap.size w s l)) := fun v w h => feed0 _ _ _ hs.symm hl.symm v w h (by omega)
      have HS := Lib.hid hs
      have HL := Lib.hid hl
      have hspl : s.par.length ≤ 1000 := by rw [hs]; have := (feedE_ok E.zero ts E.zero_ok).par; omega
      have hll : l.length ≤ 4000 := by rw [hl]; have h1 := feedA_len E.zero ts; omega
      have hlp : ∀ x ∈ l, x.par.length ≤ 1000 := by rw [hl]; exact feedA_par E.zero _ E.zero_ok
      clear hs hl
      go_wp2_with fail
      refine (F1.out _ _ (by exact hb3.read htok)).mono ?_
      rintro e w4 ⟨p4, v4, rfl, hp4, ha4, hw4⟩
      obtain ⟨D4, c4, rfl⟩ := ints_form hp4
      unfold escV
      have hb4 := hb3.below hw4 (Nat.le_refl _)
      have b4 : Below w.heap.size w w4 := b3.trans (hw4.mono b3.size)
      go_upto_region 9 with fail
      go_cut [63, 64, 65] (PartsRel w4 s D4 c4 ts lo hi)
      case first =>
        rcases hb4.2 with ⟨hnil, hz0⟩ | ⟨g, cap, cur, hsm, _, _, hcap, _⟩
        · have hts0 : ts = [] := List.eq_nil_of_length_eq_zero hz0
          have hlo0 : lo = 0 := by omega
          have hhi0 : hi = 0 := by omega
          simp only [Value.slice.injEq] at hnil
          obtain ⟨rfl, _, rfl⟩ := hnil
          subst hts0 hlo0 hhi0
          go_region
          go_wp2_with fail
          go_meet
          refine ⟨rfl, rfl, _, _, _, rfl, ?_, ⟨Held.alloc (Held.alloc (Held.new w4 33 _) _) _, Held.alloc (Held.new2 w4 _ 33 _) _, held_new3 w4 _ _ _ _, (below_alloc3 w4 _ _ _).drew⟩⟩
          exact ⟨readB_nil _ _ _, readB_nil _ _ _, readB_nil _ _ _⟩
        · simp only [Value.slice.injEq] at hsm
          obtain ⟨rfl, _, rfl⟩ := hsm
          have i1 : (lo : Int) ≤ (hi : Int) := by omega
          have i2 : (hi : Int) ≤ (ts.length : Int) := by omega
          have i3 : (ts.length : Int) ≤ (c2 : Int) := by omega
          obtain ⟨P1, hP1⟩ : ∃ P : Option Addr, (if c2 = lo then some (⟨g, 0, none⟩ : Addr) else some ⟨g, lo, none⟩) = P := ⟨_, rfl⟩
          obtain ⟨P2, hP2⟩ : ∃ P : Option Addr, (if c2 = hi then some (⟨g, 0, none⟩ : Addr) else some ⟨g, hi, none⟩) = P := ⟨_, rfl⟩
          go_region
          go_wp2_with fail
          go_meet
          refine ⟨rfl, rfl, _, _, _, rfl, ?_, ⟨Held.alloc (Held.alloc (Held.new w4 33 _) _) _, Held.alloc (Held.new2 w4 _ 33 _) _, held_new3 w4 _ _ _ _, (below_alloc3 w4 _ _ _).drew⟩⟩
          refine ⟨piece_read hb4 htok 0 lo c2 (by omega), ?_, ?_⟩
          · by_cases hc : c2 = lo
            · have e0 : hi - lo = 0 := by omega
              rw [e0, List.take_zero]
              exact readB_nil _ _ _
            · rw [if_neg hc] at hP1
              rw [← hP1]
              exact piece_read hb4 htok lo (hi - lo) _ (by omega)
          · by_cases hc : c2 = hi
            · have e0 : ts.length - hi = 0 := by omega
              rw [e0, List.drop_of_length_le (by omega)]
              exact readB_nil _ _ _
            · rw [if_neg hc] at hP2
              rw [← hP2]
              have := piece_read hb4 htok hi (ts.length - hi) (c2 - hi) (by omega)
              rwa [List.take_of_length_le (by rw [List.length_drop]; omega)] at this
      case rest =>
        obtain ⟨rfl, rfl, x0, x1, x2, rfl, ⟨r0, r1, r2⟩, hbox, hub, htab, hbx⟩ := hcut
        have HR : Hid (∀ k : Nat, k < 3 → ∃ D n c bs, #[x0, x1, x2][k]? = some (.slice D n c) ∧ (parts ts lo hi)[k]? = some bs ∧ ReadB w4 (.slice D n c) bs ∧ bs.length ≤ 1220) := parts_at htl r0 r1 r2
        clear r0 r1 r2
        go_wp2_with fail
        go_loopw [14, 65] (PartsLoop w4 s D4 c4 ts lo hi x0 x1 x2) (fun _ i _ => 3 - (intOf i).toNat)
        case atStart =>
          exact ⟨0, .slice none 0 0, rfl, by decide, hbox, hub, htab, ints_nil _ _, acts_nil _ _, hbx⟩
        case round =>
          obtain ⟨k, q, rfl, hle, hbox, hub, htab, hq, hac, hbr⟩ := hrel
          have hz1 := hbox.lt
          have hz2 := hub.lt
          have hz3 := htab.lt
          by_cases hlt : k < 3
          · have hki : (k : Int) < 3 := by omega
            obtain ⟨Dk, nk, ck, bs, hxk, hpk, hrd, hbl2⟩ := HR.out k hlt
            have hcell : wr.cell? ⟨w4.heap.size + 1 + 1, k, none⟩ = some (.slice Dk nk ck) := (htab.cell k).trans hxk
            have hrd' := hrd.below hbr (Nat.le_refl _)
            have hok0 := feedE_ok E.zero ((parts ts lo hi).take k).flatten E.zero_ok
            have hfl : ((parts ts lo hi).take (k + 1)).flatten = ((parts ts lo hi).take k).flatten ++ bs := by
              rw [List.take_add_one, hpk]
              simp
            have hl0 := parts_len ts lo hi k hlh hh1
            have hla := feedA_len E.zero ((parts ts lo hi).take k).flatten
            obtain ⟨fl, hfl0⟩ : ∃ fl, fl = ((parts ts lo hi).take k).flatten := ⟨_, rfl⟩
            rw [← hfl0] at hub hq hac hok0 hfl hl0 hla
            have HF := Lib.hid hfl
            clear hfl hfl0 hxk hpk hrd
            obtain ⟨s0, hs0⟩ : ∃ s0, s0 = feedE E.zero fl := ⟨_, rfl⟩
            obtain ⟨l0, hl00⟩ : ∃ l0, l0 = feedA E.zero fl := ⟨_, rfl⟩
            rw [← hs0] at hub hq hok0
            rw [← hl00] at hac hla
            have hla2 := feedA_len s0 bs
            obtain ⟨s', hs'⟩ : ∃ s', s' = feedE s0 bs := ⟨_, rfl⟩
            obtain ⟨l', hl'⟩ : ∃ l', l' = feedA s0 bs := ⟨_, rfl⟩
            have FK : Hid (∀ q v B w, Ints w B q s0.par → ReadB w v bs → Calls Try.prog 11 #[escV s0 q, v] w (StepP w.heap.size w s' l')) := fun q v B w h1 h2 => by
              rw [hs', hl']
              exact feed_any s0 bs q v B w h1 hok0 h2 (by omega)
            have HE : Hid (feedE E.zero (fl ++ bs) = s') := by
              show feedE E.zero (fl ++ bs) = s'
              rw [feedE_app, ← hs0, hs']
            have HA : Hid (feedA E.zero (fl ++ bs) = l0 ++ l') := by
              show feedA E.zero (fl ++ bs) = l0 ++ l'
              rw [feedA_app, ← hs0, hl00, hl']
            rw [← hl'] at hla2
            clear hs' hl' hs0 hl00 hok0
            obtain ⟨Dq, cq, rfl⟩ := ints_form hq
            unfold escC at hub
            obtain ⟨y0, y1, y2, y3, y4, y5, y6, y7, yf⟩ := esc_cells hub
            go_upto_region 13 with (
              go_at_call 11
              refine (FK.out _ _ (w4.heap.size + 3) _ (by exact hq) (by exact hrd')).mono ?_
              rintro e w5 ⟨p5, v5, rfl, hp5, ha5, hw5⟩
              obtain ⟨D5, c5, rfl⟩ := ints_form hp5
              unfold escV)
            refine wp_world (PartsIn w4 wr.heap.size w5.heap.size s s0 s' D4 Dq D5 c4 cq c5 l0 l' x0 x1 x2 u14 v5) ⟨(hbox.below hw5 hz1).alloc _, (hub.below hw5 hz2).alloc _, (htab.below hw5 hz3).alloc _, Held.new _ _ _, hp5.alloc _, (hac.below hw5 (Nat.le_refl _)).alloc _, ha5.alloc _, (hbr.trans (hw5.mono hbr.size)).alloc (Nat.le_trans hbr.size hw5.size) _⟩ ?_
            have hold : ∀ j, u14.ownBlock = some j → j < wr.heap.size := fun j hj => (acts_lt hac j hj).2
            have hz5 := hw5.size
            rintro wq ⟨kbox, kub, ktab, knew, kp, ka, ka', kb⟩
            clear y0 y1 y2 y3 y4 y5 y6 y7 yf hbox hub htab hq hac hp5 ha5 hw5 hcell
            have kz1 := kbox.lt
            have kz2 := kub.lt
            have kz3 := ktab.lt
            have kz4 := knew.lt
            have kd := knew.drew
            have kubd := kub.drew
            have kad : Acts wq.drew (w4.heap.size + 3) u14 l0 := ka.drew
            have kad' : Acts wq.drew wr.heap.size v5 l' := ka'.drew
            have kw : Below wq.heap.size wq wq.drew := (Below.refl _ _).drew
            unfold escC at kd kubd
            have hzr : w4.heap.size + 3 ≤ wr.heap.size := by omega
            go_region_held3 (fun w' => w'.cell? ⟨w5.heap.size, 0, none⟩ = some (.int .i64 s'.mode) ∧ w'.cell? ⟨w5.heap.size, 1, none⟩ = some (.int .i64 s'.u.n) ∧ w'.cell? ⟨w5.heap.size, 2, none⟩ = some (.int .i64 s'.u.m) ∧ w'.cell? ⟨w5.heap.size, 3, none⟩ = some (.int .i64 s'.u.g) ∧ w'.cell? ⟨w5.heap.size, 4, none⟩ = some (.slice D5 s'.par.length c5) ∧ w'.cell? ⟨w5.heap.size, 5, none⟩ = some (.int .i64 s'.num) ∧ w'.cell? ⟨w5.heap.size, 6, none⟩ = some (.bool s'.priv) ∧ w'.cell? ⟨w5.heap.size, 7, none⟩ = some (.bool s'.skip))
              (first
                | with_reducible exact esc_S kd
                | with_reducible exact esc_S kd7
                | with_reducible exact esc_S (kd7.far8 hNU _ _ _ _ _ _ _ _)
                | fail)
              ((refine step_append_acts _ (by rfl) _ _ (by rfl) (w4.heap.size + 3) wr.heap.size u14 v5 l0 l' (by rfl) (by rfl) (by exact kad) (by exact kad') hzr (by exact hold) (by omega) (by simp; omega) ?_
                intro v7 w7 hap
                have hNe : some w5.heap.size ≠ u14.ownBlock := fun he => by have := hold _ he.symm; omega
                have kd7 : Held w7 w5.heap.size 33 _ := (hap.block _ kd.lt hNe).trans kd
                have kub7 := kubd.below hap.below (by omega)
                have kb7 : Below (w4.heap.size + 3) wq w7 := ((Below.refl _ wq).drew).trans hap.below
                have hNU : w5.heap.size ≠ w4.heap.size + 1 := by omega
                have kz7 := kub7.lt
                obtain ⟨y0, y1, y2, y3, y4, y5, y6, y7, yf⟩ := esc_cells kub7))
            go_wp2_with fail
            go_roundw
            case rel =>
              refine ⟨k + 1, .slice D5 s'.par.length c5, by go_num, by omega, ?_, ?_, ?_, ?_, ?_, ?_⟩
              · exact (kbox.below kb7 (by omega)).far8 (by omega) _ _ _ _ _ _ _ _
              · rw [HF.out, HE.out]
                exact kub7.set8 _ _ _ _ _ _ _ _
              · exact (ktab.below kb7 (by omega)).far8 (by omega) _ _ _ _ _ _ _ _
              · rw [HF.out, HE.out]
                have kp7 : Ints w7 wr.heap.size (.slice D5 s'.par.length c5) s'.par := Ints.moved (w := wq.drew) kp hap.block fun j hj he => by
                  have h1 := (World.ownsRow.lt kp j hj).1
                  have h2 := hold j he.symm
                  omega
                exact (Ints.setlo8 kp7 (by omega) _ _ _ _ _ _ _ _).base hzr
              · rw [HF.out, HA.out]
                exact Acts.setlo8 hap.acts (by omega) _ _ _ _ _ _ _ _
              · exact below_set8 (kb.trans (kb7.mono (by omega))) (by omega) _ _ _ _ _ _ _ _
            case measure => simp [intOf]; omega
          · have ek : k = 3 := by omega
            subst ek
            have e3 : ((parts ts lo hi).take 3).flatten = ts := parts_all ts lo hi hlh
            rw [e3, ← HS.out] at hub hq
            rw [e3, ← HL.out] at hac
            obtain ⟨Dq, cq, rfl⟩ := ints_form hq
            unfold escC at hub hbox
            obtain ⟨x0', x1', x2', x3', x4', x5', x6', x7', xf'⟩ := esc_cells hbox
            obtain ⟨y0, y1, y2, y3, y4, y5, y6, y7, yf⟩ := esc_cells hub
            have hp4r := (hp4.below hbr (Nat.le_refl _)).base (Nat.zero_le _)
            have ha4r := (ha4.below hbr (Nat.le_refl _)).base (Nat.zero_le _)
            have br : Below w.heap.size w wr := b4.trans (hbr.mono b4.size)
            go_wp2_with fail
            refine (sameEsc_any s _ _ 0 0 _ (by exact hp4r) (by exact hq.base (Nat.zero_le _)) hspl).mono ?_
            rintro e w8 ⟨rfl, hw8⟩
            clear x0' x1' x2' x3' x4' x5' x6' x7' xf' y0 y1 y2 y3 y4 y5 y6 y7 yf
            go_wp2_with fail
            refine (sameActions_any _ _ l 0 0 _ (by exact ha4r.below hw8 (Nat.le_refl _)) (by exact (hac.base (Nat.zero_le _)).below hw8 (Nat.le_refl _)) (by omega) hlp).mono ?_
            rintro e w9 ⟨rfl, m9, rfl⟩
            go_wp2_with fail
            refine (awake_any _).mono ?_
            rintro e w10 ⟨rfl, hw10⟩
            go_wp2_with fail
            go_ret
            have b8 : Below w.heap.size w w8 := br.trans (hw8.mono br.size)
            exact ⟨rfl, (below_drewN b8 m9).trans (hw10.mono (by simpa using b8.size))⟩
end Go.Proofs.Ytgpjphecgcfikaa
