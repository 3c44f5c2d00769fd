/-
  The walk of EscaCancel: for every two rows of numbers, and either byte, the call answers true and writes nothing that was there.
-/
import Derived.Test.YtgpjphecgcfikaaCanc
namespace Go.Proofs.Ytgpjphecgcfikaa
open Go.RowKit

def zeroC (D : Option Addr) (c : Nat) : Array Value := #[.int .i64 0, .int .i64 0, .int .i64 0, .int .i64 0, .slice D 0 c, .int .i64 0, .bool false, .bool false]
theorem feed_one (s : E) (b : Int) (p v : Value) (B : Nat) (w : World) (hp : Ints w B p s.par) (he : s.Ok) (hv : ReadB w v [b]) :
    Calls Try.prog 11 #[escV s p, v] w (StepP w.heap.size w (nxE s b).1 (nxE s b).2) := by
  have := feed_any s [b] p v B w hp he hv (by simp)
  have e1 : feedE s [b] = (nxE s b).1 := rfl
  have e2 : feedA s [b] = (nxE s b).2 := by simp [feedA]
  rwa [e1, e2] at this

theorem wPar_len2 (par : List Int) (n : Int) (h : par.length ≤ 16) : (wPar par n).length ≤ 1000 := Nat.le_trans (wPar_len par n h) (by decide)
theorem nxE_par (e : E) (b : Int) (he : e.Ok) : ∀ x ∈ (nxE e b).2, x.par.length ≤ 1000 := by
  have h5 := he.par
  have hp : ∀ rs, ∀ x ∈ prints rs, x.par.length ≤ 1000 := by
    intro rs x hx
    simp only [prints, List.mem_map] at hx
    obtain ⟨r, _, rfl⟩ := hx
    exact Nat.zero_le _
  have hc : ∀ x ∈ ctl b, x.par.length ≤ 1000 := by
    intro x hx
    unfold ctl at hx
    split at hx
    · cases hx
    · simp only [List.mem_singleton] at hx
      subst hx
      exact Nat.zero_le _
  have hf : ∀ x ∈ fin e b, x.par.length ≤ 1000 := by
    intro x hx
    unfold fin at hx
    split at hx
    · cases hx
    · simp only [List.mem_singleton] at hx
      subst hx
      unfold finPar
      dsimp only
      split
      · exact wPar_len2 _ _ h5
      · omega
  intro x hx
  unfold nxE at hx
  repeat' split at hx
  · rcases List.mem_append.1 hx with h | h
    · exact hp _ x h
    · exact hc x h
  · rcases List.mem_append.1 hx with h | h
    · exact hp _ x h
    · exact hc x h
  · unfold escE at hx
    repeat' split at hx
    all_goals first
      | exact hc x hx
      | (cases hx; done)
      | (simp only [List.mem_singleton] at hx; subst hx; exact Nat.zero_le _)
  · unfold csiE at hx
    repeat' split at hx
    all_goals first
      | exact hc x hx
      | exact hf x hx
      | (cases hx; done)
  all_goals cases hx
theorem feedA_par (e : E) (bs : List Int) (he : e.Ok) : ∀ x ∈ feedA e bs, x.par.length ≤ 1000 := by
  induction bs generalizing e with
  | nil => intro x hx; cases hx
  | cons a l ih =>
    intro x hx
    rcases List.mem_append.1 hx with h | h
    · exact nxE_par e a he x h
    · exact ih _ (nxE_ok e a he) x h

/-- Ahead of the last feeds: t lies in block T. -/
structure CancAt (w : World) (T : Nat) (D : Option Addr) (c : Nat) (wq : World) : Prop where
  box : Held wq T 33 #[.int .i64 0, .int .i64 0, .int .i64 0, .int .i64 0, .slice D 0 c, .int .i64 0, .bool false, .bool false]
  par : Ints wq 0 (.slice D 0 c) []
  below : Below w.heap.size w wq
/-- What a Feed leaves that is laid into new variables: where it is in a new block, the actions in v. -/
def CancRel (wq : World) (e' : E) (l' : List A) (p v : Value) (wx : World) : Prop := ∃ (T : Nat) (D : Option Addr) (c : Nat), p = .pointer (some ⟨T, 0, none⟩) ∧ Held wx T 33 (escC e' (.slice D e'.par.length c)) ∧ Ints wx wq.heap.size (.slice D e'.par.length c) e'.par ∧ Acts wx wq.heap.size v l' ∧ Below wq.heap.size wq wx

/-- The variable is made behind the call. -/
theorem canc_after {wq w6 : World} {e' : E} {l' : List A} {D : Option Addr} {c : Nat} {v : Value} (hp : Ints w6 wq.heap.size (.slice D e'.par.length c) e'.par) (ha : Acts w6 wq.heap.size v l') (hb : Below wq.heap.size wq w6) :
    CancRel wq e' l' (.pointer (some ⟨w6.heap.size, 0, none⟩)) v (w6.alloc (.cells #[.int .i64 e'.mode, .int .i64 e'.u.n, .int .i64 e'.u.m, .int .i64 e'.u.g, .slice D e'.par.length c, .int .i64 e'.num, .bool e'.priv, .bool e'.skip] 33)) :=
  ⟨w6.heap.size, D, c, rfl, Held.new _ _ _, hp.alloc _, ha.alloc _, hb.alloc hb.size _⟩

/-- The variable was made ahead of the call. -/
theorem canc_ahead {wq w6 : World} {e' : E} {l' : List A} {D : Option Addr} {c N B : Nat} {v z0 z1 z2 z3 z4 z5 z6 z7 : Value} (hN : Held w6 N 33 #[z0, z1, z2, z3, z4, z5, z6, z7]) (hq : wq.heap.size ≤ N) (hNB : N < B) (hp : Ints w6 B (.slice D e'.par.length c) e'.par) (ha : Acts w6 B v l') (hb : Below wq.heap.size wq w6) :
    CancRel wq e' l' (.pointer (some ⟨N, 0, none⟩)) v ((((((((w6.setCell ⟨N, 0, none⟩ (.int .i64 e'.mode)).setCell ⟨N, 1, none⟩ (.int .i64 e'.u.n)).setCell ⟨N, 2, none⟩ (.int .i64 e'.u.m)).setCell ⟨N, 3, none⟩ (.int .i64 e'.u.g)).setCell ⟨N, 4, none⟩ (.slice D e'.par.length c)).setCell ⟨N, 5, none⟩ (.int .i64 e'.num)).setCell ⟨N, 6, none⟩ (.bool e'.priv)).setCell ⟨N, 7, none⟩ (.bool e'.skip)) :=
  ⟨N, D, c, rfl, hN.set8 _ _ _ _ _ _ _ _, (Ints.setlo8 hp hNB _ _ _ _ _ _ _ _).base (by omega), (Acts.setlo8 ha hNB _ _ _ _ _ _ _ _).base (by omega), below_set8 hb hq _ _ _ _ _ _ _ _⟩
theorem ReadB.below {w w' : World} {B : Nat} {v : Value} {xs : List Int} (h : ReadB w v xs) (hb : Below B w w') (hB : w.heap.size ≤ B) : ReadB w' v xs := by
  obtain ⟨D, c, rfl, h⟩ := h
  refine ⟨D, c, rfl, fun k hk => ?_⟩
  obtain ⟨b, off, z, e1, e2, e3, e4, e5⟩ := h k hk
  exact ⟨b, off, z, e1, Nat.lt_of_lt_of_le e2 hb.size, e3, (hb.cell (p := ⟨b, off + k, none⟩) (Nat.lt_of_lt_of_le e2 hB)).trans e4, e5⟩

set_option maxRecDepth 100000 in
set_option maxHeartbeats 4000000 in
theorem cancel_at (b : Int) (sub : Bool) (hsb : (sub = false ∧ b = 24) ∨ (sub = true ∧ b = 26)) (v v' : Value) (xs ys : List Int) (w : World) (hv : ReadI w v xs) (hv' : ReadI w v' ys) :
    Calls Try.prog 6 #[v, .bool sub, v'] w (TrueBelow w) := by
  have HX := Lib.hid hv
  have HY := Lib.hid hv'
  obtain ⟨V, cv, rfl, _⟩ := hv
  obtain ⟨V', cv', rfl, _⟩ := hv'
  obtain ⟨s, hs⟩ : ∃ s, s = feedE E.zero (bytesFn xs) := ⟨_, rfl⟩
  obtain ⟨l, hl⟩ : ∃ l, l = feedA E.zero (bytesFn xs) := ⟨_, rfl⟩
  have hso : s.Ok := by rw [hs]; exact feedE_ok _ _ E.zero_ok
  have hsi : s.Inv := by rw [hs]; exact feedE_inv _ _ E.zero_inv
  obtain ⟨hc5, hcn⟩ := cancel_of s b (by rcases hsb with ⟨_, h⟩ | ⟨_, h⟩ <;> omega) hso hsi
  have F1 : Hid (∀ v w, ReadB w v (bytesFn xs) → Calls Try.prog 11 #[zeroV none 0, v] w (StepP w.heap.size w s l)) := fun v w h => feed0 _ _ _ hs.symm hl.symm v w h (by have := bytesFn_len xs; omega)
  have F2 : Hid (∀ p v B w, Ints w B p s.par → ReadB w v [b] → Calls Try.prog 11 #[escV s p, v] w (StepP w.heap.size w (nxE s b).1 (nxE s b).2)) := fun p v B w h1 h2 => feed_one s b p v B w h1 hso h2
  have hbb : 0 ≤ b ∧ b ≤ 255 := by rcases hsb with ⟨_, h⟩ | ⟨_, h⟩ <;> omega
  obtain ⟨t, ht⟩ : ∃ t, t = (nxE s b).1 := ⟨_, rfl⟩
  obtain ⟨x, hx⟩ : ∃ x, x = (nxE s b).2 := ⟨_, rfl⟩
  rw [← ht, ← hx] at F2 hc5 hcn
  clear hs hl ht hx hso hsi
  obtain ⟨mo, ⟨n, m, g⟩, par, num, pr, sk⟩ := s
  dsimp only at hc5 hcn
  by_cases h5 : mo = 5
  · subst h5
    obtain ⟨ht3, rfl⟩ := hc5 rfl
    clear hc5 hcn
    obtain ⟨tm, ⟨tn, tmm, tg⟩, tpar, tnum, tpr, tsk⟩ := t
    dsimp only at ht3
    subst ht3
    rcases hsb with ⟨rfl, rfl⟩ | ⟨rfl, rfl⟩
    all_goals
      go_enter Try.func6, Try.ntmps6
      go_wp2_with fail
      refine (bytes_any _ xs _ HX.out).mono ?_
      rintro e w1 ⟨v1, rfl, hb1, hw1⟩
      obtain ⟨D1, c1, rfl⟩ := bytes_form hb1
      go_wp2_with fail
      refine (F1.out _ _ (by exact hb1.read (bytesFn_ok xs))).mono ?_
      rintro e w2 ⟨p2, v2, rfl, hp2, ha2, hw2⟩
      obtain ⟨D2, c2, rfl⟩ := ints_form hp2
      unfold escV
      dsimp only at hp2 ⊢
      go_wp2_with fail
      refine (F2.out _ _ w1.heap.size _ (by exact (hp2.alloc _).alloc _) (by exact readB_new2 _ _ [_] (u8s [_]).toArray 1 1 _ rfl (u8s_at (by decide)))).mono ?_
      rintro e w3 ⟨p3, v3, rfl, hp3, ha3, hw3⟩
      obtain ⟨D3, c3, rfl⟩ := ints_form hp3
      obtain ⟨D4, c4, rfl⟩ := acts_form ha3
      unfold escV
      dsimp only at hp3 ⊢
      obtain ⟨H3, _⟩ := two_new hw3
      have hz3 := H3.lt
      obtain ⟨x0, x1, x2, x3, x4, x5, x6, x7, xf⟩ := esc_cells H3
      go_wp2_with fail
      refine (awake_any _).mono ?_
      rintro e w5 ⟨rfl, hw5⟩
      go_wp2_with fail
      go_ret
      have b2 : Below w.heap.size w w2 := hw1.trans (hw2.mono hw1.size)
      have b3 : Below w.heap.size w w3 := b2.trans (((below_alloc2 w2 _ _).mono b2.size).trans (hw3.mono (by have := b2.size; simp; omega)))
      exact ⟨rfl, (b3.alloc b3.size _).trans (hw5.mono (by have := b3.size; simp; omega))⟩
  · obtain ⟨rfl, hx1, hx0⟩ := hcn h5
    clear hc5 hcn
    have F2z : Hid (∀ p v B w, Ints w B p par → ReadB w v [b] → Calls Try.prog 11 #[escV ⟨mo, ⟨n, m, g⟩, par, num, pr, sk⟩ p, v] w (ZeroPost w x)) := fun p v B w h1 h2 => (F2.out p v B w h1 h2).mono fun _ _ h => zero_of h
    clear F2
    obtain ⟨e', he'⟩ : ∃ e', e' = feedE E.zero (bytesFn ys) := ⟨_, rfl⟩
    obtain ⟨l', hl'⟩ : ∃ l', l' = feedA E.zero (bytesFn ys) := ⟨_, rfl⟩
    have hle : e'.par.length ≤ 1000 := by rw [he']; have := (feedE_ok E.zero (bytesFn ys) E.zero_ok).par; omega
    have hll : l'.length ≤ 1000000 := by rw [hl']; have h1 := feedA_len E.zero (bytesFn ys); have h2 := bytesFn_len ys; omega
    have hlp : ∀ x ∈ l', x.par.length ≤ 1000 := by rw [hl']; exact feedA_par E.zero _ E.zero_ok
    have F3 : Hid (∀ v w D c B, Ints w B (.slice D 0 c) [] → ReadB w v (bytesFn ys) → Calls Try.prog 11 #[zeroV D c, v] w (StepP w.heap.size w e' l')) := fun v w D c B h1 h2 => by
      rw [he', hl']
      exact feed_any E.zero (bytesFn ys) (.slice D 0 c) v B w h1 E.zero_ok h2 (by have := bytesFn_len ys; omega)
    clear he' hl'
    have hcase : (n = 0 ∧ x = []) ∨ (¬ n = 0 ∧ (x.length : Int) ≤ 1) := by
      by_cases hn0 : n = 0
      · exact .inl ⟨hn0, List.eq_nil_of_length_eq_zero (hx0 hn0)⟩
      · exact .inr ⟨hn0, by omega⟩
    clear hx0 hx1
    rcases hsb with ⟨rfl, rfl⟩ | ⟨rfl, rfl⟩
    all_goals
      rcases hcase with ⟨rfl, rfl⟩ | ⟨hn0, hx1⟩
      all_goals
        go_enter Try.func6, Try.ntmps6
        go_wp2_with fail
        refine (bytes_any _ xs _ HX.out).mono ?_
        rintro e w1 ⟨v1, rfl, hb1, hw1⟩
        obtain ⟨D1, c1, rfl⟩ := bytes_form hb1
        go_wp2_with fail
        refine (F1.out _ _ (by exact hb1.read (bytesFn_ok xs))).mono ?_
        rintro e w2 ⟨p2, v2, rfl, hp2, ha2, hw2⟩
        obtain ⟨D2, c2, rfl⟩ := ints_form hp2
        unfold escV
        dsimp only at hp2 ⊢
        go_wp2_with fail
        refine (F2z.out _ _ w1.heap.size _ (by exact (hp2.alloc _).alloc _) (by exact readB_new2 _ _ [_] (u8s [_]).toArray 1 1 _ rfl (u8s_at (by decide)))).mono ?_
        rintro e w3 ⟨D3, c3, v3, rfl, hp3, ha3, hw3⟩
        obtain ⟨D4, c4, rfl⟩ := acts_form ha3
        unfold zeroV
        obtain ⟨H3, _⟩ := two_new hw3
        have hz3 := H3.lt
        obtain ⟨x0, x1, x2, x3, x4, x5, x6, x7, xf⟩ := esc_cells H3
        have b2 : Below w.heap.size w w2 := hw1.trans (hw2.mono hw1.size)
        have b3 : Below w.heap.size w w3 := b2.trans (((below_alloc2 w2 _ _).mono b2.size).trans (hw3.mono (by have := b2.size; simp; omega)))
        clear hw1 hw2 hw3 b2 hp2 ha2
        go_wp2_with fail
        refine (sameZ _ _ _ _ 0 0 _ (by exact (hp3.base (Nat.zero_le _)).alloc _) (by exact ints_nil _ _)).mono ?_
        rintro e w4 ⟨rfl, hw4⟩
        have H4 := (Held.new w3 33 _).below hw4 (by simp)
        have hp4 : Ints w4 0 _ [] := ((hp3.base (Nat.zero_le _)).alloc _).below hw4 (Nat.le_refl _)
        have b4 : Below w.heap.size w w4 := (b3.alloc b3.size _).trans (hw4.mono (by have := b3.size; simp; omega))
        have hz4 := H4.lt
        clear hw4 x0 x1 x2 x3 x4 x5 x6 x7 xf H3 hp3 b3
        go_upto_region 10 with fail
        refine wp_world (CancAt w w3.heap.size D3 c3) ⟨H4, hp4, b4⟩ ?_
        rintro wq ⟨hT, hpT, hbq⟩
        clear H4 hp4 b4 hz4
        go_cut [12, 13] (CancRel wq e' l')
        case first =>
          have hTd := hT.drew
          have hzT := hT.lt
          have hzTd := hTd.lt
          have hYq : ReadI wq _ ys := HY.out.below hbq (Nat.le_refl _)
          have hYd : ReadI wq.drew _ ys := hYq.below (Below.refl wq.heap.size wq).drew (Nat.le_refl _)
          have hpd : Ints wq.drew 0 _ [] := hpT.drew
          have hwA : Below wq.heap.size wq (wq.alloc (.cells (zeroC none 0) 33)).drew := ((Below.refl wq.heap.size wq).alloc (Nat.le_refl _) _).drew
          have hYa : ReadI (wq.alloc (.cells (zeroC none 0) 33)).drew _ ys := hYq.below hwA (Nat.le_refl _)
          have hTa : Held (wq.alloc (.cells (zeroC none 0) 33)).drew w3.heap.size 33 _ := hT.alloc _
          have hNa : Held (wq.alloc (.cells (zeroC none 0) 33)).drew wq.heap.size 33 (zeroC none 0) := Held.new _ _ _
          have hpa : Ints (wq.alloc (.cells (zeroC none 0) 33)).drew 0 _ [] := hpT.alloc _
          unfold zeroC at hYa hTa hNa hwA hpa
          go_region_held3 (fun w' => w'.cell? ⟨w3.heap.size, 0, none⟩ = some (.int .i64 0) ∧ w'.cell? ⟨w3.heap.size, 1, none⟩ = some (.int .i64 0) ∧ w'.cell? ⟨w3.heap.size, 2, none⟩ = some (.int .i64 0) ∧ w'.cell? ⟨w3.heap.size, 3, none⟩ = some (.int .i64 0) ∧ w'.cell? ⟨w3.heap.size, 4, none⟩ = some (.slice D3 0 c3) ∧ w'.cell? ⟨w3.heap.size, 5, none⟩ = some (.int .i64 0) ∧ w'.cell? ⟨w3.heap.size, 6, none⟩ = some (.bool false) ∧ w'.cell? ⟨w3.heap.size, 7, none⟩ = some (.bool false))
            (first
              | with_reducible exact esc_S hTd
              | with_reducible exact esc_S hTa
              | with_reducible exact esc_S hT5
              | with_reducible exact esc_S (hT5.alloc _)
              | with_reducible exact esc_S hT6
              | with_reducible exact esc_S (hT6.alloc _)
              | with_reducible exact esc_S (hT6.far8 hTN _ _ _ _ _ _ _ _)
              | fail)
            (first
              | (go_at_call 16
                 (with_reducible refine (bytes_any _ ys wq.drew hYd).mono ?_)
                 rintro e w5 ⟨v5, rfl, hb5, hw5⟩
                 have hT5 := hTd.below hw5 hzTd
                 have hp5 := hpd.below hw5 (Nat.le_refl _)
                 have hr5 := hb5.read (bytesFn_ok ys)
                 have hb5' : Below wq.heap.size wq w5 := ((Below.refl wq.heap.size wq).drew).trans hw5
                 have hz5 := hT5.lt)
              | (go_at_call 16
                 (with_reducible refine (bytes_any _ ys _ hYa).mono ?_)
                 rintro e w5 ⟨v5, rfl, hb5, hw5⟩
                 have hT5 := hTa.below hw5 (by simp; omega)
                 have hN5 := hNa.below hw5 (by simp)
                 have hp5 := hpa.below hw5 (Nat.le_refl _)
                 have hr5 := hb5.read (bytesFn_ok ys)
                 have hb5' : Below wq.heap.size wq w5 := hwA.trans (hw5.mono (by simp))
                 have hz5 := hT5.lt)
              | (go_at_call 11
                 have hNz := hN5.lt
                 refine (F3.out _ w5 D3 c3 0 (by exact hp5) (by exact hr5)).mono ?_
                 rintro e w6 ⟨p6, v6, rfl, hp6, ha6, hw6⟩
                 obtain ⟨D6, c6, rfl⟩ := ints_form hp6
                 unfold escV
                 have hT6 := hT5.below hw6 hz5
                 have hN6 := hN5.below hw6 hNz
                 have hN6z := hN6.lt
                 have hTN : w3.heap.size ≠ wq.heap.size := Nat.ne_of_lt hzT
                 obtain ⟨z0, z1, z2, z3, z4, z5, z6, z7, zf⟩ := esc_cells hN6
                 have hb6' : Below wq.heap.size wq w6 := hb5'.trans (hw6.mono hb5'.size)
                 have fin : Hid (CancRel wq e' l' _ v6 _) := canc_ahead hN6 (Nat.le_refl _) hNz hp6 ha6 hb6')
              | (go_at_call 11
                 refine (F3.out _ w5 D3 c3 0 (by exact hp5) (by exact hr5)).mono ?_
                 rintro e w6 ⟨p6, v6, rfl, hp6, ha6, hw6⟩
                 obtain ⟨D6, c6, rfl⟩ := ints_form hp6
                 unfold escV
                 have hT6 := hT5.below hw6 hz5
                 have hb6' : Below wq.heap.size wq w6 := hb5'.trans (hw6.mono hb5'.size)
                 have fin : Hid (CancRel wq e' l' _ v6 _) := canc_after (hp6.base hb5'.size) (ha6.base hb5'.size) hb6')
              | (go_at_call 11
                 refine (F3.out _ (w5.alloc _) D3 c3 0 (by exact hp5.alloc _) (by exact hr5.below ((Below.refl w5.heap.size w5).alloc (Nat.le_refl _) _) (Nat.le_refl _))).mono ?_
                 rintro e w6 ⟨p6, v6, rfl, hp6, ha6, hw6⟩
                 obtain ⟨D6, c6, rfl⟩ := ints_form hp6
                 unfold escV
                 have hT6 := (hT5.alloc _).below hw6 (by simp; omega)
                 have hN6 := (Held.new w5 33 _).below hw6 (by simp)
                 have hN6z := hN6.lt
                 have hTN : w3.heap.size ≠ w5.heap.size := Nat.ne_of_lt hz5
                 obtain ⟨z0, z1, z2, z3, z4, z5, z6, z7, zf⟩ := esc_cells hN6
                 have hb6' : Below wq.heap.size wq w6 := (hb5'.alloc hb5'.size _).trans (hw6.mono (by have := hb5'.size; simp; omega))
                 have fin : Hid (CancRel wq e' l' _ v6 _) := canc_ahead hN6 hb5'.size (by simp) hp6 ha6 hb6'))
          all_goals (go_wp2_with fail; go_meet; exact fin.out)
        case rest =>
          obtain ⟨T, D6, c6, rfl, hT6, hp6, ha6, hw6⟩ := hcut
          have hbc : Below w.heap.size w wc := hbq.trans (hw6.mono hbq.size)
          have hz6 := hT6.lt
          unfold escC at hT6
          go_wp2_with fail
          refine (bytes_any _ ys _ (HY.out.below hbc (Nat.le_refl _))).mono ?_
          rintro e w7 ⟨v7, rfl, hb7, hw7⟩
          obtain ⟨D7, c7, rfl⟩ := bytes_form hb7
          go_wp2_with fail
          refine (F3.out _ _ none 0 0 (by exact ints_nil _ _) (by exact hb7.read (bytesFn_ok ys))).mono ?_
          rintro e w8 ⟨p8, v8, rfl, hp8, ha8, hw8⟩
          obtain ⟨D8, c8, rfl⟩ := ints_form hp8
          unfold escV
          have hT8 := (hT6.below hw7 hz6).below hw8 (Nat.lt_of_lt_of_le hz6 hw7.size)
          have hz8 := hT8.lt
          obtain ⟨x0, x1, x2, x3, x4, x5, x6, x7, xf⟩ := esc_cells hT8
          have hp68 : Ints w8 0 _ _ := ((hp6.below hw7 (Nat.le_refl _)).below hw8 (Nat.le_refl _)).base (Nat.zero_le _)
          have ha68 : Acts w8 0 _ _ := ((ha6.below hw7 (Nat.le_refl _)).below hw8 (Nat.le_refl _)).base (Nat.zero_le _)
          have b8 : Below w.heap.size w w8 := (hbc.trans (hw7.mono hbc.size)).trans (hw8.mono (Nat.le_trans hbc.size hw7.size))
          go_wp2_with fail
          refine (sameEsc_any e' _ _ 0 0 _ (by exact hp68.alloc _) (by exact (hp8.base (Nat.zero_le _)).alloc _) hle).mono ?_
          rintro e w9 ⟨rfl, hw9⟩
          have ha69 := (ha68.alloc _).below hw9 (Nat.le_refl _)
          have ha89 := ((ha8.base (Nat.zero_le _)).alloc _).below hw9 (Nat.le_refl _)
          have b9 : Below w.heap.size w w9 := (b8.alloc b8.size _).trans (hw9.mono (by have := b8.size; simp; omega))
          clear x0 x1 x2 x3 x4 x5 x6 x7 xf
          go_wp2_with fail
          refine (sameActions_any _ _ l' 0 0 _ (by exact ha69) (by exact ha89) hll hlp).mono ?_
          rintro e w10 ⟨rfl, m10, rfl⟩
          go_wp2_with fail
          refine (awake_any _).mono ?_
          rintro e w11 ⟨rfl, hw11⟩
          go_wp2_with fail
          go_ret
          exact ⟨rfl, (below_drewN b9 m10).trans (hw11.mono (by simpa using b9.size))⟩

theorem cancel_walk (sub : Bool) (v v' : Value) (xs ys : List Int) (w : World) (hv : ReadI w v xs) (hv' : ReadI w v' ys) :
    Calls Try.prog 6 #[v, .bool sub, v'] w (TrueBelow w) := by
  cases sub
  · exact cancel_at 24 false (.inl ⟨rfl, rfl⟩) v v' xs ys w hv hv'
  · exact cancel_at 26 true (.inr ⟨rfl, rfl⟩) v v' xs ys w hv hv'
end Go.Proofs.Ytgpjphecgcfikaa
