/-
  What the statements' own Action answers: some action, with at most three numbers of its own. No condition.
-/
import Derived.Test.YtpcpmeihebgncaaB3
import Derived.Test.YtpcpmeihebgncaaB2
import Derived.Test.YtpcpmeihebgncaaTill
namespace Go.Proofs.Ytpcpmeihebgncaa
open Go.RowKit
set_option maxRecDepth 100000
set_option linter.unusedSimpArgs false

theorem int_info : (Try.prog.info? 3).map (fun i => (i.zero, i.size, i.bytes)) = some (some (.int .i64 0), 1, 8) := by kernel_rfl
theorem rowI : RowT Try.prog 28 3 1 := rowT_mk Try.underlying28 int_info (by decide) rfl (by decide)
theorem act_size : (Try.prog.info? 44).map (·.size) = some 3 := by kernel_rfl
def runesV : Array Value := #[.int .i32 97, .int .i32 233, .int .i32 8, .int .i32 9, .int .i32 10, .int .i32 13, .int .i32 7, .int .i32 65, .int .i32 66, .int .i32 67, .int .i32 68, .int .i32 69, .int .i32 71, .int .i32 72, .int .i32 74, .int .i32 75, .int .i32 76, .int .i32 77, .int .i32 80, .int .i32 64, .int .i32 88, .int .i32 83, .int .i32 84, .int .i32 114, .int .i32 109, .int .i32 100, .int .i32 102, .int .i32 104, .int .i32 108, .int .i32 55, .int .i32 56, .int .i32 99, .int .i32 113]
def parsV : Array Value := #[.int .i64 (-1), .int .i64 0, .int .i64 1, .int .i64 2, .int .i64 3, .int .i64 5, .int .i64 7, .int .i64 25, .int .i64 31, .int .i64 65535, .int .i64 44, .int .i64 4]
theorem runes_at (j : Nat) (h : j < 33) : ∃ r : Int, runesV[j]? = some (.int .i32 r) := by
  have : ∀ j, j < 33 → ∃ r : Int, runesV[j]? = some (.int .i32 r) := by
    intro j hj
    have hs : runesV.size = 33 := rfl
    have hm : ∀ v ∈ runesV, ∃ r : Int, v = .int .i32 r := by simp [runesV]
    obtain ⟨r, e⟩ := hm _ (Array.getElem_mem (by omega : j < runesV.size))
    exact ⟨r, by rw [Array.getElem?_eq_getElem (by omega), e]⟩
  exact this j h
theorem pars_at (j : Nat) (h : j < 12) : ∃ r : Int, parsV[j]? = some (.int .i64 r) := by
  have hs : parsV.size = 12 := rfl
  have hm : ∀ v ∈ parsV, ∃ r : Int, v = .int .i64 r := by simp [parsV]
  obtain ⟨r, e⟩ := hm _ (Array.getElem_mem (by omega : j < parsV.size))
  exact ⟨r, by rw [Array.getElem?_eq_getElem (by omega), e]⟩
def ActionPost (w : World) (e : Ending) (w' : World) : Prop := ∃ (kind r : Int) (PD : Option Addr) (pc : Nat) (xs : List Int), e = .returned (.agg #[.int .i64 kind, .int .i32 r, .slice PD xs.length pc]) ∧ xs.length ≤ 3 ∧ ReadI w' (.slice PD xs.length pc) xs ∧ Below w.heap.size w w'
/-- The action so far: its answer's place, itself, its numbers. -/
structure AnSt (w : World) (kind r : Int) (k : Nat) (v : Value) (xs : List Int) (wr : World) : Prop where
  ans : Held wr w.heap.size 44 #[.int .i64 0, .int .i32 0, .slice none 0 0]
  act : Held wr (w.heap.size + 1) 44 #[.int .i64 kind, .int .i32 r, v]
  own : wr.ownsRow (w.heap.size + 2) 3 1 v k (xs.map (Value.int .i64))
  below : Below w.heap.size w wr
theorem AnSt.len {w : World} {kind r : Int} {k : Nat} {v : Value} {xs : List Int} {wr : World} (h : AnSt w kind r k v xs wr) : xs.length = k := by have := h.own.1; simp at this; omega
def AnRel (w : World) (kind r : Int) (i : Value) (wr : World) : Prop := ∃ (k : Nat) (v : Value) (xs : List Int), i = .int .i64 (k : Int) ∧ k ≤ 3 ∧ AnSt w kind r k v xs wr
theorem amask (z : Int) : ∃ a : Nat, a ≤ 255 ∧ bits .and .i64 z 255 = a := ⟨(z % 256).toNat, by omega, by rw [i64_and255]; omega⟩
theorem atmod (a : Nat) (m : Nat) (hm : 0 < m) : ∃ b : Nat, (a : Int).tmod (m : Int) = b ∧ b < m := ⟨a % m, by rw [Int.tmod_eq_emod_of_nonneg (by omega)]; exact (Int.natCast_emod a m).symm, Nat.mod_lt _ hm⟩

set_option maxHeartbeats 8000000 in
theorem action_any (z : Int) (w : World) : Calls Try.prog 19 #[.int .i64 z] w (ActionPost w) := by
  obtain ⟨A, hA, eA⟩ := amask z
  obtain ⟨A6, e6, h6⟩ := atmod A 6 (by decide)
  have e6' : (A : Int).tmod 6 = (A6 : Int) := e6
  obtain ⟨B1, hB1, eB1⟩ : ∃ a : Nat, a ≤ 1 ∧ bits .and .i64 (z / 256) 1 = a := ⟨((z / 256) % 2).toNat, by omega, by rw [i64_and1]; omega⟩
  obtain ⟨R, hR, eR⟩ := amask (z / 512)
  obtain ⟨J, eJ, hJ⟩ := atmod R 33 (by decide)
  have eJ' : (R : Int).tmod 33 = (J : Int) := eJ
  obtain ⟨N, hN, eN⟩ : ∃ a : Nat, a ≤ 3 ∧ bits .and .i64 (z / 131072) 3 = a := ⟨((z / 131072) % 4).toNat, by omega, by rw [i64_and3]; omega⟩
  have s1 : IntKind.i64.wrap ((A6 : Int) + 1) = (A6 : Int) + 1 := IntWalk.i64_in _ (by omega)
  have s2 : IntKind.i64.wrap ((A6 : Int) + 1 - (B1 : Int)) = (A6 : Int) + 1 - (B1 : Int) := IntWalk.i64_in _ (by omega)
  obtain ⟨r, hr⟩ := runes_at J hJ
  have HRU := Lib.hid hr
  clear hr e6 eJ
  have hJi : (J : Int) < 33 := by omega
  go_enter Try.func19, Try.ntmps19
  go_upto_region 3 with fail
  obtain ⟨kind, hk⟩ : ∃ kind, kind = (A6 : Int) + 1 - (B1 : Int) := ⟨_, rfl⟩
  refine wp_world (fun wq => Held wq w.heap.size 44 #[.int .i64 0, .int .i32 0, .slice none 0 0] ∧ Held wq (w.heap.size + 1) 44 #[.int .i64 kind, .int .i32 0, .slice none 0 0] ∧ Held wq (w.heap.size + 2) 21 runesV ∧ Below w.heap.size w wq) ?_ ?_
  · rw [hk]
    refine ⟨((Held.new w 44 _).alloc _).alloc _, ?_, ?_, start_below w _ _ _⟩
    · have := (Held.new (w.alloc (.cells #[.int .i64 0, .int .i32 0, .slice none 0 0] 44)) 44 #[.int .i64 ((A6 : Int) + 1 - (B1 : Int)), .int .i32 0, .slice none 0 0]).alloc (.cells runesV 21)
      rw [World.size_alloc] at this
      exact this
    · have := Held.new ((w.alloc (.cells #[.int .i64 0, .int .i32 0, .slice none 0 0] 44)).alloc (.cells #[.int .i64 ((A6 : Int) + 1 - (B1 : Int)), .int .i32 0, .slice none 0 0] 44)) 21 runesV
      rw [World.size_alloc, World.size_alloc] at this
      exact this
  rintro wq ⟨h1, h2, h3, bq⟩
  have c3 := h3.cell J
  rw [HRU.out] at c3
  have c2 := h2.cell 1
  have f2 := h2.frozen
  simp only [List.getElem?_toArray, List.getElem?_cons_zero, List.getElem?_cons_succ] at c2
  have z1 := h1.lt
  have z2 := h2.lt
  have z3 := h3.lt
  go_upto_region 4 with fail
  refine wp_world (fun wq => AnSt w kind r 0 (.slice none 0 0) [] wq) ⟨h1.far (p := ⟨w.heap.size + 1, 1, none⟩) (by exact (by omega : w.heap.size ≠ w.heap.size + 1)) _, ?_, World.ownsRow_nil _ _ _ _, bq.setCell (p := ⟨w.heap.size + 1, 1, none⟩) (by exact Nat.le_succ _) _⟩ ?_
  · have := h2.set1 1 (.int .i32 r)
    simpa using this
  clear h1 h2 h3 bq c3 c2 f2 z1 z2 z3 HRU hk s1 s2 eA e6' eB1 eR eJ' hJi
  intro w4 st4
  go_wp2_with fail
  go_loopw [5] (AnRel w kind r) (fun i _ => 3 - (intOf i).toNat)
  case atStart => exact ⟨0, _, [], rfl, by omega, st4⟩
  case round =>
    clear st4
    obtain ⟨k, v, xs, rfl, hk3, st⟩ := hrel
    by_cases hlt : k < N
    · have hki : (k : Int) < (N : Int) := by omega
      have hk2 : k = 0 ∨ k = 1 ∨ k = 2 := by omega
      go_upto_region 7 with fail
      obtain ⟨D0, c0, rfl, _, _⟩ := own_tab st.own
      have HL := Lib.hid st.len
      simp only [List.length_map] at st
      have std : AnSt w kind r k (.slice D0 xs.length c0) xs wr.drew := by
        have hb : Below wr.heap.size wr wr.drew := below_drewN (Below.refl _ _) 1
        exact ⟨st.ans, st.act, own_below st.own hb (Nat.le_refl _), below_drewN st.below 1⟩
      have d2 : wr.drew.cell? ⟨w.heap.size + 1, 2, none⟩ = some (.slice D0 xs.length c0) := std.act.cell 2
      clear st
      have HST := Lib.hid std
      have hz : w.heap.size + 1 < wr.drew.heap.size := std.act.lt
      clear std
      rcases hk2 with rfl | rfl | rfl
      · obtain ⟨Q, hQ, eQ⟩ := amask (z / 524288)
        obtain ⟨j, ej, hj⟩ := atmod Q 12 (by decide)
        have ej' : (Q : Int).tmod 12 = (j : Int) := ej
        clear ej
        obtain ⟨x, hx⟩ := pars_at j hj
        have hji : (j : Int) < 12 := by omega
        have h2 := HST.out.act.alloc (.cells parsV 3)
        have h3 := h2.alloc (.cells #[.int .i64 x] 3)
        have HA3 := Lib.hid ((HST.out.ans.alloc (.cells parsV 3)).alloc (.cells #[.int .i64 x] 3))
        have q2 : (wr.drew.alloc (.cells parsV 3)).cell? ⟨wr.drew.heap.size, j, none⟩ = some (.int .i64 x) := ((Held.new wr.drew 3 parsV).cell j).trans hx
        have b2 : Below wr.drew.heap.size wr.drew ((wr.drew.alloc (.cells parsV 3)).alloc (.cells #[.int .i64 x] 3)) := ((Below.refl _ _).alloc (Nat.le_refl _) _).alloc (by simp) _
        have HO := Lib.hid (own_below HST.out.own b2 (Nat.le_refl _))
        have HS := Lib.hid ((Held.new (wr.drew.alloc (.cells parsV 3)) 3 #[.int .i64 x]).tab (B := 0) (vs := [.int .i64 x]) (Nat.zero_le _)).src
        have zp : wr.drew.heap.size + 2 = ((wr.drew.alloc (.cells parsV 3)).alloc (.cells #[.int .i64 x] 3)).heap.size := by simp
        clear hx
        refine wp_region_till 16 (S := fun w' => w'.cell? ⟨w.heap.size + 1, 2, none⟩ = some (.slice D0 xs.length c0)) (by kernel_rfl) (by exact d2) (fun hH0 => ?_)
        generalize wr.drew = wd at *
        refine wpTill_take (i := 0) (oi := _) (v := .pointer (some ⟨w.heap.size + 1, 2, none⟩)) rfl (by kernel_rfl) (by kernel_rfl) (by kernel_rfl) (by kernel_rfl) (fun _ _ _ h => h) (Or.inl ⟨by rfl, ?_⟩) hH0 ?_
        · intro wv hSw
          try dsimp only at hSw
          go_simp
        change wpTill _ _ _ _ _ _ _ _ (Act.put _ (some 33) (.pointer (some ⟨w.heap.size + 1, 2, none⟩))) _
        simp only [Act.put, List.setIfInBounds_toArray, List.set_cons_zero, List.set_cons_succ]
        refine wpTill_take (i := 1) (oi := _) (v := .slice D0 xs.length c0) rfl (by kernel_rfl) (by kernel_rfl) (by kernel_rfl) (by kernel_rfl) (fun _ _ _ h => h) (Or.inl ⟨by rfl, ?_⟩) hH0 ?_
        · intro wv hSw
          try dsimp only at hSw
          go_simp
        change wpTill _ _ _ _ _ _ _ _ (Act.put _ (some 34) (.slice D0 xs.length c0)) _
        simp only [Act.put, List.setIfInBounds_toArray, List.set_cons_zero, List.set_cons_succ]
        refine wpTill_take (i := 3) (oi := _) (v := .int .i64 z) rfl (by kernel_rfl) (by kernel_rfl) (by kernel_rfl) (by kernel_rfl) (fun _ _ _ h => h) (Or.inl ⟨by rfl, ?_⟩) hH0 ?_
        · intro wv hSw
          try dsimp only at hSw
          go_simp
        change wpTill _ _ _ _ _ _ _ _ (Act.put _ (some 36) (.int .i64 z)) _
        simp only [Act.put, List.setIfInBounds_toArray, List.set_cons_zero, List.set_cons_succ]
        refine wpTill_take (i := 4) (oi := _) (v := .int .i64 ((0 : Nat) : Int)) rfl (by kernel_rfl) (by kernel_rfl) (by kernel_rfl) (by kernel_rfl) (fun _ _ _ h => h) (Or.inl ⟨by rfl, ?_⟩) hH0 ?_
        · intro wv hSw
          try dsimp only at hSw
          go_simp
        change wpTill _ _ _ _ _ _ _ _ (Act.put _ (some 37) (.int .i64 ((0 : Nat) : Int))) _
        simp only [Act.put, List.setIfInBounds_toArray, List.set_cons_zero, List.set_cons_succ]
        refine wpTill_take (i := 5) (oi := _) (v := .int .i64 0) rfl (by kernel_rfl) (by kernel_rfl) (by kernel_rfl) (by kernel_rfl) (fun _ _ _ h => h) (Or.inl ⟨by rfl, ?_⟩) hH0 ?_
        · intro wv hSw
          try dsimp only at hSw
          go_simp
          all_goals rfl
        change wpTill _ _ _ _ _ _ _ _ (Act.put _ (some 38) (.int .i64 0)) _
        simp only [Act.put, List.setIfInBounds_toArray, List.set_cons_zero, List.set_cons_succ]
        refine wpTill_take (i := 6) (oi := _) (v := .int .i64 19) rfl (by kernel_rfl) (by kernel_rfl) (by kernel_rfl) (by kernel_rfl) (fun _ _ _ h => h) (Or.inl ⟨by rfl, ?_⟩) hH0 ?_
        · intro wv hSw
          try dsimp only at hSw
          go_simp
          all_goals rfl
        change wpTill _ _ _ _ _ _ _ _ (Act.put _ (some 39) (.int .i64 19)) _
        simp only [Act.put, List.setIfInBounds_toArray, List.set_cons_zero, List.set_cons_succ]
        refine wpTill_take (i := 7) (oi := _) (v := .int .u64 19) rfl (by kernel_rfl) (by kernel_rfl) (by kernel_rfl) (by kernel_rfl) (fun _ _ _ h => h) (Or.inl ⟨by rfl, ?_⟩) hH0 ?_
        · intro wv hSw
          try dsimp only at hSw
          go_simp
          all_goals rfl
        change wpTill _ _ _ _ _ _ _ _ (Act.put _ (some 40) (.int .u64 19)) _
        simp only [Act.put, List.setIfInBounds_toArray, List.set_cons_zero, List.set_cons_succ]
        refine wpTill_take (i := 8) (oi := _) (v := .int .i64 (z / 524288)) rfl (by kernel_rfl) (by kernel_rfl) (by kernel_rfl) (by kernel_rfl) (fun _ _ _ h => h) (Or.inl ⟨by rfl, ?_⟩) hH0 ?_
        · intro wv hSw
          try dsimp only at hSw
          go_simp
        change wpTill _ _ _ _ _ _ _ _ (Act.put _ (some 41) (.int .i64 (z / 524288))) _
        simp only [Act.put, List.setIfInBounds_toArray, List.set_cons_zero, List.set_cons_succ]
        refine wpTill_take (i := 9) (oi := _) (v := .int .i64 (Q : Int)) rfl (by kernel_rfl) (by kernel_rfl) (by kernel_rfl) (by kernel_rfl) (fun _ _ _ h => h) (Or.inl ⟨by rfl, ?_⟩) hH0 ?_
        · intro wv hSw
          try dsimp only at hSw
          go_simp
        change wpTill _ _ _ _ _ _ _ _ (Act.put _ (some 42) (.int .i64 (Q : Int))) _
        simp only [Act.put, List.setIfInBounds_toArray, List.set_cons_zero, List.set_cons_succ]
        refine wpTill_take (i := 10) (oi := _) (v := .int .i64 (j : Int)) rfl (by kernel_rfl) (by kernel_rfl) (by kernel_rfl) (by kernel_rfl) (fun _ _ _ h => h) (Or.inl ⟨by rfl, ?_⟩) hH0 ?_
        · intro wv hSw
          try dsimp only at hSw
          go_simp
        change wpTill _ _ _ _ _ _ _ _ (Act.put _ (some 43) (.int .i64 (j : Int))) _
        simp only [Act.put, List.setIfInBounds_toArray, List.set_cons_zero, List.set_cons_succ]
        refine wpTill_one (i := 2) (o := _) (by kernel_rfl) rfl (fun K hK => ?_)
        go_simp
        refine hK.out _ _ (fun _ => by exact h2.cell 2) (fun hH1 => ?_)
        replace hH1 := hH1 (by decide)
        clear hK K
        try simp only [Act.put, List.setIfInBounds_toArray, List.set_cons_zero, List.set_cons_succ]
        change wpTill _ _ _ _ _ _ _ _ _ (wd.alloc (.cells parsV 3))
        replace hH1 : (wd.alloc (.cells parsV 3)).cell? ⟨w.heap.size + 1, 2, none⟩ = some (.slice D0 xs.length c0) := hH1
        generalize wd.alloc (.cells parsV 3) = wp at *
        refine wpTill_take (i := 11) (oi := _) (v := .pointer (some ⟨wd.heap.size, j, none⟩)) rfl (by kernel_rfl) (by kernel_rfl) (by kernel_rfl) (by kernel_rfl) (fun _ _ _ h => h) (Or.inl ⟨by rfl, ?_⟩) hH1 ?_
        · intro wv hSw
          try dsimp only at hSw
          go_simp
        change wpTill _ _ _ _ _ _ _ _ (Act.put _ (some 44) (.pointer (some ⟨wd.heap.size, j, none⟩))) _
        simp only [Act.put, List.setIfInBounds_toArray, List.set_cons_zero, List.set_cons_succ]
        refine wpTill_one (i := 12) (o := _) (by kernel_rfl) rfl (fun K hK => ?_)
        go_simp
        refine hK.out _ _ (fun _ => by exact h2.cell 2) (fun hH2 => ?_)
        replace hH2 := hH2 (by decide)
        clear hK K
        try simp only [Act.put, List.setIfInBounds_toArray, List.set_cons_zero, List.set_cons_succ]
        refine wpTill_one (i := 13) (o := _) (by kernel_rfl) rfl (fun K hK => ?_)
        go_simp
        refine hK.out _ _ (fun _ => by exact h3.cell 2) (fun hH3 => ?_)
        replace hH3 := hH3 (by decide)
        clear hK K
        try simp only [Act.put, List.setIfInBounds_toArray, List.set_cons_zero, List.set_cons_succ]
        refine wpTill_one (i := 14) (o := _) (by kernel_rfl) rfl (fun K hK => ?_)
        refine step_append_src _ rfl (.tmp 34) (.tmp 46) 28 rfl rowI (w.heap.size + 2) 0 1 1 _ _ (xs.map (Value.int .i64)) [.int .i64 x] rfl rfl HO.out HS.out rfl (by simp [Value.oneCell']) (by omega) (by omega) ?_
        rintro v4 w4 ⟨ho4, hb4, hh4⟩
        obtain ⟨D4, c4, rfl, _, _⟩ := own_tab ho4
        have h4 := h3.below hb4 (by omega)
        have n4 := HA3.out.below hb4 (by omega)
        have y4 := h4.cell 2
        have f4 := h4.frozen
        have z4 := h4.lt
        have AN : Hid (AnSt w kind r 1 (.slice D4 (xs.length + 1) c4) (xs ++ [x]) (w4.setCell ⟨w.heap.size + 1, 2, none⟩ (.slice D4 (xs.length + 1) c4))) := by
          have hs4 := h4.set1 2 (.slice D4 (xs.length + 1) c4)
          refine ⟨n4.far (p := ⟨w.heap.size + 1, 2, none⟩) (by exact (by omega : w.heap.size ≠ w.heap.size + 1)) _, by simpa using hs4, ?_, ?_⟩
          · have hl : (List.map (Value.int .i64) xs ++ [Value.int .i64 x]).length = xs.length + 1 := by simp
            rw [hl] at ho4
            rw [List.map_append]
            exact own_far (p := ⟨w.heap.size + 1, 2, none⟩) ho4 (by exact (by omega : w.heap.size + 1 < w.heap.size + 2)) _
          · exact ((HST.out.below.trans (b2.mono HST.out.below.size)).trans (hb4.mono (by omega))).setCell (p := ⟨w.heap.size + 1, 2, none⟩) (by exact Nat.le_succ _) _
        refine hK.out _ _ (fun _ => by exact y4) (fun hH4 => ?_)
        replace hH4 := hH4 (by decide)
        clear hK K
        try simp only [Act.put, List.setIfInBounds_toArray, List.set_cons_zero, List.set_cons_succ]
        refine wpTill_take (i := 15) (oi := _) (v := .pointer (some ⟨w.heap.size + 1, 2, none⟩)) rfl (by kernel_rfl) (by kernel_rfl) (by kernel_rfl) (by kernel_rfl) (fun _ _ _ h => h) (Or.inl ⟨by rfl, ?_⟩) hH4 ?_
        · intro wv hSw
          try dsimp only at hSw
          go_simp
        change wpTill _ _ _ _ _ _ _ _ (Act.put _ (some 48) (.pointer (some ⟨w.heap.size + 1, 2, none⟩))) _
        simp only [Act.put, List.setIfInBounds_toArray, List.set_cons_zero, List.set_cons_succ]
        refine wpTill_one (i := 16) (o := _) (by kernel_rfl) rfl (fun K hK => ?_)
        go_simp
        refine hK.out _ _ (fun h => absurd rfl h) (fun hH5 => ?_)
        clear hK K
        try simp only [Act.put, List.setIfInBounds_toArray, List.set_cons_zero, List.set_cons_succ]
        refine wpTill_done (by kernel_rfl) ?_ _
        clear hH0 hH1 hH2 hH3 hH4 hH5
        go_wp2_with fail
        go_roundw
        case rel => exact ⟨1, _, xs ++ [x], by go_num, by omega, AN.out⟩
        case measure => simp [intOf]
      · obtain ⟨Q, hQ, eQ⟩ := amask (z / 4194304)
        obtain ⟨j, ej, hj⟩ := atmod Q 12 (by decide)
        have ej' : (Q : Int).tmod 12 = (j : Int) := ej
        clear ej
        obtain ⟨x, hx⟩ := pars_at j hj
        have hji : (j : Int) < 12 := by omega
        have h2 := HST.out.act.alloc (.cells parsV 3)
        have h3 := h2.alloc (.cells #[.int .i64 x] 3)
        have HA3 := Lib.hid ((HST.out.ans.alloc (.cells parsV 3)).alloc (.cells #[.int .i64 x] 3))
        have q2 : (wr.drew.alloc (.cells parsV 3)).cell? ⟨wr.drew.heap.size, j, none⟩ = some (.int .i64 x) := ((Held.new wr.drew 3 parsV).cell j).trans hx
        have b2 : Below wr.drew.heap.size wr.drew ((wr.drew.alloc (.cells parsV 3)).alloc (.cells #[.int .i64 x] 3)) := ((Below.refl _ _).alloc (Nat.le_refl _) _).alloc (by simp) _
        have HO := Lib.hid (own_below HST.out.own b2 (Nat.le_refl _))
        have HS := Lib.hid ((Held.new (wr.drew.alloc (.cells parsV 3)) 3 #[.int .i64 x]).tab (B := 0) (vs := [.int .i64 x]) (Nat.zero_le _)).src
        have zp : wr.drew.heap.size + 2 = ((wr.drew.alloc (.cells parsV 3)).alloc (.cells #[.int .i64 x] 3)).heap.size := by simp
        clear hx
        refine wp_region_till 16 (S := fun w' => w'.cell? ⟨w.heap.size + 1, 2, none⟩ = some (.slice D0 xs.length c0)) (by kernel_rfl) (by exact d2) (fun hH0 => ?_)
        generalize wr.drew = wd at *
        refine wpTill_take (i := 0) (oi := _) (v := .pointer (some ⟨w.heap.size + 1, 2, none⟩)) rfl (by kernel_rfl) (by kernel_rfl) (by kernel_rfl) (by kernel_rfl) (fun _ _ _ h => h) (Or.inl ⟨by rfl, ?_⟩) hH0 ?_
        · intro wv hSw
          try dsimp only at hSw
          go_simp
        change wpTill _ _ _ _ _ _ _ _ (Act.put _ (some 33) (.pointer (some ⟨w.heap.size + 1, 2, none⟩))) _
        simp only [Act.put, List.setIfInBounds_toArray, List.set_cons_zero, List.set_cons_succ]
        refine wpTill_take (i := 1) (oi := _) (v := .slice D0 xs.length c0) rfl (by kernel_rfl) (by kernel_rfl) (by kernel_rfl) (by kernel_rfl) (fun _ _ _ h => h) (Or.inl ⟨by rfl, ?_⟩) hH0 ?_
        · intro wv hSw
          try dsimp only at hSw
          go_simp
        change wpTill _ _ _ _ _ _ _ _ (Act.put _ (some 34) (.slice D0 xs.length c0)) _
        simp only [Act.put, List.setIfInBounds_toArray, List.set_cons_zero, List.set_cons_succ]
        refine wpTill_take (i := 3) (oi := _) (v := .int .i64 z) rfl (by kernel_rfl) (by kernel_rfl) (by kernel_rfl) (by kernel_rfl) (fun _ _ _ h => h) (Or.inl ⟨by rfl, ?_⟩) hH0 ?_
        · intro wv hSw
          try dsimp only at hSw
          go_simp
        change wpTill _ _ _ _ _ _ _ _ (Act.put _ (some 36) (.int .i64 z)) _
        simp only [Act.put, List.setIfInBounds_toArray, List.set_cons_zero, List.set_cons_succ]
        refine wpTill_take (i := 4) (oi := _) (v := .int .i64 ((1 : Nat) : Int)) rfl (by kernel_rfl) (by kernel_rfl) (by kernel_rfl) (by kernel_rfl) (fun _ _ _ h => h) (Or.inl ⟨by rfl, ?_⟩) hH0 ?_
        · intro wv hSw
          try dsimp only at hSw
          go_simp
        change wpTill _ _ _ _ _ _ _ _ (Act.put _ (some 37) (.int .i64 ((1 : Nat) : Int))) _
        simp only [Act.put, List.setIfInBounds_toArray, List.set_cons_zero, List.set_cons_succ]
        refine wpTill_take (i := 5) (oi := _) (v := .int .i64 3) rfl (by kernel_rfl) (by kernel_rfl) (by kernel_rfl) (by kernel_rfl) (fun _ _ _ h => h) (Or.inl ⟨by rfl, ?_⟩) hH0 ?_
        · intro wv hSw
          try dsimp only at hSw
          go_simp
          all_goals rfl
        change wpTill _ _ _ _ _ _ _ _ (Act.put _ (some 38) (.int .i64 3)) _
        simp only [Act.put, List.setIfInBounds_toArray, List.set_cons_zero, List.set_cons_succ]
        refine wpTill_take (i := 6) (oi := _) (v := .int .i64 22) rfl (by kernel_rfl) (by kernel_rfl) (by kernel_rfl) (by kernel_rfl) (fun _ _ _ h => h) (Or.inl ⟨by rfl, ?_⟩) hH0 ?_
        · intro wv hSw
          try dsimp only at hSw
          go_simp
          all_goals rfl
        change wpTill _ _ _ _ _ _ _ _ (Act.put _ (some 39) (.int .i64 22)) _
        simp only [Act.put, List.setIfInBounds_toArray, List.set_cons_zero, List.set_cons_succ]
        refine wpTill_take (i := 7) (oi := _) (v := .int .u64 22) rfl (by kernel_rfl) (by kernel_rfl) (by kernel_rfl) (by kernel_rfl) (fun _ _ _ h => h) (Or.inl ⟨by rfl, ?_⟩) hH0 ?_
        · intro wv hSw
          try dsimp only at hSw
          go_simp
          all_goals rfl
        change wpTill _ _ _ _ _ _ _ _ (Act.put _ (some 40) (.int .u64 22)) _
        simp only [Act.put, List.setIfInBounds_toArray, List.set_cons_zero, List.set_cons_succ]
        refine wpTill_take (i := 8) (oi := _) (v := .int .i64 (z / 4194304)) rfl (by kernel_rfl) (by kernel_rfl) (by kernel_rfl) (by kernel_rfl) (fun _ _ _ h => h) (Or.inl ⟨by rfl, ?_⟩) hH0 ?_
        · intro wv hSw
          try dsimp only at hSw
          go_simp
        change wpTill _ _ _ _ _ _ _ _ (Act.put _ (some 41) (.int .i64 (z / 4194304))) _
        simp only [Act.put, List.setIfInBounds_toArray, List.set_cons_zero, List.set_cons_succ]
        refine wpTill_take (i := 9) (oi := _) (v := .int .i64 (Q : Int)) rfl (by kernel_rfl) (by kernel_rfl) (by kernel_rfl) (by kernel_rfl) (fun _ _ _ h => h) (Or.inl ⟨by rfl, ?_⟩) hH0 ?_
        · intro wv hSw
          try dsimp only at hSw
          go_simp
        change wpTill _ _ _ _ _ _ _ _ (Act.put _ (some 42) (.int .i64 (Q : Int))) _
        simp only [Act.put, List.setIfInBounds_toArray, List.set_cons_zero, List.set_cons_succ]
        refine wpTill_take (i := 10) (oi := _) (v := .int .i64 (j : Int)) rfl (by kernel_rfl) (by kernel_rfl) (by kernel_rfl) (by kernel_rfl) (fun _ _ _ h => h) (Or.inl ⟨by rfl, ?_⟩) hH0 ?_
        · intro wv hSw
          try dsimp only at hSw
          go_simp
        change wpTill _ _ _ _ _ _ _ _ (Act.put _ (some 43) (.int .i64 (j : Int))) _
        simp only [Act.put, List.setIfInBounds_toArray, List.set_cons_zero, List.set_cons_succ]
        refine wpTill_one (i := 2) (o := _) (by kernel_rfl) rfl (fun K hK => ?_)
        go_simp
        refine hK.out _ _ (fun _ => by exact h2.cell 2) (fun hH1 => ?_)
        replace hH1 := hH1 (by decide)
        clear hK K
        try simp only [Act.put, List.setIfInBounds_toArray, List.set_cons_zero, List.set_cons_succ]
        change wpTill _ _ _ _ _ _ _ _ _ (wd.alloc (.cells parsV 3))
        replace hH1 : (wd.alloc (.cells parsV 3)).cell? ⟨w.heap.size + 1, 2, none⟩ = some (.slice D0 xs.length c0) := hH1
        generalize wd.alloc (.cells parsV 3) = wp at *
        refine wpTill_take (i := 11) (oi := _) (v := .pointer (some ⟨wd.heap.size, j, none⟩)) rfl (by kernel_rfl) (by kernel_rfl) (by kernel_rfl) (by kernel_rfl) (fun _ _ _ h => h) (Or.inl ⟨by rfl, ?_⟩) hH1 ?_
        · intro wv hSw
          try dsimp only at hSw
          go_simp
        change wpTill _ _ _ _ _ _ _ _ (Act.put _ (some 44) (.pointer (some ⟨wd.heap.size, j, none⟩))) _
        simp only [Act.put, List.setIfInBounds_toArray, List.set_cons_zero, List.set_cons_succ]
        refine wpTill_one (i := 12) (o := _) (by kernel_rfl) rfl (fun K hK => ?_)
        go_simp
        refine hK.out _ _ (fun _ => by exact h2.cell 2) (fun hH2 => ?_)
        replace hH2 := hH2 (by decide)
        clear hK K
        try simp only [Act.put, List.setIfInBounds_toArray, List.set_cons_zero, List.set_cons_succ]
        refine wpTill_one (i := 13) (o := _) (by kernel_rfl) rfl (fun K hK => ?_)
        go_simp
        refine hK.out _ _ (fun _ => by exact h3.cell 2) (fun hH3 => ?_)
        replace hH3 := hH3 (by decide)
        clear hK K
        try simp only [Act.put, List.setIfInBounds_toArray, List.set_cons_zero, List.set_cons_succ]
        refine wpTill_one (i := 14) (o := _) (by kernel_rfl) rfl (fun K hK => ?_)
        refine step_append_src _ rfl (.tmp 34) (.tmp 46) 28 rfl rowI (w.heap.size + 2) 1 1 1 _ _ (xs.map (Value.int .i64)) [.int .i64 x] rfl rfl HO.out HS.out rfl (by simp [Value.oneCell']) (by omega) (by omega) ?_
        rintro v4 w4 ⟨ho4, hb4, hh4⟩
        obtain ⟨D4, c4, rfl, _, _⟩ := own_tab ho4
        have h4 := h3.below hb4 (by omega)
        have n4 := HA3.out.below hb4 (by omega)
        have y4 := h4.cell 2
        have f4 := h4.frozen
        have z4 := h4.lt
        have AN : Hid (AnSt w kind r 2 (.slice D4 (xs.length + 1) c4) (xs ++ [x]) (w4.setCell ⟨w.heap.size + 1, 2, none⟩ (.slice D4 (xs.length + 1) c4))) := by
          have hs4 := h4.set1 2 (.slice D4 (xs.length + 1) c4)
          refine ⟨n4.far (p := ⟨w.heap.size + 1, 2, none⟩) (by exact (by omega : w.heap.size ≠ w.heap.size + 1)) _, by simpa using hs4, ?_, ?_⟩
          · have hl : (List.map (Value.int .i64) xs ++ [Value.int .i64 x]).length = xs.length + 1 := by simp
            rw [hl] at ho4
            rw [List.map_append]
            exact own_far (p := ⟨w.heap.size + 1, 2, none⟩) ho4 (by exact (by omega : w.heap.size + 1 < w.heap.size + 2)) _
          · exact ((HST.out.below.trans (b2.mono HST.out.below.size)).trans (hb4.mono (by omega))).setCell (p := ⟨w.heap.size + 1, 2, none⟩) (by exact Nat.le_succ _) _
        refine hK.out _ _ (fun _ => by exact y4) (fun hH4 => ?_)
        replace hH4 := hH4 (by decide)
        clear hK K
        try simp only [Act.put, List.setIfInBounds_toArray, List.set_cons_zero, List.set_cons_succ]
        refine wpTill_take (i := 15) (oi := _) (v := .pointer (some ⟨w.heap.size + 1, 2, none⟩)) rfl (by kernel_rfl) (by kernel_rfl) (by kernel_rfl) (by kernel_rfl) (fun _ _ _ h => h) (Or.inl ⟨by rfl, ?_⟩) hH4 ?_
        · intro wv hSw
          try dsimp only at hSw
          go_simp
        change wpTill _ _ _ _ _ _ _ _ (Act.put _ (some 48) (.pointer (some ⟨w.heap.size + 1, 2, none⟩))) _
        simp only [Act.put, List.setIfInBounds_toArray, List.set_cons_zero, List.set_cons_succ]
        refine wpTill_one (i := 16) (o := _) (by kernel_rfl) rfl (fun K hK => ?_)
        go_simp
        refine hK.out _ _ (fun h => absurd rfl h) (fun hH5 => ?_)
        clear hK K
        try simp only [Act.put, List.setIfInBounds_toArray, List.set_cons_zero, List.set_cons_succ]
        refine wpTill_done (by kernel_rfl) ?_ _
        clear hH0 hH1 hH2 hH3 hH4 hH5
        go_wp2_with fail
        go_roundw
        case rel => exact ⟨2, _, xs ++ [x], by go_num, by omega, AN.out⟩
        case measure => simp [intOf]
      · obtain ⟨Q, hQ, eQ⟩ := amask (z / 33554432)
        obtain ⟨j, ej, hj⟩ := atmod Q 12 (by decide)
        have ej' : (Q : Int).tmod 12 = (j : Int) := ej
        clear ej
        obtain ⟨x, hx⟩ := pars_at j hj
        have hji : (j : Int) < 12 := by omega
        have h2 := HST.out.act.alloc (.cells parsV 3)
        have h3 := h2.alloc (.cells #[.int .i64 x] 3)
        have HA3 := Lib.hid ((HST.out.ans.alloc (.cells parsV 3)).alloc (.cells #[.int .i64 x] 3))
        have q2 : (wr.drew.alloc (.cells parsV 3)).cell? ⟨wr.drew.heap.size, j, none⟩ = some (.int .i64 x) := ((Held.new wr.drew 3 parsV).cell j).trans hx
        have b2 : Below wr.drew.heap.size wr.drew ((wr.drew.alloc (.cells parsV 3)).alloc (.cells #[.int .i64 x] 3)) := ((Below.refl _ _).alloc (Nat.le_refl _) _).alloc (by simp) _
        have HO := Lib.hid (own_below HST.out.own b2 (Nat.le_refl _))
        have HS := Lib.hid ((Held.new (wr.drew.alloc (.cells parsV 3)) 3 #[.int .i64 x]).tab (B := 0) (vs := [.int .i64 x]) (Nat.zero_le _)).src
        have zp : wr.drew.heap.size + 2 = ((wr.drew.alloc (.cells parsV 3)).alloc (.cells #[.int .i64 x] 3)).heap.size := by simp
        clear hx
        refine wp_region_till 16 (S := fun w' => w'.cell? ⟨w.heap.size + 1, 2, none⟩ = some (.slice D0 xs.length c0)) (by kernel_rfl) (by exact d2) (fun hH0 => ?_)
        generalize wr.drew = wd at *
        refine wpTill_take (i := 0) (oi := _) (v := .pointer (some ⟨w.heap.size + 1, 2, none⟩)) rfl (by kernel_rfl) (by kernel_rfl) (by kernel_rfl) (by kernel_rfl) (fun _ _ _ h => h) (Or.inl ⟨by rfl, ?_⟩) hH0 ?_
        · intro wv hSw
          try dsimp only at hSw
          go_simp
        change wpTill _ _ _ _ _ _ _ _ (Act.put _ (some 33) (.pointer (some ⟨w.heap.size + 1, 2, none⟩))) _
        simp only [Act.put, List.setIfInBounds_toArray, List.set_cons_zero, List.set_cons_succ]
        refine wpTill_take (i := 1) (oi := _) (v := .slice D0 xs.length c0) rfl (by kernel_rfl) (by kernel_rfl) (by kernel_rfl) (by kernel_rfl) (fun _ _ _ h => h) (Or.inl ⟨by rfl, ?_⟩) hH0 ?_
        · intro wv hSw
          try dsimp only at hSw
          go_simp
        change wpTill _ _ _ _ _ _ _ _ (Act.put _ (some 34) (.slice D0 xs.length c0)) _
        simp only [Act.put, List.setIfInBounds_toArray, List.set_cons_zero, List.set_cons_succ]
        refine wpTill_take (i := 3) (oi := _) (v := .int .i64 z) rfl (by kernel_rfl) (by kernel_rfl) (by kernel_rfl) (by kernel_rfl) (fun _ _ _ h => h) (Or.inl ⟨by rfl, ?_⟩) hH0 ?_
        · intro wv hSw
          try dsimp only at hSw
          go_simp
        change wpTill _ _ _ _ _ _ _ _ (Act.put _ (some 36) (.int .i64 z)) _
        simp only [Act.put, List.setIfInBounds_toArray, List.set_cons_zero, List.set_cons_succ]
        refine wpTill_take (i := 4) (oi := _) (v := .int .i64 ((2 : Nat) : Int)) rfl (by kernel_rfl) (by kernel_rfl) (by kernel_rfl) (by kernel_rfl) (fun _ _ _ h => h) (Or.inl ⟨by rfl, ?_⟩) hH0 ?_
        · intro wv hSw
          try dsimp only at hSw
          go_simp
        change wpTill _ _ _ _ _ _ _ _ (Act.put _ (some 37) (.int .i64 ((2 : Nat) : Int))) _
        simp only [Act.put, List.setIfInBounds_toArray, List.set_cons_zero, List.set_cons_succ]
        refine wpTill_take (i := 5) (oi := _) (v := .int .i64 6) rfl (by kernel_rfl) (by kernel_rfl) (by kernel_rfl) (by kernel_rfl) (fun _ _ _ h => h) (Or.inl ⟨by rfl, ?_⟩) hH0 ?_
        · intro wv hSw
          try dsimp only at hSw
          go_simp
          all_goals rfl
        change wpTill _ _ _ _ _ _ _ _ (Act.put _ (some 38) (.int .i64 6)) _
        simp only [Act.put, List.setIfInBounds_toArray, List.set_cons_zero, List.set_cons_succ]
        refine wpTill_take (i := 6) (oi := _) (v := .int .i64 25) rfl (by kernel_rfl) (by kernel_rfl) (by kernel_rfl) (by kernel_rfl) (fun _ _ _ h => h) (Or.inl ⟨by rfl, ?_⟩) hH0 ?_
        · intro wv hSw
          try dsimp only at hSw
          go_simp
          all_goals rfl
        change wpTill _ _ _ _ _ _ _ _ (Act.put _ (some 39) (.int .i64 25)) _
        simp only [Act.put, List.setIfInBounds_toArray, List.set_cons_zero, List.set_cons_succ]
        refine wpTill_take (i := 7) (oi := _) (v := .int .u64 25) rfl (by kernel_rfl) (by kernel_rfl) (by kernel_rfl) (by kernel_rfl) (fun _ _ _ h => h) (Or.inl ⟨by rfl, ?_⟩) hH0 ?_
        · intro wv hSw
          try dsimp only at hSw
          go_simp
          all_goals rfl
        change wpTill _ _ _ _ _ _ _ _ (Act.put _ (some 40) (.int .u64 25)) _
        simp only [Act.put, List.setIfInBounds_toArray, List.set_cons_zero, List.set_cons_succ]
        refine wpTill_take (i := 8) (oi := _) (v := .int .i64 (z / 33554432)) rfl (by kernel_rfl) (by kernel_rfl) (by kernel_rfl) (by kernel_rfl) (fun _ _ _ h => h) (Or.inl ⟨by rfl, ?_⟩) hH0 ?_
        · intro wv hSw
          try dsimp only at hSw
          go_simp
        change wpTill _ _ _ _ _ _ _ _ (Act.put _ (some 41) (.int .i64 (z / 33554432))) _
        simp only [Act.put, List.setIfInBounds_toArray, List.set_cons_zero, List.set_cons_succ]
        refine wpTill_take (i := 9) (oi := _) (v := .int .i64 (Q : Int)) rfl (by kernel_rfl) (by kernel_rfl) (by kernel_rfl) (by kernel_rfl) (fun _ _ _ h => h) (Or.inl ⟨by rfl, ?_⟩) hH0 ?_
        · intro wv hSw
          try dsimp only at hSw
          go_simp
        change wpTill _ _ _ _ _ _ _ _ (Act.put _ (some 42) (.int .i64 (Q : Int))) _
        simp only [Act.put, List.setIfInBounds_toArray, List.set_cons_zero, List.set_cons_succ]
        refine wpTill_take (i := 10) (oi := _) (v := .int .i64 (j : Int)) rfl (by kernel_rfl) (by kernel_rfl) (by kernel_rfl) (by kernel_rfl) (fun _ _ _ h => h) (Or.inl ⟨by rfl, ?_⟩) hH0 ?_
        · intro wv hSw
          try dsimp only at hSw
          go_simp
        change wpTill _ _ _ _ _ _ _ _ (Act.put _ (some 43) (.int .i64 (j : Int))) _
        simp only [Act.put, List.setIfInBounds_toArray, List.set_cons_zero, List.set_cons_succ]
        refine wpTill_one (i := 2) (o := _) (by kernel_rfl) rfl (fun K hK => ?_)
        go_simp
        refine hK.out _ _ (fun _ => by exact h2.cell 2) (fun hH1 => ?_)
        replace hH1 := hH1 (by decide)
        clear hK K
        try simp only [Act.put, List.setIfInBounds_toArray, List.set_cons_zero, List.set_cons_succ]
        change wpTill _ _ _ _ _ _ _ _ _ (wd.alloc (.cells parsV 3))
        replace hH1 : (wd.alloc (.cells parsV 3)).cell? ⟨w.heap.size + 1, 2, none⟩ = some (.slice D0 xs.length c0) := hH1
        generalize wd.alloc (.cells parsV 3) = wp at *
        refine wpTill_take (i := 11) (oi := _) (v := .pointer (some ⟨wd.heap.size, j, none⟩)) rfl (by kernel_rfl) (by kernel_rfl) (by kernel_rfl) (by kernel_rfl) (fun _ _ _ h => h) (Or.inl ⟨by rfl, ?_⟩) hH1 ?_
        · intro wv hSw
          try dsimp only at hSw
          go_simp
        change wpTill _ _ _ _ _ _ _ _ (Act.put _ (some 44) (.pointer (some ⟨wd.heap.size, j, none⟩))) _
        simp only [Act.put, List.setIfInBounds_toArray, List.set_cons_zero, List.set_cons_succ]
        refine wpTill_one (i := 12) (o := _) (by kernel_rfl) rfl (fun K hK => ?_)
        go_simp
        refine hK.out _ _ (fun _ => by exact h2.cell 2) (fun hH2 => ?_)
        replace hH2 := hH2 (by decide)
        clear hK K
        try simp only [Act.put, List.setIfInBounds_toArray, List.set_cons_zero, List.set_cons_succ]
        refine wpTill_one (i := 13) (o := _) (by kernel_rfl) rfl (fun K hK => ?_)
        go_simp
        refine hK.out _ _ (fun _ => by exact h3.cell 2) (fun hH3 => ?_)
        replace hH3 := hH3 (by decide)
        clear hK K
        try simp only [Act.put, List.setIfInBounds_toArray, List.set_cons_zero, List.set_cons_succ]
        refine wpTill_one (i := 14) (o := _) (by kernel_rfl) rfl (fun K hK => ?_)
        refine step_append_src _ rfl (.tmp 34) (.tmp 46) 28 rfl rowI (w.heap.size + 2) 2 1 1 _ _ (xs.map (Value.int .i64)) [.int .i64 x] rfl rfl HO.out HS.out rfl (by simp [Value.oneCell']) (by omega) (by omega) ?_
        rintro v4 w4 ⟨ho4, hb4, hh4⟩
        obtain ⟨D4, c4, rfl, _, _⟩ := own_tab ho4
        have h4 := h3.below hb4 (by omega)
        have n4 := HA3.out.below hb4 (by omega)
        have y4 := h4.cell 2
        have f4 := h4.frozen
        have z4 := h4.lt
        have AN : Hid (AnSt w kind r 3 (.slice D4 (xs.length + 1) c4) (xs ++ [x]) (w4.setCell ⟨w.heap.size + 1, 2, none⟩ (.slice D4 (xs.length + 1) c4))) := by
          have hs4 := h4.set1 2 (.slice D4 (xs.length + 1) c4)
          refine ⟨n4.far (p := ⟨w.heap.size + 1, 2, none⟩) (by exact (by omega : w.heap.size ≠ w.heap.size + 1)) _, by simpa using hs4, ?_, ?_⟩
          · have hl : (List.map (Value.int .i64) xs ++ [Value.int .i64 x]).length = xs.length + 1 := by simp
            rw [hl] at ho4
            rw [List.map_append]
            exact own_far (p := ⟨w.heap.size + 1, 2, none⟩) ho4 (by exact (by omega : w.heap.size + 1 < w.heap.size + 2)) _
          · exact ((HST.out.below.trans (b2.mono HST.out.below.size)).trans (hb4.mono (by omega))).setCell (p := ⟨w.heap.size + 1, 2, none⟩) (by exact Nat.le_succ _) _
        refine hK.out _ _ (fun _ => by exact y4) (fun hH4 => ?_)
        replace hH4 := hH4 (by decide)
        clear hK K
        try simp only [Act.put, List.setIfInBounds_toArray, List.set_cons_zero, List.set_cons_succ]
        refine wpTill_take (i := 15) (oi := _) (v := .pointer (some ⟨w.heap.size + 1, 2, none⟩)) rfl (by kernel_rfl) (by kernel_rfl) (by kernel_rfl) (by kernel_rfl) (fun _ _ _ h => h) (Or.inl ⟨by rfl, ?_⟩) hH4 ?_
        · intro wv hSw
          try dsimp only at hSw
          go_simp
        change wpTill _ _ _ _ _ _ _ _ (Act.put _ (some 48) (.pointer (some ⟨w.heap.size + 1, 2, none⟩))) _
        simp only [Act.put, List.setIfInBounds_toArray, List.set_cons_zero, List.set_cons_succ]
        refine wpTill_one (i := 16) (o := _) (by kernel_rfl) rfl (fun K hK => ?_)
        go_simp
        refine hK.out _ _ (fun h => absurd rfl h) (fun hH5 => ?_)
        clear hK K
        try simp only [Act.put, List.setIfInBounds_toArray, List.set_cons_zero, List.set_cons_succ]
        refine wpTill_done (by kernel_rfl) ?_ _
        clear hH0 hH1 hH2 hH3 hH4 hH5
        go_wp2_with fail
        go_roundw
        case rel => exact ⟨3, _, xs ++ [x], by go_num, by omega, AN.out⟩
        case measure => simp [intOf]
    · have hki : ¬ (k : Int) < (N : Int) := by omega
      obtain ⟨D0, c0, rfl, hc0, ht0⟩ := own_tab st.own
      have HL := Lib.hid st.len
      simp only [List.length_map] at st hc0
      have y0 := st.act.cell 0
      have y1 := st.act.cell 1
      have y2 := st.act.cell 2
      have x0 := st.ans.cell 0
      have x1 := st.ans.cell 1
      have x2 := st.ans.cell 2
      have xf := st.ans.frozen
      have zz := st.ans.lt
      simp only [List.getElem?_toArray, List.getElem?_cons_zero, List.getElem?_cons_succ] at y0 y1 y2 x0 x1 x2
      have hf := ((st.ans.set1 0 (.int .i64 kind)).set1 1 (.int .i32 r)).set1 2 (.slice D0 xs.length c0)
      simp only [List.setIfInBounds_toArray, List.set_cons_zero, List.set_cons_succ] at hf
      have HF := Lib.hid hf
      have HBE := Lib.hid (((st.below.setCell (p := ⟨w.heap.size, 0, none⟩) (Nat.le_refl _) (.int .i64 kind)).setCell (p := ⟨w.heap.size, 1, none⟩) (Nat.le_refl _) (.int .i32 r)).setCell (p := ⟨w.heap.size, 2, none⟩) (Nat.le_refl _) (.slice D0 xs.length c0))
      have HRD : Hid (ReadI (((wr.setCell ⟨w.heap.size, 0, none⟩ (.int .i64 kind)).setCell ⟨w.heap.size, 1, none⟩ (.int .i32 r)).setCell ⟨w.heap.size, 2, none⟩ (.slice D0 xs.length c0)) (.slice D0 xs.length c0) xs) := by
        refine ⟨D0, c0, rfl, fun q hq => ?_⟩
        obtain ⟨b, off, e, h0, h1, _, h2⟩ := ht0 q (by simpa using hq)
        have hne : b ≠ w.heap.size := by omega
        refine ⟨b, off, xs[q], e, by simpa using h1, by rw [List.getElem?_eq_getElem hq], ?_⟩
        rw [cell_far (p := ⟨w.heap.size, 2, none⟩) hne, cell_far (p := ⟨w.heap.size, 1, none⟩) hne, cell_far (p := ⟨w.heap.size, 0, none⟩) hne, h2]
        simp
      clear st hf ht0
      go_wp2_with fail
      refine bodyPost_ret (v := .agg #[.int .i64 kind, .int .i32 r, .slice D0 xs.length c0]) (results_cell_row (P := Try.prog) Try.results19 _ _ w.heap.size 44 _ (0, 0) _ rfl HF.out Try.underlying44 rfl act_size) rfl ?_
      exact ⟨kind, r, D0, c0, xs, rfl, by have := HL.out; omega, HRD.out, HBE.out⟩
end Go.Proofs.Ytpcpmeihebgncaa
