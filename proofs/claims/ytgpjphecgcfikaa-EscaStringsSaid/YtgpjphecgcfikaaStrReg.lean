/-
  The statement that ends a string: whatever the order of its operations, nothing is begun behind it, and nothing is asked.
-/
import Derived.Test.YtgpjphecgcfikaaRuns
namespace Go.Proofs.Ytgpjphecgcfikaa
open Go.RowKit

def opOf : Nat → Op
  | 0 => .load 33 (.tmp 10)
  | 1 => .buildSlice 36 1 #[(0, .const (.int .u8 7))]
  | 2 => .buildSlice 36 1 #[(0, .const (.int .u8 24))]
  | 3 => .buildSlice 36 1 #[(0, .const (.int .u8 26))]
  | 4 => .buildSlice 36 2 #[(0, .const (.int .u8 27)), (1, .const (.int .u8 92))]
  | 5 => .buildSlice 36 3 #[(0, .const (.int .u8 27)), (1, .const (.int .u8 120)), (2, .const (.int .u8 7))]
  | 6 => .buildSlice 36 3 #[(0, .const (.int .u8 27)), (1, .const (.int .u8 27)), (2, .const (.int .u8 92))]
  | 7 => .buildSlice 44 6 #[(0, .tmp 68), (1, .tmp 69), (2, .tmp 70), (3, .tmp 71), (4, .tmp 72), (5, .tmp 73)]
  | 8 => .move (.tmp 2)
  | 9 => .binOp .and 3 (.tmp 75) (.const (.int .i64 255)) 3
  | 10 => .binOp .rem 3 (.tmp 76) (.const (.int .i64 6)) 3
  | 11 => .indexAddr 44 (.tmp 74) (.tmp 77)
  | 12 => .load 36 (.tmp 78)
  | 13 => .call { callee := .value (.func 11), args := #[.tmp 67, .tmp 79], argTypes := #[33, 36] }
  | 14 => .move (.tmp 80)
  | 15 => .extract (.tmp 66) 0
  | 16 => .extract (.tmp 66) 1
  | 17 => .alloc 33
  | 18 => .store 33 (.tmp 12) (.tmp 81)
  | _ => .assign (.tmp 82)
/-- What operation i waits for. -/
def depOf : Nat → List Nat
  | 7 => [1, 2, 3, 4, 5, 6] | 9 => [8] | 10 => [9] | 11 => [7, 10] | 12 => [11] | 13 => [0, 12] | 14 => [13] | 15 => [14] | 16 => [14] | 18 => [0, 1, 2, 3, 4, 5, 6, 7, 8, 9, 10, 11, 12, 13, 14, 15, 17] | 19 => [0, 1, 2, 3, 4, 5, 6, 7, 8, 9, 10, 11, 12, 13, 14, 15, 16, 17, 18] | _ => []
def depsB (o : Oper) : List Nat := (o.after.toList.filter (Region.binds .any)).map (·.on)
structure IsOp (ops : Array Oper) (i : Nat) (o : Oper) : Prop where
  at' : ops[i]? = some o
  op : o.op = opOf i
  dst : o.dst = if i = 18 then none else some (slotOf i)
  guard : o.guard = none
  deps : ∀ d, d ∈ depsB o ↔ d ∈ depOf i
theorem deps_iff {o : Oper} {i : Nat} (h1 : (depsB o).all (fun d => (depOf i).contains d) = true) (h2 : (depOf i).all (fun d => (depsB o).contains d) = true) : ∀ d, d ∈ depsB o ↔ d ∈ depOf i := fun d =>
  ⟨fun h => by simpa using List.all_eq_true.1 h1 d h, fun h => by simpa using List.all_eq_true.1 h2 d h⟩
theorem readB_form {w : World} {v : Value} {bs : List Int} (h : ReadB w v bs) : ∃ D n c, v = .slice D n c := by
  obtain ⟨D, c, rfl, _⟩ := h
  exact ⟨_, _, _, rfl⟩
theorem dsts_nodup : dsts.Nodup := by decide
theorem fin_next {wq wk wn : World} {D0 : Option Addr} {c0 : Nat} {fin : Int} {qf i : Nat} {L : Array Bool} {f : Nat → Value} {v : Value} {a0 : Act} {o : Oper} (hF : StF wq D0 c0 fin qf L f wk) (hd : o.dst = if i = 18 then none else some (slotOf i)) (hi : i < 20) (h18 : i ≠ 18) (hoff : L.getD i true = false)
    (hw : Below wk.heap.size wk wn) (hsame : i = 16 ∨ i = 19 → wn = wk) (hnew : SF wq.heap.size D0 c0 fin qf i (L.getD 18 false) v wn) :
    ∃ f', (putL a0 dsts f).put o.dst v = putL a0 dsts f' ∧ StF wq D0 c0 fin qf (L.setIfInBounds i true) f' wn := by
  rw [hd, if_neg h18]
  exact ⟨upd f (slotOf i) v, putL_put dsts f _ v dsts_nodup (slot_mem i hi h18) a0, hF.next hi h18 hoff hw hsame hnew⟩

theorem str_region {id : Nat} {ops : Array Oper} {Q : Exit → Act → World → Prop} {a0 : Act} {wq : World} {S qf : Nat} {D0 : Option Addr} {c0 : Nat} {fin : Int} (hsize : ops.size = 20) (hops : ∀ i, i < 20 → ∃ o, IsOp ops i o)
    (hsz : a0.tmps.size = 118) (h10 : a0.eval (.tmp 10) = .pointer (some ⟨S, 0, none⟩)) (h2 : a0.eval (.tmp 2) = .int .i64 fin) (hqf : bits .and .i64 fin 255 = (qf : Int))
    (hS : Held wq S 33 #[.int .i64 3, .int .i64 0, .int .i64 0, .int .i64 0, .slice D0 0 c0, .int .i64 0, .bool false, .bool false]) (hpS : Ints wq 0 (.slice D0 0 c0) [])
    (hend : ∀ f w, (∃ (T : Nat) (D : Option Addr) (c : Nat), f 12 = .pointer (some ⟨T, 0, none⟩) ∧ Held w T 33 (zeroC D c) ∧ Ints w wq.heap.size (.slice D 0 c) []) → (∃ Dv cv, f 13 = .slice Dv 0 cv) → Below wq.heap.size wq w → Q .normal (putL a0 dsts f) w) :
    (Code.region id ops true).wp Try.prog Q a0 wq := by
  have hlt : ∀ d ∈ dsts, d < a0.tmps.size := by rw [hsz]; decide
  refine wp_region_slots (by kernel_rfl) (StF wq D0 c0 fin qf) dsts hlt ?_ ?_ ?_
  · refine ⟨by simp [hsize], (Below.refl _ wq).drew, fun h => ?_, fun j hj hj18 h => ?_⟩
    · exfalso
      simp [Array.getD_eq_getD_getElem?, hsize] at h
    · exfalso
      simp [Array.getD_eq_getD_getElem?, hsize, hj] at h
  · intro L f wk hF i o hmc
    obtain ⟨ho, hoff, hdeps⟩ := hmc
    have hi : i < 20 := by rw [← hsize]; exact (Array.getElem?_eq_some_iff.1 ho).1
    obtain ⟨o', hop⟩ := hops i hi
    obtain rfl : o = o' := Option.some.inj (ho.symm.trans hop.at')
    have hdep : ∀ d, d ∈ depOf i → L.getD d false = true := by
      intro d hd
      have h1 := (hop.deps d).2 hd
      unfold depsB at h1
      obtain ⟨e, he, rfl⟩ := List.mem_map.1 h1
      obtain ⟨he1, he2⟩ := List.mem_filter.1 he
      exact hdeps e (by simpa using he1) he2
    clear hdeps
    have he : ∀ d, d ∈ dsts → (putL a0 dsts f).eval (.tmp d) = f d := fun d hd => putL_eval_in dsts f d hd _ hlt
    have e10 : (putL a0 dsts f).eval (.tmp 10) = .pointer (some ⟨S, 0, none⟩) := (putL_eval_out dsts f 10 (by decide) _ hlt).trans h10
    have e2 : (putL a0 dsts f).eval (.tmp 2) = .int .i64 fin := (putL_eval_out dsts f 2 (by decide) _ hlt).trans h2
    have hSk := hS.below hF.below hS.lt
    have hpk := hpS.below hF.below (Nat.le_refl _)
    have hoffk : ∀ j, j < 18 → j ≠ 16 → L.getD j true = false → L.getD 18 false = false := by
      intro j hj hj16 hoj
      cases h18 : L.getD 18 false with
      | false => rfl
      | true =>
        have := hF.last h18 j hj hj16
        have hjs : j < L.size := by rw [hF.size]; omega
        rw [Array.getD_eq_getD_getElem?, Array.getElem?_eq_getElem hjs] at this hoj
        simp only [Option.getD_some] at this hoj
        rw [this] at hoj
        cases hoj
    have al : ∀ ob, Below wk.heap.size wk (wk.alloc ob) := fun ob => (Below.refl _ wk).alloc (Nat.le_refl _) ob
    have lit : ∀ (bs : List Int) (n : Nat), bs.length = n → okBytes bs = true → ReadB (wk.alloc (.cells (u8s bs).toArray 5)) (.slice (some ⟨wk.heap.size, 0, none⟩) n n) bs := fun bs n hn hb => readB_new wk bs _ n n (0, 0) hn (u8s_at hb)
    have hi20 : i = 0 ∨ i = 1 ∨ i = 2 ∨ i = 3 ∨ i = 4 ∨ i = 5 ∨ i = 6 ∨ i = 7 ∨ i = 8 ∨ i = 9 ∨ i = 10 ∨ i = 11 ∨ i = 12 ∨ i = 13 ∨ i = 14 ∨ i = 15 ∨ i = 16 ∨ i = 17 ∨ i = 18 ∨ i = 19 := by omega
    rcases hi20 with rfl | rfl | rfl | rfl | rfl | rfl | rfl | rfl | rfl | rfl | rfl | rfl | rfl | rfl | rfl | rfl | rfl | rfl | rfl | rfl
    · exact wpOp_val ho hop.guard (run_0 hop.op e10 hSk) (fin_next hF hop.dst hi (by decide) hoff (Below.refl _ _) (fun _ => rfl) rfl)
    · exact wpOp_val ho hop.guard (run_lit1 7 hop.op rfl) (fin_next hF hop.dst hi (by decide) hoff (al _) (fun h => by omega) fun _ => lit [7] 1 rfl (by decide))
    · exact wpOp_val ho hop.guard (run_lit1 24 hop.op rfl) (fin_next hF hop.dst hi (by decide) hoff (al _) (fun h => by omega) fun _ => lit [24] 1 rfl (by decide))
    · exact wpOp_val ho hop.guard (run_lit1 26 hop.op rfl) (fin_next hF hop.dst hi (by decide) hoff (al _) (fun h => by omega) fun _ => lit [26] 1 rfl (by decide))
    · exact wpOp_val ho hop.guard (run_lit2 27 92 hop.op fun _ => rfl) (fin_next hF hop.dst hi (by decide) hoff (al _) (fun h => by omega) fun _ => lit [27, 92] 2 rfl (by decide))
    · exact wpOp_val ho hop.guard (run_lit3 27 120 7 hop.op fun _ => rfl) (fin_next hF hop.dst hi (by decide) hoff (al _) (fun h => by omega) fun _ => lit [27, 120, 7] 3 rfl (by decide))
    · exact wpOp_val ho hop.guard (run_lit3 27 27 92 hop.op fun _ => rfl) (fin_next hF hop.dst hi (by decide) hoff (al _) (fun h => by omega) fun _ => lit [27, 27, 92] 3 rfl (by decide))
    · -- the row of the ends
      have h18 := hoffk 7 (by decide) (by decide) hoff
      have g1 := hF.facts 1 (by decide) (by decide) (hdep 1 (by decide)) h18
      have g2 := hF.facts 2 (by decide) (by decide) (hdep 2 (by decide)) h18
      have g3 := hF.facts 3 (by decide) (by decide) (hdep 3 (by decide)) h18
      have g4 := hF.facts 4 (by decide) (by decide) (hdep 4 (by decide)) h18
      have g5 := hF.facts 5 (by decide) (by decide) (hdep 5 (by decide)) h18
      have g6 := hF.facts 6 (by decide) (by decide) (hdep 6 (by decide)) h18
      obtain ⟨A0, n0, k0, q0⟩ := readB_form g1
      obtain ⟨A1, n1, k1, q1⟩ := readB_form g2
      obtain ⟨A2, n2, k2, q2⟩ := readB_form g3
      obtain ⟨A3, n3, k3, q3⟩ := readB_form g4
      obtain ⟨A4, n4, k4, q4⟩ := readB_form g5
      obtain ⟨A5, n5, k5, q5⟩ := readB_form g6
      rw [q0] at g1
      rw [q1] at g2
      rw [q2] at g3
      rw [q3] at g4
      rw [q4] at g5
      rw [q5] at g6
      refine wpOp_val ho hop.guard (run_7 hop.op ((he 68 (by decide)).trans q0) ((he 69 (by decide)).trans q1) ((he 70 (by decide)).trans q2) ((he 71 (by decide)).trans q3) ((he 72 (by decide)).trans q4) ((he 73 (by decide)).trans q5)) (fin_next hF hop.dst hi (by decide) hoff (al _) (fun h => by omega) fun _ => ⟨wk.heap.size, rfl, fun k hk => ?_⟩)
      have hnew := Held.new wk 36 #[.slice A0 n0 k0, .slice A1 n1 k1, .slice A2 n2 k2, .slice A3 n3 k3, .slice A4 n4 k4, .slice A5 n5 k5]
      have hk6 : k = 0 ∨ k = 1 ∨ k = 2 ∨ k = 3 ∨ k = 4 ∨ k = 5 := by omega
      rcases hk6 with rfl | rfl | rfl | rfl | rfl | rfl
      · exact ⟨_, _, _, _, (hnew.cell 0).trans rfl, rfl, g1.below (al _) (Nat.le_refl _)⟩
      · exact ⟨_, _, _, _, (hnew.cell 1).trans rfl, rfl, g2.below (al _) (Nat.le_refl _)⟩
      · exact ⟨_, _, _, _, (hnew.cell 2).trans rfl, rfl, g3.below (al _) (Nat.le_refl _)⟩
      · exact ⟨_, _, _, _, (hnew.cell 3).trans rfl, rfl, g4.below (al _) (Nat.le_refl _)⟩
      · exact ⟨_, _, _, _, (hnew.cell 4).trans rfl, rfl, g5.below (al _) (Nat.le_refl _)⟩
      · exact ⟨_, _, _, _, (hnew.cell 5).trans rfl, rfl, g6.below (al _) (Nat.le_refl _)⟩
    · exact wpOp_val ho hop.guard (run_move 2 _ hop.op e2) (fin_next hF hop.dst hi (by decide) hoff (Below.refl _ _) (fun _ => rfl) rfl)
    · have g := hF.facts 8 (by decide) (by decide) (hdep 8 (by decide))
      exact wpOp_val ho hop.guard (run_9 fin qf hqf hop.op ((he 75 (by decide)).trans g) rfl) (fin_next hF hop.dst hi (by decide) hoff (Below.refl _ _) (fun _ => rfl) rfl)
    · have g := hF.facts 9 (by decide) (by decide) (hdep 9 (by decide))
      exact wpOp_val ho hop.guard (run_10 qf hop.op ((he 76 (by decide)).trans g) rfl) (fin_next hF hop.dst hi (by decide) hoff (Below.refl _ _) (fun _ => rfl) rfl)
    · have h18 := hoffk 11 (by decide) (by decide) hoff
      obtain ⟨T, g1, g2⟩ := hF.facts 7 (by decide) (by decide) (hdep 7 (by decide)) h18
      have g3 := hF.facts 10 (by decide) (by decide) (hdep 10 (by decide))
      exact wpOp_val ho hop.guard (run_11 T (qf % 6) (Nat.mod_lt _ (by decide)) hop.op ((he 74 (by decide)).trans g1) ((he 77 (by decide)).trans g3)) (fin_next hF hop.dst hi (by decide) hoff (Below.refl _ _) (fun _ => rfl) fun _ => ⟨T, rfl, g2 _ (Nat.mod_lt _ (by decide))⟩)
    · have h18 := hoffk 12 (by decide) (by decide) hoff
      obtain ⟨T, g1, A, n, c, bs, g2, g3, g4⟩ := hF.facts 11 (by decide) (by decide) (hdep 11 (by decide)) h18
      exact wpOp_val ho hop.guard (run_12 T (qf % 6) A n c hop.op ((he 78 (by decide)).trans g1) g2) (fin_next hF hop.dst hi (by decide) hoff (Below.refl _ _) (fun _ => rfl) fun _ => ⟨bs, g3, g4⟩)
    · have h18 := hoffk 13 (by decide) (by decide) hoff
      have g0 := hF.facts 0 (by decide) (by decide) (hdep 0 (by decide))
      obtain ⟨bs, g1, g2⟩ := hF.facts 12 (by decide) (by decide) (hdep 12 (by decide)) h18
      obtain ⟨bs', m1, m2, m3, m4, _⟩ := ends_all (qf % 6) (Nat.mod_lt _ (by decide))
      obtain rfl : bs = bs' := Option.some.inj (g1.symm.trans m1)
      have hcall := feed_any E.str bs (.slice D0 0 c0) (f 79) 0 wk hpk E.str_ok g2 (by omega)
      rw [m2, m3] at hcall
      refine wpOp_call ho hop.guard (run_13 (strV D0 c0) (f 79) hop.op ((he 67 (by decide)).trans g0) (he 79 (by decide)) rfl) (hcall.mono ?_)
      intro x w' hx
      obtain ⟨D, c, v, rfl, hp, ha, hb⟩ := zero_of hx
      obtain ⟨Dv, cv, rfl⟩ := acts_form ha
      exact ⟨_, rfl, fin_next hF hop.dst hi (by decide) hoff hb (fun h => by omega) ⟨D, c, Dv, cv, rfl, fun _ => hp.base hF.below.size⟩⟩
    · obtain ⟨D, c, Dv, cv, g1, g2⟩ := hF.facts 13 (by decide) (by decide) (hdep 13 (by decide))
      exact wpOp_val ho hop.guard (run_move 80 _ hop.op ((he 80 (by decide)).trans g1)) (fin_next hF hop.dst hi (by decide) hoff (Below.refl _ _) (fun _ => rfl) ⟨D, c, Dv, cv, rfl, g2⟩)
    · obtain ⟨D, c, Dv, cv, g1, g2⟩ := hF.facts 14 (by decide) (by decide) (hdep 14 (by decide))
      exact wpOp_val ho hop.guard (run_ext0 _ _ hop.op ((he 66 (by decide)).trans g1)) (fin_next hF hop.dst hi (by decide) hoff (Below.refl _ _) (fun _ => rfl) ⟨D, c, rfl, g2⟩)
    · obtain ⟨D, c, Dv, cv, g1, g2⟩ := hF.facts 14 (by decide) (by decide) (hdep 14 (by decide))
      exact wpOp_val ho hop.guard (run_ext1 _ _ hop.op ((he 66 (by decide)).trans g1)) (fin_next hF hop.dst hi (by decide) hoff (Below.refl _ _) (fun _ => rfl) ⟨Dv, cv, rfl⟩)
    · have h18 := hoffk 17 (by decide) (by decide) hoff
      exact wpOp_val ho hop.guard (run_17 hop.op) (fin_next hF hop.dst hi (by decide) hoff (al _) (fun h => by omega) ⟨fun _ => ⟨wk.heap.size, _, _, _, _, _, _, _, _, rfl, hF.below.size, Held.new _ _ _⟩, fun h => by rw [h18] at h; cases h⟩)
    · have hall : ∀ j, j < 18 → j ≠ 16 → L.getD j false = true := fun j hj hj16 => hdep j (by
        have hj : j = 0 ∨ j = 1 ∨ j = 2 ∨ j = 3 ∨ j = 4 ∨ j = 5 ∨ j = 6 ∨ j = 7 ∨ j = 8 ∨ j = 9 ∨ j = 10 ∨ j = 11 ∨ j = 12 ∨ j = 13 ∨ j = 14 ∨ j = 15 ∨ j = 17 := by omega
        rcases hj with rfl | rfl | rfl | rfl | rfl | rfl | rfl | rfl | rfl | rfl | rfl | rfl | rfl | rfl | rfl | rfl | rfl <;> decide)
      have h18 : L.getD 18 false = false := by
        have hjs : 18 < L.size := by rw [hF.size]; decide
        rw [Array.getD_eq_getD_getElem?, Array.getElem?_eq_getElem hjs] at hoff ⊢
        exact hoff
      obtain ⟨D, c, g1, g2⟩ := hF.facts 15 (by decide) (by decide) (hall 15 (by decide) (by decide))
      obtain ⟨N, z0, z1, z2, z3, z4, z5, z6, z7, g3, g4, g5⟩ := (hF.facts 17 (by decide) (by decide) (hall 17 (by decide) (by decide))).1 h18
      have hIn := g2 h18
      have hne : (Value.slice D 0 c).ownBlock ≠ some N := by
        intro hb
        rcases hIn.2 with ⟨hn, _⟩ | ⟨g, cap, cur, hv, _, hh, _⟩
        · simp only [Value.slice.injEq] at hn
          obtain ⟨rfl, _, _⟩ := hn
          simp [Value.ownBlock] at hb
        · simp only [Value.slice.injEq] at hv
          obtain ⟨rfl, _, _⟩ := hv
          simp only [Value.ownBlock, Option.some.injEq] at hb
          subst hb
          unfold Held at g5
          rw [hh] at g5
          simp at g5
      refine wpOp_skip ho hop.guard (by rw [hop.dst, if_pos rfl]) (run_18 hop.op ((he 12 (by decide)).trans g3) ((he 81 (by decide)).trans g1) g5) ⟨f, rfl, hF.stored hoff hall (below_set8 (Below.refl _ _) g4 _ _ _ _ _ _ _ _) ⟨fun h => (by cases h), fun _ => ⟨N, D, c, g3, g5.set8 _ _ _ _ _ _ _ _, ?_⟩⟩⟩
      exact (((((((hIn.set hne _).set hne _).set hne _).set hne _).set hne _).set hne _).set hne _).set hne _
    · obtain ⟨Dv, cv, g1⟩ := hF.facts 16 (by decide) (by decide) (hdep 16 (by decide))
      exact wpOp_val ho hop.guard (run_19 _ hop.op ((he 82 (by decide)).trans g1)) (fin_next hF hop.dst hi (by decide) hoff (Below.refl _ _) (fun _ => rfl) ⟨Dv, cv, rfl⟩)
  · intro L f wk hF hno
    have key : ∀ i, i < 20 → (∀ d, d ∈ depOf i → L.getD d false = true) → L.getD i false = true := by
      intro i hi hd
      cases hl : L.getD i false with
      | true => rfl
      | false =>
        obtain ⟨o, hop⟩ := hops i hi
        have his : i < L.size := by rw [hF.size]; exact hi
        refine absurd ⟨hop.at', ?_, ?_⟩ (hno i o)
        · rw [Array.getD_eq_getD_getElem?, Array.getElem?_eq_getElem his] at hl ⊢
          exact hl
        · intro e he hb
          refine hd e.on ((hop.deps e.on).1 ?_)
          exact List.mem_map.2 ⟨e, List.mem_filter.2 ⟨by simpa using he, hb⟩, rfl⟩
    have nod : ∀ i, depOf i = [] → ∀ d, d ∈ depOf i → L.getD d false = true := fun i h d hd => by rw [h] at hd; cases hd
    have l0 := key 0 (by decide) (nod 0 rfl)
    have l1 := key 1 (by decide) (nod 1 rfl)
    have l2 := key 2 (by decide) (nod 2 rfl)
    have l3 := key 3 (by decide) (nod 3 rfl)
    have l4 := key 4 (by decide) (nod 4 rfl)
    have l5 := key 5 (by decide) (nod 5 rfl)
    have l6 := key 6 (by decide) (nod 6 rfl)
    have l8 := key 8 (by decide) (nod 8 rfl)
    have l17 := key 17 (by decide) (nod 17 rfl)
    have l7 := key 7 (by decide) (by
      intro d hd
      simp only [depOf, List.mem_cons, List.not_mem_nil, or_false] at hd
      rcases hd with rfl | rfl | rfl | rfl | rfl | rfl <;> assumption)
    have l9 := key 9 (by decide) (by
      intro d hd
      simp only [depOf, List.mem_cons, List.not_mem_nil, or_false] at hd
      rcases hd with rfl <;> assumption)
    have l10 := key 10 (by decide) (by
      intro d hd
      simp only [depOf, List.mem_cons, List.not_mem_nil, or_false] at hd
      rcases hd with rfl <;> assumption)
    have l11 := key 11 (by decide) (by
      intro d hd
      simp only [depOf, List.mem_cons, List.not_mem_nil, or_false] at hd
      rcases hd with rfl | rfl <;> assumption)
    have l12 := key 12 (by decide) (by
      intro d hd
      simp only [depOf, List.mem_cons, List.not_mem_nil, or_false] at hd
      rcases hd with rfl <;> assumption)
    have l13 := key 13 (by decide) (by
      intro d hd
      simp only [depOf, List.mem_cons, List.not_mem_nil, or_false] at hd
      rcases hd with rfl | rfl <;> assumption)
    have l14 := key 14 (by decide) (by
      intro d hd
      simp only [depOf, List.mem_cons, List.not_mem_nil, or_false] at hd
      rcases hd with rfl <;> assumption)
    have l15 := key 15 (by decide) (by
      intro d hd
      simp only [depOf, List.mem_cons, List.not_mem_nil, or_false] at hd
      rcases hd with rfl <;> assumption)
    have l16 := key 16 (by decide) (by
      intro d hd
      simp only [depOf, List.mem_cons, List.not_mem_nil, or_false] at hd
      rcases hd with rfl <;> assumption)
    have l18 := key 18 (by decide) (by
      intro d hd
      simp only [depOf, List.mem_cons, List.not_mem_nil, or_false] at hd
      rcases hd with rfl | rfl | rfl | rfl | rfl | rfl | rfl | rfl | rfl | rfl | rfl | rfl | rfl | rfl | rfl | rfl | rfl <;> assumption)
    have l19 := key 19 (by decide) (by
      intro d hd
      simp only [depOf, List.mem_cons, List.not_mem_nil, or_false] at hd
      rcases hd with rfl | rfl | rfl | rfl | rfl | rfl | rfl | rfl | rfl | rfl | rfl | rfl | rfl | rfl | rfl | rfl | rfl | rfl | rfl <;> assumption)
    have f17 := hF.facts 17 (by decide) (by decide) l17
    have f19 := hF.facts 19 (by decide) (by decide) l19
    exact hend f wk (f17.2 l18) f19 hF.below
end Go.Proofs.Ytgpjphecgcfikaa
