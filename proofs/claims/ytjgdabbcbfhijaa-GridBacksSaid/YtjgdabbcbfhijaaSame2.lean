/-
  That Same of package grid says no of screens whose first rows begin with other signs. Conditions: their numbers are the same; as many rows, at most a thousand, of at most a thousand and one cells.
-/
import Derived.Test.YtjgdabbcbfhijaaSame
namespace Go.Proofs.Ytjgdabbcbfhijaa
open Go.RowKit
set_option maxRecDepth 100000 in
set_option maxHeartbeats 4000000 in
theorem same_false (p : Nm) (D E D2 E2 : Option Addr) (n c m d c2 m2 d2 : Nat) (x y : C) (l r : List C) (L M : List (List C)) (w : World) (h1 : Lines 0 w D ((x :: l) :: L)) (h2 : Lines 0 w D2 ((y :: r) :: M)) (hL : L.length + 1 = n) (hn : n ≤ 1000) (hr : r.length = l.length) (hne : ¬ x.r = y.r) (hl : l.length ≤ 1000) :
    Calls Try.prog 25 #[gv p (.slice D n c) (.slice E m d), gv p (.slice D2 n c2) (.slice E2 m2 d2)] w (BoolPost false w) := by
  have HR : Hid (∀ w', Below w.heap.size w w' → Calls Try.prog 33 #[.slice D n c, .slice D2 n c2] w' (Quiet false w')) := fun w' hb => by
    rw [← hL]
    exact sameLines_false D D2 c c2 x y l r L M w' (h1.below hb (Nat.le_refl _)) (h2.below hb (Nat.le_refl _)) (by omega) hr hne hl
  clear h1 h2 hr hne hl hL hn
  unfold gv gcs
  go_enter Try.func25, Try.ntmps25
  go_wp2_with fail
  refine wp_world (fun wq => Box wq w.heap.size p (.slice D n c) (.slice E m d) ∧ Box wq (w.heap.size + 1) p (.slice D2 n c2) (.slice E2 m2 d2) ∧ Below w.heap.size w wq) ⟨?_, ?_, ?_⟩ ?_
  · exact (Box.new w p _ _).alloc _
  · have := Box.new (w.alloc (.cells (gcs p (.slice D n c) (.slice E m d)) 25)) p (.slice D2 n c2) (.slice E2 m2 d2)
    rw [World.size_alloc] at this
    exact this
  · exact ((Below.refl _ _).alloc (Nat.le_refl _) _).alloc (by simp) _
  rintro wq ⟨q1, q2, bq⟩
  have q1d : Box wq.drew w.heap.size p (.slice D n c) (.slice E m d) := q1
  have q2d : Box wq.drew (w.heap.size + 1) p (.slice D2 n c2) (.slice E2 m2 d2) := q2
  have bqd : Below w.heap.size w wq.drew := below_drewN bq 1
  clear q1 q2 bq
  have S0 := two_S q1d.cells q2d.cells
  have qn := eql_nums p
  have qf := eql_flags p
  have gn := guard_nums p
  have gf := guard_flags p
  refine wp_region_held_drew (S := (fun w' => w'.cell? ⟨w.heap.size, 0, none⟩ = some (.int .i64 p.w) ∧ w'.cell? ⟨w.heap.size, 1, none⟩ = some (.int .i64 p.h) ∧ w'.cell? ⟨w.heap.size, 2, none⟩ = some (.int .i64 p.x) ∧ w'.cell? ⟨w.heap.size, 3, none⟩ = some (.int .i64 p.y) ∧ w'.cell? ⟨w.heap.size, 4, none⟩ = some (.bool p.wrap) ∧ w'.cell? ⟨w.heap.size, 5, none⟩ = some (.int .i64 p.a) ∧ w'.cell? ⟨w.heap.size, 6, none⟩ = some (.int .i64 p.top) ∧ w'.cell? ⟨w.heap.size, 7, none⟩ = some (.int .i64 p.bottom) ∧ w'.cell? ⟨w.heap.size, 8, none⟩ = some (.int .i64 p.sx) ∧ w'.cell? ⟨w.heap.size, 9, none⟩ = some (.int .i64 p.sy) ∧ w'.cell? ⟨w.heap.size, 10, none⟩ = some (.int .i64 p.sa) ∧ w'.cell? ⟨w.heap.size, 11, none⟩ = some (.bool p.noWrap) ∧ w'.cell? ⟨w.heap.size, 12, none⟩ = some (.bool p.hidden) ∧ w'.cell? ⟨w.heap.size, 13, none⟩ = some (.slice D n c) ∧ w'.cell? ⟨w.heap.size, 14, none⟩ = some (.slice E m d) ∧ w'.cell? ⟨w.heap.size + 1, 0, none⟩ = some (.int .i64 p.w) ∧ w'.cell? ⟨w.heap.size + 1, 1, none⟩ = some (.int .i64 p.h) ∧ w'.cell? ⟨w.heap.size + 1, 2, none⟩ = some (.int .i64 p.x) ∧ w'.cell? ⟨w.heap.size + 1, 3, none⟩ = some (.int .i64 p.y) ∧ w'.cell? ⟨w.heap.size + 1, 4, none⟩ = some (.bool p.wrap) ∧ w'.cell? ⟨w.heap.size + 1, 5, none⟩ = some (.int .i64 p.a) ∧ w'.cell? ⟨w.heap.size + 1, 6, none⟩ = some (.int .i64 p.top) ∧ w'.cell? ⟨w.heap.size + 1, 7, none⟩ = some (.int .i64 p.bottom) ∧ w'.cell? ⟨w.heap.size + 1, 8, none⟩ = some (.int .i64 p.sx) ∧ w'.cell? ⟨w.heap.size + 1, 9, none⟩ = some (.int .i64 p.sy) ∧ w'.cell? ⟨w.heap.size + 1, 10, none⟩ = some (.int .i64 p.sa) ∧ w'.cell? ⟨w.heap.size + 1, 11, none⟩ = some (.bool p.noWrap) ∧ w'.cell? ⟨w.heap.size + 1, 12, none⟩ = some (.bool p.hidden) ∧ w'.cell? ⟨w.heap.size + 1, 13, none⟩ = some (.slice D2 n c2) ∧ w'.cell? ⟨w.heap.size + 1, 14, none⟩ = some (.slice E2 m2 d2))) (by kernel_rfl) (by exact S0) (fun hH0 => ?_)
  refine wpAnyH_take (i := 0) (oi := _) (v := (.agg #[.int .i64 p.w, .int .i64 p.h, .int .i64 p.x, .int .i64 p.y, .bool p.wrap, .int .i64 p.a, .int .i64 p.top, .int .i64 p.bottom, .int .i64 p.sx, .int .i64 p.sy, .int .i64 p.sa, .bool p.noWrap, .bool p.hidden, .slice D n c, .slice E m d])) rfl (by kernel_rfl) (by kernel_rfl) (by kernel_rfl) (fun _ _ _ h => h) (Or.inl ⟨by rfl, ?_⟩) hH0 ?_
  · intro wv hSw
    try dsimp only at hSw
    go_simp
  change wpAnyH _ _ _ _ _ _ _ (Act.put _ (some 5) (.agg #[.int .i64 p.w, .int .i64 p.h, .int .i64 p.x, .int .i64 p.y, .bool p.wrap, .int .i64 p.a, .int .i64 p.top, .int .i64 p.bottom, .int .i64 p.sx, .int .i64 p.sy, .int .i64 p.sa, .bool p.noWrap, .bool p.hidden, .slice D n c, .slice E m d])) _
  simp only [Act.put, List.setIfInBounds_toArray, List.set_cons_zero, List.set_cons_succ]
  refine wpAnyH_take (i := 2) (oi := _) (v := (.agg #[.int .i64 p.w, .int .i64 p.h, .int .i64 p.x, .int .i64 p.y, .bool p.wrap, .int .i64 p.a, .int .i64 p.top, .int .i64 p.bottom, .int .i64 p.sx, .int .i64 p.sy, .int .i64 p.sa, .bool p.noWrap, .bool p.hidden, .slice D2 n c2, .slice E2 m2 d2])) rfl (by kernel_rfl) (by kernel_rfl) (by kernel_rfl) (fun _ _ _ h => h) (Or.inl ⟨by rfl, ?_⟩) hH0 ?_
  · intro wv hSw
    try dsimp only at hSw
    go_simp
  change wpAnyH _ _ _ _ _ _ _ (Act.put _ (some 7) (.agg #[.int .i64 p.w, .int .i64 p.h, .int .i64 p.x, .int .i64 p.y, .bool p.wrap, .int .i64 p.a, .int .i64 p.top, .int .i64 p.bottom, .int .i64 p.sx, .int .i64 p.sy, .int .i64 p.sa, .bool p.noWrap, .bool p.hidden, .slice D2 n c2, .slice E2 m2 d2])) _
  simp only [Act.put, List.setIfInBounds_toArray, List.set_cons_zero, List.set_cons_succ]
  refine wpAnyH_ready (rs := [1]) (by kernel_rfl) (by simp) ?_
  refine AllReadyH.cons (o := _) rfl (fun K hK => ?_) AllReadyH.nil
  go_simp
  refine (numbers_any p _ _ wq.drew).mono ?_
  rintro e w1 ⟨rfl, hb1⟩
  have q11 := q1d.below hb1 q1d.lt
  have q21 := q2d.below hb1 q2d.lt
  have b1 : Below w.heap.size w w1 := bqd.trans (hb1.mono bqd.size)
  have S1 := two_S q11.cells q21.cells
  go_wp2_with fail
  refine hK.out _ _ (by exact S1) (fun hH1 => ?_)
  clear hK K
  try simp only [Act.put, List.setIfInBounds_toArray, List.set_cons_zero, List.set_cons_succ]
  refine wpAnyH_ready (rs := [3]) (by kernel_rfl) (by simp) ?_
  refine AllReadyH.cons (o := _) rfl (fun K hK => ?_) AllReadyH.nil
  go_simp
  refine (numbers_any p _ _ w1).mono ?_
  rintro e w2 ⟨rfl, hb2⟩
  have q12 := q11.below hb2 q11.lt
  have q22 := q21.below hb2 q21.lt
  have b2 : Below w.heap.size w w2 := b1.trans (hb2.mono b1.size)
  have S2 := two_S q12.cells q22.cells
  go_wp2_with fail
  refine hK.out _ _ (by exact S2) (fun hH2 => ?_)
  clear hK K
  try simp only [Act.put, List.setIfInBounds_toArray, List.set_cons_zero, List.set_cons_succ]
  refine wpAnyH_take (i := 4) (oi := _) (v := (.bool true)) rfl (by kernel_rfl) (by kernel_rfl) (by kernel_rfl) (fun _ _ _ h => h) (Or.inl ⟨by rfl, ?_⟩) hH2 ?_
  · intro wv hSw
    try dsimp only at hSw
    go_simp
  change wpAnyH _ _ _ _ _ _ _ (Act.put _ (some 9) (.bool true)) _
  simp only [Act.put, List.setIfInBounds_toArray, List.set_cons_zero, List.set_cons_succ]
  refine wpAnyH_take (i := 5) (oi := _) (v := (.bool true)) rfl (by kernel_rfl) (by kernel_rfl) (by kernel_rfl) (fun _ _ _ h => h) (Or.inl ⟨by rfl, ?_⟩) hH2 ?_
  · intro wv hSw
    try dsimp only at hSw
    go_simp
  change wpAnyH _ _ _ _ _ _ _ (Act.put _ (some 10) (.bool true)) _
  simp only [Act.put, List.setIfInBounds_toArray, List.set_cons_zero, List.set_cons_succ]
  refine wpAnyH_take (i := 6) (oi := _) (v := (.agg #[.int .i64 p.w, .int .i64 p.h, .int .i64 p.x, .int .i64 p.y, .bool p.wrap, .int .i64 p.a, .int .i64 p.top, .int .i64 p.bottom, .int .i64 p.sx, .int .i64 p.sy, .int .i64 p.sa, .bool p.noWrap, .bool p.hidden, .slice D n c, .slice E m d])) rfl (by kernel_rfl) (by kernel_rfl) (by kernel_rfl) (fun _ _ _ h => h) (Or.inl ⟨by rfl, ?_⟩) hH2 ?_
  · intro wv hSw
    try dsimp only at hSw
    go_simp
  change wpAnyH _ _ _ _ _ _ _ (Act.put _ (some 11) (.agg #[.int .i64 p.w, .int .i64 p.h, .int .i64 p.x, .int .i64 p.y, .bool p.wrap, .int .i64 p.a, .int .i64 p.top, .int .i64 p.bottom, .int .i64 p.sx, .int .i64 p.sy, .int .i64 p.sa, .bool p.noWrap, .bool p.hidden, .slice D n c, .slice E m d])) _
  simp only [Act.put, List.setIfInBounds_toArray, List.set_cons_zero, List.set_cons_succ]
  refine wpAnyH_take (i := 8) (oi := _) (v := (.agg #[.int .i64 p.w, .int .i64 p.h, .int .i64 p.x, .int .i64 p.y, .bool p.wrap, .int .i64 p.a, .int .i64 p.top, .int .i64 p.bottom, .int .i64 p.sx, .int .i64 p.sy, .int .i64 p.sa, .bool p.noWrap, .bool p.hidden, .slice D2 n c2, .slice E2 m2 d2])) rfl (by kernel_rfl) (by kernel_rfl) (by kernel_rfl) (fun _ _ _ h => h) (Or.inl ⟨by rfl, ?_⟩) hH2 ?_
  · intro wv hSw
    try dsimp only at hSw
    go_simp
  change wpAnyH _ _ _ _ _ _ _ (Act.put _ (some 13) (.agg #[.int .i64 p.w, .int .i64 p.h, .int .i64 p.x, .int .i64 p.y, .bool p.wrap, .int .i64 p.a, .int .i64 p.top, .int .i64 p.bottom, .int .i64 p.sx, .int .i64 p.sy, .int .i64 p.sa, .bool p.noWrap, .bool p.hidden, .slice D2 n c2, .slice E2 m2 d2])) _
  simp only [Act.put, List.setIfInBounds_toArray, List.set_cons_zero, List.set_cons_succ]
  refine wpAnyH_ready (rs := [7]) (by kernel_rfl) (by simp) ?_
  refine AllReadyH.cons (o := _) rfl (fun K hK => ?_) AllReadyH.nil
  go_simp
  refine (flags_any p _ _ w2).mono ?_
  rintro e w3 ⟨rfl, hb3⟩
  have q13 := q12.below hb3 q12.lt
  have q23 := q22.below hb3 q22.lt
  have b3 : Below w.heap.size w w3 := b2.trans (hb3.mono b2.size)
  have S3 := two_S q13.cells q23.cells
  go_wp2_with fail
  refine hK.out _ _ (by exact S3) (fun hH3 => ?_)
  clear hK K
  try simp only [Act.put, List.setIfInBounds_toArray, List.set_cons_zero, List.set_cons_succ]
  refine wpAnyH_ready (rs := [9]) (by kernel_rfl) (by simp) ?_
  refine AllReadyH.cons (o := _) rfl (fun K hK => ?_) AllReadyH.nil
  go_simp
  refine (flags_any p _ _ w3).mono ?_
  rintro e w4 ⟨rfl, hb4⟩
  have q14 := q13.below hb4 q13.lt
  have q24 := q23.below hb4 q23.lt
  have b4 : Below w.heap.size w w4 := b3.trans (hb4.mono b3.size)
  have S4 := two_S q14.cells q24.cells
  go_wp2_with fail
  refine hK.out _ _ (by exact S4) (fun hH4 => ?_)
  clear hK K
  try simp only [Act.put, List.setIfInBounds_toArray, List.set_cons_zero, List.set_cons_succ]
  refine wpAnyH_take (i := 10) (oi := _) (v := (.bool true)) rfl (by kernel_rfl) (by kernel_rfl) (by kernel_rfl) (fun _ _ _ h => h) (Or.inl ⟨by rfl, ?_⟩) hH4 ?_
  · intro wv hSw
    try dsimp only at hSw
    go_simp
  change wpAnyH _ _ _ _ _ _ _ (Act.put _ (some 15) (.bool true)) _
  simp only [Act.put, List.setIfInBounds_toArray, List.set_cons_zero, List.set_cons_succ]
  refine wpAnyH_take (i := 11) (oi := _) (v := (.bool true)) rfl (by kernel_rfl) (by kernel_rfl) (by kernel_rfl) (fun _ _ _ h => h) (Or.inl ⟨by rfl, ?_⟩) hH4 ?_
  · intro wv hSw
    try dsimp only at hSw
    go_simp
  change wpAnyH _ _ _ _ _ _ _ (Act.put _ (some 16) (.bool true)) _
  simp only [Act.put, List.setIfInBounds_toArray, List.set_cons_zero, List.set_cons_succ]
  refine wpAnyH_take (i := 12) (oi := _) (v := (.bool true)) rfl (by kernel_rfl) (by kernel_rfl) (by kernel_rfl) (fun _ _ _ h => h) (Or.inl ⟨by rfl, ?_⟩) hH4 ?_
  · intro wv hSw
    try dsimp only at hSw
    go_simp
  change wpAnyH _ _ _ _ _ _ _ (Act.put _ (some 17) (.bool true)) _
  simp only [Act.put, List.setIfInBounds_toArray, List.set_cons_zero, List.set_cons_succ]
  refine wpAnyH_take (i := 13) (oi := _) (v := (.pointer (some ⟨w.heap.size, 13, none⟩))) rfl (by kernel_rfl) (by kernel_rfl) (by kernel_rfl) (fun _ _ _ h => h) (Or.inl ⟨by rfl, ?_⟩) hH4 ?_
  · intro wv hSw
    try dsimp only at hSw
    go_simp
  change wpAnyH _ _ _ _ _ _ _ (Act.put _ (some 18) (.pointer (some ⟨w.heap.size, 13, none⟩))) _
  simp only [Act.put, List.setIfInBounds_toArray, List.set_cons_zero, List.set_cons_succ]
  refine wpAnyH_take (i := 14) (oi := _) (v := (.slice D n c)) rfl (by kernel_rfl) (by kernel_rfl) (by kernel_rfl) (fun _ _ _ h => h) (Or.inl ⟨by rfl, ?_⟩) hH4 ?_
  · intro wv hSw
    try dsimp only at hSw
    go_simp
  change wpAnyH _ _ _ _ _ _ _ (Act.put _ (some 19) (.slice D n c)) _
  simp only [Act.put, List.setIfInBounds_toArray, List.set_cons_zero, List.set_cons_succ]
  refine wpAnyH_take (i := 15) (oi := _) (v := (.pointer (some ⟨w.heap.size + 1, 13, none⟩))) rfl (by kernel_rfl) (by kernel_rfl) (by kernel_rfl) (fun _ _ _ h => h) (Or.inl ⟨by rfl, ?_⟩) hH4 ?_
  · intro wv hSw
    try dsimp only at hSw
    go_simp
  change wpAnyH _ _ _ _ _ _ _ (Act.put _ (some 20) (.pointer (some ⟨w.heap.size + 1, 13, none⟩))) _
  simp only [Act.put, List.setIfInBounds_toArray, List.set_cons_zero, List.set_cons_succ]
  refine wpAnyH_take (i := 16) (oi := _) (v := (.slice D2 n c2)) rfl (by kernel_rfl) (by kernel_rfl) (by kernel_rfl) (fun _ _ _ h => h) (Or.inl ⟨by rfl, ?_⟩) hH4 ?_
  · intro wv hSw
    try dsimp only at hSw
    go_simp
  change wpAnyH _ _ _ _ _ _ _ (Act.put _ (some 21) (.slice D2 n c2)) _
  simp only [Act.put, List.setIfInBounds_toArray, List.set_cons_zero, List.set_cons_succ]
  refine wpAnyH_ready (rs := [17]) (by kernel_rfl) (by simp) ?_
  refine AllReadyH.cons (o := _) rfl (fun K hK => ?_) AllReadyH.nil
  go_simp
  refine (HR.out w4 b4).mono ?_
  rintro e w5 ⟨rfl, m5, hm5⟩
  have hb5 : Below w4.heap.size w4 w5 := by rw [hm5]; exact below_drewN (Below.refl _ _) m5
  have q15 := q14.below hb5 q14.lt
  have q25 := q24.below hb5 q24.lt
  have b5 : Below w.heap.size w w5 := b4.trans (hb5.mono b4.size)
  have S5 := two_S q15.cells q25.cells
  clear hm5
  go_wp2_with fail
  refine hK.out _ _ (by exact S5) (fun hH5 => ?_)
  clear hK K
  try simp only [Act.put, List.setIfInBounds_toArray, List.set_cons_zero, List.set_cons_succ]
  refine wpAnyH_take (i := 18) (oi := _) (v := (.bool false)) rfl (by kernel_rfl) (by kernel_rfl) (by kernel_rfl) (fun _ _ _ h => h) (Or.inl ⟨by rfl, ?_⟩) hH5 ?_
  · intro wv hSw
    try dsimp only at hSw
    go_simp
  change wpAnyH _ _ _ _ _ _ _ (Act.put _ (some 23) (.bool false)) _
  simp only [Act.put, List.setIfInBounds_toArray, List.set_cons_zero, List.set_cons_succ]
  refine wpAnyH_take (i := 19) (oi := _) (v := (.bool false)) rfl (by kernel_rfl) (by kernel_rfl) (by kernel_rfl) (fun _ _ _ h => h) (Or.inl ⟨by rfl, ?_⟩) hH5 ?_
  · intro wv hSw
    try dsimp only at hSw
    go_simp
  change wpAnyH _ _ _ _ _ _ _ (Act.put _ (some 24) (.bool false)) _
  simp only [Act.put, List.setIfInBounds_toArray, List.set_cons_zero, List.set_cons_succ]
  refine wpAnyH_take (i := 20) (oi := _) (v := undef) rfl (by kernel_rfl) (by kernel_rfl) (by kernel_rfl) (fun _ _ _ h => h) (Or.inr ⟨by rfl, rfl⟩) hH5 ?_
  change wpAnyH _ _ _ _ _ _ _ (Act.put _ (some 25) undef) _
  simp only [Act.put, List.setIfInBounds_toArray, List.set_cons_zero, List.set_cons_succ]
  refine wpAnyH_take (i := 21) (oi := _) (v := undef) rfl (by kernel_rfl) (by kernel_rfl) (by kernel_rfl) (fun _ _ _ h => h) (Or.inr ⟨by rfl, rfl⟩) hH5 ?_
  change wpAnyH _ _ _ _ _ _ _ (Act.put _ (some 26) undef) _
  simp only [Act.put, List.setIfInBounds_toArray, List.set_cons_zero, List.set_cons_succ]
  refine wpAnyH_take (i := 22) (oi := _) (v := undef) rfl (by kernel_rfl) (by kernel_rfl) (by kernel_rfl) (fun _ _ _ h => h) (Or.inr ⟨by rfl, rfl⟩) hH5 ?_
  change wpAnyH _ _ _ _ _ _ _ (Act.put _ (some 27) undef) _
  simp only [Act.put, List.setIfInBounds_toArray, List.set_cons_zero, List.set_cons_succ]
  refine wpAnyH_take (i := 23) (oi := _) (v := undef) rfl (by kernel_rfl) (by kernel_rfl) (by kernel_rfl) (fun _ _ _ h => h) (Or.inr ⟨by rfl, rfl⟩) hH5 ?_
  change wpAnyH _ _ _ _ _ _ _ (Act.put _ (some 28) undef) _
  simp only [Act.put, List.setIfInBounds_toArray, List.set_cons_zero, List.set_cons_succ]
  refine wpAnyH_take (i := 24) (oi := _) (v := undef) rfl (by kernel_rfl) (by kernel_rfl) (by kernel_rfl) (fun _ _ _ h => h) (Or.inr ⟨by rfl, rfl⟩) hH5 ?_
  change wpAnyH _ _ _ _ _ _ _ (Act.put _ (some 29) undef) _
  simp only [Act.put, List.setIfInBounds_toArray, List.set_cons_zero, List.set_cons_succ]
  refine wpAnyH_take (i := 25) (oi := _) (v := (.bool false)) rfl (by kernel_rfl) (by kernel_rfl) (by kernel_rfl) (fun _ _ _ h => h) (Or.inl ⟨by rfl, ?_⟩) hH5 ?_
  · intro wv hSw
    try dsimp only at hSw
    go_simp
  change wpAnyH _ _ _ _ _ _ _ (Act.put _ (some 30) (.bool false)) _
  simp only [Act.put, List.setIfInBounds_toArray, List.set_cons_zero, List.set_cons_succ]
  refine wpAnyH_take (i := 26) (oi := _) (v := (.bool false)) rfl (by kernel_rfl) (by kernel_rfl) (by kernel_rfl) (fun _ _ _ h => h) (Or.inl ⟨by rfl, ?_⟩) hH5 ?_
  · intro wv hSw
    try dsimp only at hSw
    go_simp
  change wpAnyH _ _ _ _ _ _ _ (Act.put _ (some 4) (.bool false)) _
  simp only [Act.put, List.setIfInBounds_toArray, List.set_cons_zero, List.set_cons_succ]
  refine wpAnyH_done (by kernel_rfl) ?_ _
  go_wp2_with fail
  go_ret
  exact ⟨rfl, b5⟩
end Go.Proofs.Ytjgdabbcbfhijaa
