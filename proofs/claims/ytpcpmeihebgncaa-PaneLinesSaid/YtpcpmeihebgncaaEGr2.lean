/-
  What ground of package esca does with a byte where nothing but a rune may be begun. Conditions: a byte is 0 to 255; what is begun is what steps from nothing make.
-/
import Derived.Test.YtpcpmeihebgncaaEGround
namespace Go.Proofs.Ytpcpmeihebgncaa.Esca
open Go.RowKit
set_option maxRecDepth 100000

/-- What a step leaves: where it is, and the actions. -/
def StepP (B : Nat) (w : World) (e' : E) (l : List A) (x : Ending) (w' : World) : Prop :=
  ∃ p v, x = .returned (.tuple #[escV e' p, v]) ∧ Ints w' B p e'.par ∧ Acts w' B v l ∧ Below B w w'

theorem wp_world {P : Program} {c : Code} {Q : Exit → Act → World → Prop} {a : Act} {w : World} (R : World → Prop) (h : R w) (k : ∀ wq, R wq → Code.wp P c Q a wq) : Code.wp P c Q a w := k w h
theorem esc_S {w : World} {g : Nat} {a0 a1 a2 a3 a4 a5 a6 a7 : Value} (h : Held w g 32 #[a0, a1, a2, a3, a4, a5, a6, a7]) :
    w.cell? ⟨g, 0, none⟩ = some a0 ∧ w.cell? ⟨g, 1, none⟩ = some a1 ∧ w.cell? ⟨g, 2, none⟩ = some a2 ∧ w.cell? ⟨g, 3, none⟩ = some a3 ∧ w.cell? ⟨g, 4, none⟩ = some a4 ∧ w.cell? ⟨g, 5, none⟩ = some a5 ∧ w.cell? ⟨g, 6, none⟩ = some a6 ∧ w.cell? ⟨g, 7, none⟩ = some a7 :=
  ⟨(h.cell 0).trans rfl, (h.cell 1).trans rfl, (h.cell 2).trans rfl, (h.cell 3).trans rfl, (h.cell 4).trans rfl, (h.cell 5).trans rfl, (h.cell 6).trans rfl, (h.cell 7).trans rfl⟩
theorem Held.far {w : World} {g k o : Nat} {t : TypeId} {cs : Array Value} (h : Held w g t cs) (hk : g ≠ k) (x : Value) : Held (w.setCell ⟨k, o, none⟩ x) g t cs := by
  unfold Held at h ⊢
  rw [Below.heap_setCell _ _ _ g (by simpa using hk)]
  exact h
theorem runes_setlo {w : World} {B k o : Nat} {v : Value} {rs : List Int} (h : Runes w B v rs) (hk : k < B) (x : Value) : Runes (w.setCell ⟨k, o, none⟩ x) B v rs := own_set h (own_ne h hk) x
theorem Held.far8 {w : World} {g k : Nat} {t : TypeId} {cs : Array Value} (h : Held w g t cs) (hk : g ≠ k) (a0 a1 a2 a3 a4 a5 a6 a7 : Value) : Held ((((((((w.setCell ⟨k, 0, none⟩ a0).setCell ⟨k, 1, none⟩ a1).setCell ⟨k, 2, none⟩ a2).setCell ⟨k, 3, none⟩ a3).setCell ⟨k, 4, none⟩ a4).setCell ⟨k, 5, none⟩ a5).setCell ⟨k, 6, none⟩ a6).setCell ⟨k, 7, none⟩ a7) g t cs :=
  (((((((h.far hk _).far hk _).far hk _).far hk _).far hk _).far hk _).far hk _).far hk _
theorem Held.drew {w : World} {g : Nat} {t : TypeId} {cs : Array Value} (h : Held w g t cs) : Held w.drew g t cs := h
theorem Held.s0 {w : World} {g : Nat} {t : TypeId} {b0 b1 b2 b3 b4 b5 b6 b7 : Value} (h : Held w g t #[b0, b1, b2, b3, b4, b5, b6, b7]) (a : Value) : Held (w.setCell ⟨g, 0, none⟩ a) g t #[a, b1, b2, b3, b4, b5, b6, b7] := h.set1 0 a
theorem Held.s1 {w : World} {g : Nat} {t : TypeId} {b0 b1 b2 b3 b4 b5 b6 b7 : Value} (h : Held w g t #[b0, b1, b2, b3, b4, b5, b6, b7]) (a : Value) : Held (w.setCell ⟨g, 1, none⟩ a) g t #[b0, a, b2, b3, b4, b5, b6, b7] := h.set1 1 a
theorem Held.s2 {w : World} {g : Nat} {t : TypeId} {b0 b1 b2 b3 b4 b5 b6 b7 : Value} (h : Held w g t #[b0, b1, b2, b3, b4, b5, b6, b7]) (a : Value) : Held (w.setCell ⟨g, 2, none⟩ a) g t #[b0, b1, a, b3, b4, b5, b6, b7] := h.set1 2 a
theorem Held.s3 {w : World} {g : Nat} {t : TypeId} {b0 b1 b2 b3 b4 b5 b6 b7 : Value} (h : Held w g t #[b0, b1, b2, b3, b4, b5, b6, b7]) (a : Value) : Held (w.setCell ⟨g, 3, none⟩ a) g t #[b0, b1, b2, a, b4, b5, b6, b7] := h.set1 3 a
theorem Held.s4 {w : World} {g : Nat} {t : TypeId} {b0 b1 b2 b3 b4 b5 b6 b7 : Value} (h : Held w g t #[b0, b1, b2, b3, b4, b5, b6, b7]) (a : Value) : Held (w.setCell ⟨g, 4, none⟩ a) g t #[b0, b1, b2, b3, a, b5, b6, b7] := h.set1 4 a
theorem Held.s5 {w : World} {g : Nat} {t : TypeId} {b0 b1 b2 b3 b4 b5 b6 b7 : Value} (h : Held w g t #[b0, b1, b2, b3, b4, b5, b6, b7]) (a : Value) : Held (w.setCell ⟨g, 5, none⟩ a) g t #[b0, b1, b2, b3, b4, a, b6, b7] := h.set1 5 a
theorem Held.s6 {w : World} {g : Nat} {t : TypeId} {b0 b1 b2 b3 b4 b5 b6 b7 : Value} (h : Held w g t #[b0, b1, b2, b3, b4, b5, b6, b7]) (a : Value) : Held (w.setCell ⟨g, 6, none⟩ a) g t #[b0, b1, b2, b3, b4, b5, a, b7] := h.set1 6 a
theorem Held.s7 {w : World} {g : Nat} {t : TypeId} {b0 b1 b2 b3 b4 b5 b6 b7 : Value} (h : Held w g t #[b0, b1, b2, b3, b4, b5, b6, b7]) (a : Value) : Held (w.setCell ⟨g, 7, none⟩ a) g t #[b0, b1, b2, b3, b4, b5, b6, a] := h.set1 7 a
theorem Held.set8 {w : World} {g : Nat} {t : TypeId} {b0 b1 b2 b3 b4 b5 b6 b7 : Value} (h : Held w g t #[b0, b1, b2, b3, b4, b5, b6, b7]) (a0 a1 a2 a3 a4 a5 a6 a7 : Value) : Held ((((((((w.setCell ⟨g, 0, none⟩ a0).setCell ⟨g, 1, none⟩ a1).setCell ⟨g, 2, none⟩ a2).setCell ⟨g, 3, none⟩ a3).setCell ⟨g, 4, none⟩ a4).setCell ⟨g, 5, none⟩ a5).setCell ⟨g, 6, none⟩ a6).setCell ⟨g, 7, none⟩ a7) g t #[a0, a1, a2, a3, a4, a5, a6, a7] :=
  (((((((h.s0 a0).s1 a1).s2 a2).s3 a3).s4 a4).s5 a5).s6 a6).s7 a7
theorem Acts.setlo8 {w : World} {B : Nat} {v : Value} {l : List A} (h : Acts w B v l) {k : Nat} (hk : k < B) (a0 a1 a2 a3 a4 a5 a6 a7 : Value) : Acts ((((((((w.setCell ⟨k, 0, none⟩ a0).setCell ⟨k, 1, none⟩ a1).setCell ⟨k, 2, none⟩ a2).setCell ⟨k, 3, none⟩ a3).setCell ⟨k, 4, none⟩ a4).setCell ⟨k, 5, none⟩ a5).setCell ⟨k, 6, none⟩ a6).setCell ⟨k, 7, none⟩ a7) B v l :=
  (((((((h.setlo hk _).setlo hk _).setlo hk _).setlo hk _).setlo hk _).setlo hk _).setlo hk _).setlo hk _
theorem Ints.setlo8 {w : World} {B : Nat} {v : Value} {l : List Int} (h : Ints w B v l) {k : Nat} (hk : k < B) (a0 a1 a2 a3 a4 a5 a6 a7 : Value) : Ints ((((((((w.setCell ⟨k, 0, none⟩ a0).setCell ⟨k, 1, none⟩ a1).setCell ⟨k, 2, none⟩ a2).setCell ⟨k, 3, none⟩ a3).setCell ⟨k, 4, none⟩ a4).setCell ⟨k, 5, none⟩ a5).setCell ⟨k, 6, none⟩ a6).setCell ⟨k, 7, none⟩ a7) B v l :=
  (((((((h.setlo hk _).setlo hk _).setlo hk _).setlo hk _).setlo hk _).setlo hk _).setlo hk _).setlo hk _
theorem below_set8 {a w : World} {B k : Nat} (h : Below B a w) (hk : B ≤ k) (a0 a1 a2 a3 a4 a5 a6 a7 : Value) : Below B a ((((((((w.setCell ⟨k, 0, none⟩ a0).setCell ⟨k, 1, none⟩ a1).setCell ⟨k, 2, none⟩ a2).setCell ⟨k, 3, none⟩ a3).setCell ⟨k, 4, none⟩ a4).setCell ⟨k, 5, none⟩ a5).setCell ⟨k, 6, none⟩ a6).setCell ⟨k, 7, none⟩ a7) :=
  below_set (below_set (below_set (below_set (below_set (below_set (below_set (below_set h hk _) hk _) hk _) hk _) hk _) hk _) hk _) hk _
theorem ctl_len (b : Int) : (ctl b).length ≤ 1 := by unfold ctl; split <;> simp
/-- What stands at the last statement of ground: s in block g, the answer's place behind it, the runes in v. -/
structure GroundAt (w : World) (n m g num mo : Int) (p v : Value) (pr sk : Bool) (rs : List Int) (wq : World) : Prop where
  box : Held wq w.heap.size 32 #[.int .i64 mo, .int .i64 n, .int .i64 m, .int .i64 g, p, .int .i64 num, .bool pr, .bool sk]
  ans : Held wq (w.heap.size + 1) 32 #[.int .i64 0, .int .i64 0, .int .i64 0, .int .i64 0, .slice none 0 0, .int .i64 0, .bool false, .bool false]
  runes : Runes wq (w.heap.size + 2) v rs
  below : Below w.heap.size w wq

set_option maxHeartbeats 1000000 in
theorem ground_27 (mo n m g num : Int) (par : List Int) (pr sk : Bool) (p : Value) (B : Nat) (w : World) (hp : Ints w B p par) (hs : U.Ok ⟨n, m, g⟩) (hB : B ≤ w.heap.size) :
    Calls Try.prog 81 #[escV ⟨mo, ⟨n, m, g⟩, par, num, pr, sk⟩ p, .int .u8 27] w (StepP B w ⟨1, nx ⟨n, m, g⟩ 27, par, num, pr, sk⟩ (prints (nxR ⟨n, m, g⟩ 27) ++ ctl 27)) := by
  unfold escV
  dsimp only at *
  obtain ⟨D, c, rfl⟩ := ints_form hp
  go_enter Try.func81, Try.ntmps81
  go_upto_region 5 with (
    go_at_call 119
    refine (step_any ⟨n, m, g⟩ 27 _ hs (by decide) (by decide)).mono ?_
    rintro e w2 ⟨v, rfl, hr, hb2⟩
    obtain ⟨H1, H2⟩ := two_new hb2
    have hz1 := H1.lt
    have hz2 := H2.lt
    obtain ⟨x0, x1, x2, x3, x4, x5, x6, x7, xf⟩ := esc_cells H1
    obtain ⟨y0, y1, y2, y3, y4, y5, y6, y7, yf⟩ := esc_cells H2)
  obtain ⟨u', hu'⟩ : ∃ u', u' = nx ⟨n, m, g⟩ 27 := ⟨_, rfl⟩
  rw [← hu']
  have HU := Lib.hid hu'
  clear hu'
  refine wp_world (GroundAt w u'.n u'.m u'.g num 1 (.slice D par.length c) v pr sk (nxR ⟨n, m, g⟩ 27)) ⟨?_, ?_, ?_, ?_⟩ ?_
  · exact ((((H1.s1 _).s2 _).s3 _).s0 _).alloc _
  · exact ((((H2.far (by omega) _).far (by omega) _).far (by omega) _).far (by omega) _).alloc _
  · have hr' : Runes w2 (w.heap.size + 2) v (nxR ⟨n, m, g⟩ 27) := own_base hr (by simp)
    refine World.ownsRow.alloc ?_ _
    exact runes_setlo (runes_setlo (runes_setlo (runes_setlo hr' (by omega) _) (by omega) _) (by omega) _) (by omega) _
  · refine Below.alloc ?_ (by simp; omega) _
    repeat (with_reducible refine below_set ?_ (by omega) _)
    exact (below_alloc2 w _ _).trans (hb2.mono (by simp; omega))
  rintro wq ⟨hQ, hR, hvr, hbq⟩
  have hpq := hp.below hbq (Nat.le_refl _)
  clear H1 H2 x0 x1 x2 x3 x4 x5 x6 x7 xf y0 y1 y2 y3 y4 y5 y6 y7 yf hr hb2 hz1 hz2
  have hz1 := hQ.lt
  have hz2 := hR.lt
  have hQd := hQ.drew
  have hRd := hR.drew
  have hvrd : Runes wq.drew (w.heap.size + 2) v (nxR ⟨n, m, g⟩ 27) := hvr
  have hzd1 := hQd.lt
  have hzd2 := hRd.lt
  have hnl := nxR_len ⟨n, m, g⟩ 27
  have hpl := prints_len (nxR ⟨n, m, g⟩ 27)
  go_region_held3 (fun w' => w'.cell? ⟨w.heap.size, 0, none⟩ = some (.int .i64 1) ∧ w'.cell? ⟨w.heap.size, 1, none⟩ = some (.int .i64 u'.n) ∧ w'.cell? ⟨w.heap.size, 2, none⟩ = some (.int .i64 u'.m) ∧ w'.cell? ⟨w.heap.size, 3, none⟩ = some (.int .i64 u'.g) ∧ w'.cell? ⟨w.heap.size, 4, none⟩ = some (.slice D par.length c) ∧ w'.cell? ⟨w.heap.size, 5, none⟩ = some (.int .i64 num) ∧ w'.cell? ⟨w.heap.size, 6, none⟩ = some (.bool pr) ∧ w'.cell? ⟨w.heap.size, 7, none⟩ = some (.bool sk))
    (first
      | with_reducible exact esc_S hQd
      | with_reducible exact esc_S hQ3
      | with_reducible exact esc_S hQ4
      | with_reducible exact esc_S hQ5
      | with_reducible exact esc_S (hQ5.far8 (by omega) _ _ _ _ _ _ _ _)
      | fail)
    (first
      | (go_at_call 120
         (with_reducible refine (prints_any _ _ (w.heap.size + 2) wq.drew hvrd hnl).mono ?_)
         rintro e w3 ⟨v3, rfl, ha3, hb3⟩
         have hQ3 := hQd.below hb3 hzd1
         have hR3 := hRd.below hb3 hzd2)
      | (go_at_call 121
         (with_reducible refine (control_any 27 w3 (by decide) (by decide)).mono ?_)
         rintro e w4 ⟨v4, rfl, ha4, hb4⟩
         have hQ4 := hQ3.below hb4 hQ3.lt
         have hR4 := hR3.below hb4 hR3.lt)
      | (refine step_append_acts _ (by rfl) _ _ (by rfl) wq.drew.heap.size w3.heap.size v3 v4 _ _ (by rfl) (by rfl) (by exact ha3.below hb4 (Nat.le_refl _)) (by exact ha4) (by exact hb3.size) (by exact fun k hk => (acts_lt ha3 k hk).2) (by have := ctl_len 27; omega) (by exact Nat.le_trans hb3.size hb4.size) ?_
         intro v5 w5 hap
         have hQ5 := hQ4.below hap.below hzd1
         have hR5 := hR4.below hap.below hzd2
         have hR5l := hR5.lt
         have hb5 : Below w.heap.size w w5 := ((hbq.drew.trans (hb3.mono hbq.size)).trans (hb4.mono (Nat.le_trans hbq.size hb3.size))).trans (hap.below.mono hbq.size)
         obtain ⟨y0, y1, y2, y3, y4, y5, y6, y7, yf⟩ := esc_cells hR5))
  go_wp2
  have hu' := HU.out
  clear HU
  subst hu'
  refine bodyPost_ret (v := .tuple #[escV ⟨1, nx ⟨n, m, g⟩ 27, par, num, pr, sk⟩ (.slice D par.length c), v5]) (by simp [results, Try.results81, go_sem, escV, y0, y1, y2, y3, y4, y5, y6, y7]) rfl ⟨_, v5, rfl, ?_, ?_, ?_⟩
  · exact (hp.below (below_set8 hb5 (Nat.le_succ _) _ _ _ _ _ _ _ _) (Nat.le_refl _))
  · exact (Acts.setlo8 hap.acts hzd2 _ _ _ _ _ _ _ _).base (Nat.le_trans hB hbq.size)
  · exact (below_set8 hb5 (Nat.le_succ _) _ _ _ _ _ _ _ _).mono hB

set_option maxHeartbeats 1000000 in
theorem ground_no (mo n m g num b : Int) (par : List Int) (pr sk : Bool) (p : Value) (B : Nat) (w : World) (hp : Ints w B p par) (hs : U.Ok ⟨n, m, g⟩) (hB : B ≤ w.heap.size) (hb0 : 0 ≤ b) (hb1 : b ≤ 255) (hne : ¬ b = 27) :
    Calls Try.prog 81 #[escV ⟨mo, ⟨n, m, g⟩, par, num, pr, sk⟩ p, .int .u8 b] w (StepP B w ⟨mo, nx ⟨n, m, g⟩ b, par, num, pr, sk⟩ (prints (nxR ⟨n, m, g⟩ b) ++ ctl b)) := by
  unfold escV
  dsimp only at *
  obtain ⟨D, c, rfl⟩ := ints_form hp
  go_enter Try.func81, Try.ntmps81
  go_upto_region 5 with (
    go_at_call 119
    refine (step_any ⟨n, m, g⟩ b _ hs hb0 hb1).mono ?_
    rintro e w2 ⟨v, rfl, hr, hb2⟩
    obtain ⟨H1, H2⟩ := two_new hb2
    have hz1 := H1.lt
    have hz2 := H2.lt
    obtain ⟨x0, x1, x2, x3, x4, x5, x6, x7, xf⟩ := esc_cells H1
    obtain ⟨y0, y1, y2, y3, y4, y5, y6, y7, yf⟩ := esc_cells H2)
  obtain ⟨u', hu'⟩ : ∃ u', u' = nx ⟨n, m, g⟩ b := ⟨_, rfl⟩
  rw [← hu']
  have HU := Lib.hid hu'
  clear hu'
  refine wp_world (GroundAt w u'.n u'.m u'.g num mo (.slice D par.length c) v pr sk (nxR ⟨n, m, g⟩ b)) ⟨?_, ?_, ?_, ?_⟩ ?_
  · exact (((H1.s1 _).s2 _).s3 _).alloc _
  · exact (((H2.far (by omega) _).far (by omega) _).far (by omega) _).alloc _
  · have hr' : Runes w2 (w.heap.size + 2) v (nxR ⟨n, m, g⟩ b) := own_base hr (by simp)
    refine World.ownsRow.alloc ?_ _
    exact runes_setlo (runes_setlo (runes_setlo hr' (by omega) _) (by omega) _) (by omega) _
  · refine Below.alloc ?_ (by simp; omega) _
    repeat (with_reducible refine below_set ?_ (by omega) _)
    exact (below_alloc2 w _ _).trans (hb2.mono (by simp; omega))
  rintro wq ⟨hQ, hR, hvr, hbq⟩
  have hpq := hp.below hbq (Nat.le_refl _)
  clear H1 H2 x0 x1 x2 x3 x4 x5 x6 x7 xf y0 y1 y2 y3 y4 y5 y6 y7 yf hr hb2 hz1 hz2
  have hz1 := hQ.lt
  have hz2 := hR.lt
  have hQd := hQ.drew
  have hRd := hR.drew
  have hvrd : Runes wq.drew (w.heap.size + 2) v (nxR ⟨n, m, g⟩ b) := hvr
  have hzd1 := hQd.lt
  have hzd2 := hRd.lt
  have hnl := nxR_len ⟨n, m, g⟩ b
  have hpl := prints_len (nxR ⟨n, m, g⟩ b)
  go_region_held3 (fun w' => w'.cell? ⟨w.heap.size, 0, none⟩ = some (.int .i64 mo) ∧ w'.cell? ⟨w.heap.size, 1, none⟩ = some (.int .i64 u'.n) ∧ w'.cell? ⟨w.heap.size, 2, none⟩ = some (.int .i64 u'.m) ∧ w'.cell? ⟨w.heap.size, 3, none⟩ = some (.int .i64 u'.g) ∧ w'.cell? ⟨w.heap.size, 4, none⟩ = some (.slice D par.length c) ∧ w'.cell? ⟨w.heap.size, 5, none⟩ = some (.int .i64 num) ∧ w'.cell? ⟨w.heap.size, 6, none⟩ = some (.bool pr) ∧ w'.cell? ⟨w.heap.size, 7, none⟩ = some (.bool sk))
    (first
      | with_reducible exact esc_S hQd
      | with_reducible exact esc_S hQ3
      | with_reducible exact esc_S hQ4
      | with_reducible exact esc_S hQ5
      | with_reducible exact esc_S (hQ5.far8 (by omega) _ _ _ _ _ _ _ _)
      | fail)
    (first
      | (go_at_call 120
         (with_reducible refine (prints_any _ _ (w.heap.size + 2) wq.drew hvrd hnl).mono ?_)
         rintro e w3 ⟨v3, rfl, ha3, hb3⟩
         have hQ3 := hQd.below hb3 hzd1
         have hR3 := hRd.below hb3 hzd2)
      | (go_at_call 121
         (with_reducible refine (control_any b w3 hb0 hb1).mono ?_)
         rintro e w4 ⟨v4, rfl, ha4, hb4⟩
         have hQ4 := hQ3.below hb4 hQ3.lt
         have hR4 := hR3.below hb4 hR3.lt)
      | (refine step_append_acts _ (by rfl) _ _ (by rfl) wq.drew.heap.size w3.heap.size v3 v4 _ _ (by rfl) (by rfl) (by exact ha3.below hb4 (Nat.le_refl _)) (by exact ha4) (by exact hb3.size) (by exact fun k hk => (acts_lt ha3 k hk).2) (by have := ctl_len b; omega) (by exact Nat.le_trans hb3.size hb4.size) ?_
         intro v5 w5 hap
         have hQ5 := hQ4.below hap.below hzd1
         have hR5 := hR4.below hap.below hzd2
         have hR5l := hR5.lt
         have hb5 : Below w.heap.size w w5 := ((hbq.drew.trans (hb3.mono hbq.size)).trans (hb4.mono (Nat.le_trans hbq.size hb3.size))).trans (hap.below.mono hbq.size)
         obtain ⟨y0, y1, y2, y3, y4, y5, y6, y7, yf⟩ := esc_cells hR5))
  go_wp2
  have hu' := HU.out
  clear HU
  subst hu'
  refine bodyPost_ret (v := .tuple #[escV ⟨mo, nx ⟨n, m, g⟩ b, par, num, pr, sk⟩ (.slice D par.length c), v5]) (by simp [results, Try.results81, go_sem, escV, y0, y1, y2, y3, y4, y5, y6, y7]) rfl ⟨_, v5, rfl, ?_, ?_, ?_⟩
  · exact (hp.below (below_set8 hb5 (Nat.le_succ _) _ _ _ _ _ _ _ _) (Nat.le_refl _))
  · exact (Acts.setlo8 hap.acts hzd2 _ _ _ _ _ _ _ _).base (Nat.le_trans hB hbq.size)
  · exact (below_set8 hb5 (Nat.le_succ _) _ _ _ _ _ _ _ _).mono hB

theorem ground_any (e : E) (b : Int) (p : Value) (B : Nat) (w : World) (hp : Ints w B p e.par) (hs : e.u.Ok) (hB : B ≤ w.heap.size) (hb0 : 0 ≤ b) (hb1 : b ≤ 255) :
    Calls Try.prog 81 #[escV e p, .int .u8 b] w (StepP B w ⟨if b = 27 then 1 else e.mode, nx e.u b, e.par, e.num, e.priv, e.skip⟩ (prints (nxR e.u b) ++ ctl b)) := by
  obtain ⟨mo, ⟨n, m, g⟩, par, num, pr, sk⟩ := e
  by_cases h : b = 27
  · subst h
    exact ground_27 mo n m g num par pr sk p B w hp hs hB
  · simp only [if_neg h]
    exact ground_no mo n m g num b par pr sk p B w hp hs hB hb0 hb1 h
end Go.Proofs.Ytpcpmeihebgncaa.Esca
