/-
  The walk of RowsLong. Conditions: the row that came in reads as cells, and is no longer than its room.
-/
import Derived.Test.YtpmioibgbknphaaPoint
import Derived.BigQuiet
import Derived.Deep.Cut
import Derived.Deep.Light
import Derived.Deep.DeepCutAuto
namespace Go.Proofs.Ytpmioibgbknphaa
open Go.RowKit

theorem wp_world {P : Program} {c : Code} {Q : Exit → Act → World → Prop} {a : Act} {w : World} (R : World → Prop) (h : R w) (k : ∀ wq, R wq → Code.wp P c Q a wq) : Code.wp P c Q a w := k w h

theorem row_blank {w : World} {g : Nat} {m : List C} (h : Row w g m) {j : Nat} (hz : m[j]? = some C.blank) : w.cell? ⟨g, j * 2, none⟩ = some (.int .i32 32) ∧ w.cell? ⟨g, j * 2 + 1, none⟩ = some (.int .i64 0) := by
  obtain ⟨hj, e⟩ := List.getElem?_eq_some_iff.1 hz
  have := h.cells j hj
  rw [e] at this
  exact this
theorem row_at {w : World} {g : Nat} {m : List C} (h : Row w g m) {j : Nat} {z : C} (hz : m[j]? = some z) : w.cell? ⟨g, j * 2, none⟩ = some (.int .i32 z.r) ∧ w.cell? ⟨g, j * 2 + 1, none⟩ = some (.int .i64 z.a) := by
  obtain ⟨hj, rfl⟩ := List.getElem?_eq_some_iff.1 hz
  exact h.cells j hj
def LongCut (wq : World) (v : Value) (w' : World) : Prop := v = .bool false ∧ ∃ nq, w' = wq.drewN nq
def LongRel (w : World) (n : Nat) (i : Value) (wr : World) : Prop := ∃ j : Nat, i = .int .i64 j ∧ j ≤ n ∧ Below w.heap.size w wr

set_option maxRecDepth 100000 in
set_option maxHeartbeats 16000000 in
theorem long_walk (x0 n0 : Int) (D : Option Addr) (c : Nat) (l : List C) (w : World) (hr : ReadC w D l) (hc : l.length ≤ c) :
    Calls Try.prog 5 #[.slice D l.length c, .int .i64 x0, .int .i64 n0] w (TrueBelow w) := by
  have HR := Lib.hid hr
  clear hr
  by_cases hbig : 200 < l.length
  · have hbi : (200 : Int) < (l.length : Int) := by omega
    go_enter Try.func5, Try.ntmps5
    go_wp2_with fail
    refine (awake_any _).mono ?_
    rintro e w1 ⟨rfl, hb1⟩
    go_wp2_with fail
    go_ret
    exact ⟨rfl, hb1⟩
  · have hbi : ¬ (200 : Int) < (l.length : Int) := by omega
    by_cases hz : l.length = 0
    · have hzi : ((l.length : Int) == 0) = true := by rw [hz]; rfl
      have hbd : decide ((200 : Int) < (l.length : Int)) = false := decide_eq_false hbi
      clear hz
      go_enter Try.func5, Try.ntmps5
      go_wp2_with fail
      refine (awake_any _).mono ?_
      rintro e w1 ⟨rfl, hb1⟩
      go_wp2_with fail
      go_ret
      exact ⟨rfl, hb1⟩
    · have hzi : ((l.length : Int) == 0) = false := beq_eq_false_iff_ne.2 (by omega)
      have hpos : 0 < l.length := by omega
      have hle : l.length ≤ 200 := by omega
      clear hz hbig
      have hA := i64_and255 x0
      have hB := i64_and31 n0
      obtain ⟨X, eX, X0, X1⟩ : ∃ X : Int, X = x0 % 256 ∧ 0 ≤ X ∧ X ≤ 255 := ⟨_, rfl, by omega, by omega⟩
      obtain ⟨n, en, hn⟩ : ∃ n : Nat, n0 % 32 = n ∧ n ≤ 31 := ⟨(n0 % 32).toNat, by omega, by omega⟩
      rw [← eX] at hA
      rw [en] at hB
      clear eX en
      obtain ⟨x, ex, hx⟩ : ∃ x : Nat, X % (l.length : Int) = x ∧ x < l.length := ⟨(X % (l.length : Int)).toNat, by have := Int.emod_nonneg X (show (l.length : Int) ≠ 0 by omega); omega, by have := Int.emod_lt_of_pos X (show (0 : Int) < l.length by omega); have := Int.emod_nonneg X (show (l.length : Int) ≠ 0 by omega); omega⟩
      obtain ⟨k, ek, hk⟩ : ∃ k : Nat, withinF n (l.length - x) = k ∧ k = min n (l.length - x) := ⟨min n (l.length - x), by unfold withinF; omega, rfl⟩
      have hkl : x + k ≤ l.length := by omega
      have HI : Hid (∀ w D c, ReadC w D l → l.length ≤ c → Calls Try.prog 6 #[.slice D l.length c, .int .i64 x, .int .i64 n] w (RowN w l.length (insertN l x k))) := fun w D c hr hc => by
        have := insert_yes D c l x n w hr hc (by omega) hx
        rw [ek, Int.toNat_natCast] at this
        exact this.mono (RowPost.lit _ rfl (insertN_len l x k hkl))
      have hil := insertN_len l x k hkl
      have HD : Hid (∀ (m : List C) w D c, m.length = l.length → ReadC w D m → l.length ≤ c → Calls Try.prog 7 #[.slice D l.length c, .int .i64 x, .int .i64 n] w (RowN w l.length (deleteN m x k))) := fun m w D c hm hr hc => by
        have := delete_yes D c m x n w hr (by omega) (by omega) (by omega)
        rw [hm, ek, Int.toNat_natCast] at this
        exact this.mono (RowPost.lit _ rfl ((deleteN_len m x k (by omega)).trans hm))
      have HC : Hid (∀ w D c, ReadC w D l → Calls Try.prog 8 #[.slice D l.length c, .int .i64 x, .int .i64 n] w (RowN w l.length (clearF l x n))) := fun w D c hr => (clear_any D c l x n w hr (by omega)).mono (RowPost.lit _ rfl (clearF_len _ _ _))
      have HP : Hid (∀ w D c, ReadC w D l → Calls Try.prog 10 #[.slice D l.length c, .int .i64 x, .agg #[.int .i32 0, .int .i64 0]] w (RowN w l.length (putF l x ⟨0, 0⟩))) := fun w D c hr => (put_any D c l x ⟨0, 0⟩ w hr (by omega)).mono (RowPost.lit _ rfl (putF_len _ _ _))
      have HIL := Lib.hid hil
      clear hil ek
      have PI := Lib.hid (fun j hj => insertN_at l x k j hkl hj)
      have PD := Lib.hid (fun j hj => deleteN_at l x k j hkl hj)
      have PB := Lib.hid (fun j hj => both_at l x k j hkl hj)
      have LD : Hid ((deleteN l x k).length = l.length) := deleteN_len l x k hkl
      have LB : Hid ((deleteN (insertN l x k) x k).length = l.length) := (deleteN_len _ x k (by rw [HIL.out]; exact hkl)).trans HIL.out
      obtain ⟨I, hI⟩ : ∃ I, I = insertN l x k := ⟨_, rfl⟩
      rw [← hI] at HI HIL PI PB LB
      clear hI
      obtain ⟨B, hB'⟩ : ∃ B, B = deleteN I x k := ⟨_, rfl⟩
      have HDB : Hid (∀ w D c, ReadC w D I → l.length ≤ c → Calls Try.prog 7 #[.slice D l.length c, .int .i64 x, .int .i64 n] w (RowN w l.length B)) := fun w D c hr hc => by rw [hB']; exact HD.out I w D c HIL.out hr hc
      have HDD : Hid (∀ w D c, ReadC w D l → l.length ≤ c → Calls Try.prog 7 #[.slice D l.length c, .int .i64 x, .int .i64 n] w (RowN w l.length (deleteN l x k))) := fun w D c hr hc => HD.out l w D c rfl hr hc
      rw [← hB'] at PB LB
      clear hB' HD
      obtain ⟨E, hE⟩ : ∃ E, E = deleteN l x k := ⟨_, rfl⟩
      rw [← hE] at HDD PD LD
      clear hE
      generalize clearF l x n = q1 at HC
      generalize putF l x ⟨0, 0⟩ = q2 at HP
      have hk1 : k ≤ l.length - x := by omega
      have hmin : (if (l.length : Int) - x < n then (l.length : Int) - x else (n : Int)) = k := by split <;> omega
      clear hk
      go_enter Try.func5, Try.ntmps5
      go_wp2_with fail
      refine (HI.out _ _ _ HR.out hc).mono ?_
      rintro e w1 ⟨g1, rfl, hg1, h1, hb1⟩
      have r1 := HR.out.below hb1 (Nat.le_refl _)
      go_wp2_with fail
      refine (HDB.out _ _ _ h1.read (Nat.le_refl _)).mono ?_
      rintro e w2 ⟨g2, rfl, hg2, h2, hb2⟩
      have r2 := r1.below hb2 (Nat.le_refl _)
      have h12 := h1.below hb2 h1.lt
      clear r1 h1
      go_wp2_with fail
      refine (HDD.out _ _ _ r2 hc).mono ?_
      rintro e w3 ⟨g3, rfl, hg3, h3, hb3⟩
      have r3 := r2.below hb3 (Nat.le_refl _)
      have h13 := h12.below hb3 h12.lt
      have h23 := h2.below hb3 h2.lt
      clear r2 h12 h2
      go_wp2_with fail
      refine (HC.out _ _ _ r3).mono ?_
      rintro e w4 ⟨g4, rfl, hg4, h4, hb4⟩
      clear h4
      have r4 := r3.below hb4 (Nat.le_refl _)
      have h14 := h13.below hb4 h13.lt
      have h24 := h23.below hb4 h23.lt
      have h34 := h3.below hb4 h3.lt
      clear r3 h13 h23 h3
      go_wp2_with fail
      refine (HP.out _ _ _ r4).mono ?_
      rintro e w5 ⟨g5, rfl, hg5, h5, hb5⟩
      clear h5
      have r5 := Lib.hid (r4.below hb5 (Nat.le_refl _))
      have h15 := Lib.hid (h14.below hb5 h14.lt)
      have h25 := Lib.hid (h24.below hb5 h24.lt)
      have h35 := Lib.hid (h34.below hb5 h34.lt)
      clear r4 h14 h24 h34
      have b5 : Below w.heap.size w w5 := below_next (below_next (below_next (below_next hb1 hb2) hb3) hb4) hb5
      clear hb1 hb2 hb3 hb4 hb5 HI HDB HDD HC HP hg1 hg2 hg3 hg4 hg5
      go_wp2_with fail
      go_loopw [88] (LongRel w5 l.length) (fun i _ => l.length - (intOf i).toNat)
      case atStart => exact ⟨0, rfl, Nat.zero_le _, Below.refl _ _⟩
      case round =>
        obtain ⟨j, rfl, hjl, hbr⟩ := hrel
        by_cases hlt : j < l.length
        · have hki : (j : Int) < (l.length : Int) := by omega
          obtain ⟨b, o, rfl, hbz, y0, y1⟩ := (r5.out.below hbr (Nat.le_refl _)) j hlt
          by_cases c1 : l.length - k ≤ j
          · have c2 : ¬ j < x := by omega
            have d1 : (l.length : Int) - k ≤ j := by omega
            have d2 : x ≤ j := by omega
            have d4 : decide (j < x) = false := decide_eq_false (by omega)
            by_cases c3 : j < x + k
            · have d3 : (j : Int) < (x : Int) + k := by omega
              go_upto_region 16 with fail
              refine wp_world (fun wq => Held wq wr.heap.size 23 #[.int .i32 32, .int .i64 0] ∧ Below w5.heap.size w5 wq) ⟨Held.new _ _ _, hbr.alloc hbr.size _⟩ ?_
              rintro wq ⟨hW, hbq⟩
              have k0 := hW.cell 0
              have k1 := hW.cell 1
              clear y0 y1 hW
              have qb := PB.out j hlt
              rw [if_pos c1] at qb
              obtain ⟨zb0, zb1⟩ := row_blank (h25.out.below hbq h25.out.lt) qb
              have qi := PI.out j hlt
              rw [if_neg c2, if_pos c3] at qi
              obtain ⟨zi0, zi1⟩ := row_blank (h15.out.below hbq h15.out.lt) qi
              clear qb qi
              clear r5 h15 h25 h35 PI PD PB HIL LB LD
              go_cut [159] (LongCut wq)
              case first =>

                go_quiet (fail)
                go_wp2_with fail
                go_meet
                exact ⟨rfl, _, rfl⟩
              case rest =>
                obtain ⟨rfl, nq, rfl⟩ := hcut
                go_wp2_with fail
                go_roundw
                case rel => exact ⟨j + 1, by go_num, by omega, below_drewN hbq _⟩
                case measure => simp [intOf]; omega
            · have d3 : decide ((j : Int) < (x : Int) + k) = false := decide_eq_false (by omega)
              go_upto_region 16 with fail
              refine wp_world (fun wq => Held wq wr.heap.size 23 #[.int .i32 32, .int .i64 0] ∧ Below w5.heap.size w5 wq) ⟨Held.new _ _ _, hbr.alloc hbr.size _⟩ ?_
              rintro wq ⟨hW, hbq⟩
              have k0 := hW.cell 0
              have k1 := hW.cell 1
              clear y0 y1 hW
              have qb := PB.out j hlt
              rw [if_pos c1] at qb
              obtain ⟨zb0, zb1⟩ := row_blank (h25.out.below hbq h25.out.lt) qb
              clear qb
              clear r5 h15 h25 h35 PI PD PB HIL LB LD
              go_cut [159] (LongCut wq)
              case first =>

                go_quiet (fail)
                go_wp2_with fail
                go_meet
                exact ⟨rfl, _, rfl⟩
              case rest =>
                obtain ⟨rfl, nq, rfl⟩ := hcut
                go_wp2_with fail
                go_roundw
                case rel => exact ⟨j + 1, by go_num, by omega, below_drewN hbq _⟩
                case measure => simp [intOf]; omega
          · have d1 : decide ((l.length : Int) - k ≤ j) = false := decide_eq_false (by omega)
            by_cases c2 : j < x
            · have d2 : j < x := by omega
              have d4 : decide (x ≤ j) = false := decide_eq_false (by omega)
              go_upto_region 16 with fail
              refine wp_world (fun wq => Held wq wr.heap.size 23 #[.int .i32 l[j].r, .int .i64 l[j].a] ∧ Below w5.heap.size w5 wq) ⟨Held.new _ _ _, hbr.alloc hbr.size _⟩ ?_
              rintro wq ⟨hW, hbq⟩
              have k0 := hW.cell 0
              have k1 := hW.cell 1
              clear y0 y1 hW
              have qb := PB.out j hlt
              rw [if_neg c1, List.getElem?_eq_getElem hlt] at qb
              obtain ⟨zb0, zb1⟩ := row_at (h25.out.below hbq h25.out.lt) qb
              have qi := PI.out j hlt
              rw [if_pos c2, List.getElem?_eq_getElem hlt] at qi
              obtain ⟨zi0, zi1⟩ := row_at (h15.out.below hbq h15.out.lt) qi
              have qd := PD.out j hlt
              rw [if_pos c2, List.getElem?_eq_getElem hlt] at qd
              obtain ⟨zd0, zd1⟩ := row_at (h35.out.below hbq h35.out.lt) qd
              obtain ⟨b', o', e', _, v0, v1⟩ := (r5.out.below hbq (Nat.le_refl _)) j hlt
              simp only [Option.some.injEq, Addr.mk.injEq, and_true] at e'
              obtain ⟨rfl, rfl⟩ := e'
              clear qb qi qd
              clear r5 h15 h25 h35 PI PD PB HIL LB LD
              go_cut [159] (LongCut wq)
              case first =>

                go_quiet (fail)
                go_wp2_with fail
                go_meet
                exact ⟨rfl, _, rfl⟩
              case rest =>
                obtain ⟨rfl, nq, rfl⟩ := hcut
                go_wp2_with fail
                go_roundw
                case rel => exact ⟨j + 1, by go_num, by omega, below_drewN hbq _⟩
                case measure => simp [intOf]; omega
            · have d2 : decide (j < x) = false := decide_eq_false (by omega)
              have d4 : x ≤ j := by omega
              by_cases c3 : j < x + k
              · have d3 : (j : Int) < (x : Int) + k := by omega
                go_upto_region 16 with fail
                refine wp_world (fun wq => Held wq wr.heap.size 23 #[.int .i32 l[j].r, .int .i64 l[j].a] ∧ Below w5.heap.size w5 wq) ⟨Held.new _ _ _, hbr.alloc hbr.size _⟩ ?_
                rintro wq ⟨hW, hbq⟩
                have k0 := hW.cell 0
                have k1 := hW.cell 1
                clear y0 y1 hW
                have qb := PB.out j hlt
                rw [if_neg c1, List.getElem?_eq_getElem hlt] at qb
                obtain ⟨zb0, zb1⟩ := row_at (h25.out.below hbq h25.out.lt) qb
                have qi := PI.out j hlt
                rw [if_neg c2, if_pos c3] at qi
                obtain ⟨zi0, zi1⟩ := row_blank (h15.out.below hbq h15.out.lt) qi
                clear qb qi
                clear r5 h15 h25 h35 PI PD PB HIL LB LD
                go_cut [159] (LongCut wq)
                case first =>

                  go_quiet (fail)
                  go_wp2_with fail
                  go_meet
                  exact ⟨rfl, _, rfl⟩
                case rest =>
                  obtain ⟨rfl, nq, rfl⟩ := hcut
                  go_wp2_with fail
                  go_roundw
                  case rel => exact ⟨j + 1, by go_num, by omega, below_drewN hbq _⟩
                  case measure => simp [intOf]; omega
              · have d3 : decide ((j : Int) < (x : Int) + k) = false := decide_eq_false (by omega)
                go_upto_region 16 with fail
                refine wp_world (fun wq => Held wq wr.heap.size 23 #[.int .i32 l[j].r, .int .i64 l[j].a] ∧ Below w5.heap.size w5 wq) ⟨Held.new _ _ _, hbr.alloc hbr.size _⟩ ?_
                rintro wq ⟨hW, hbq⟩
                have k0 := hW.cell 0
                have k1 := hW.cell 1
                clear y0 y1 hW
                have qb := PB.out j hlt
                rw [if_neg c1, List.getElem?_eq_getElem hlt] at qb
                obtain ⟨zb0, zb1⟩ := row_at (h25.out.below hbq h25.out.lt) qb
                clear qb
                clear r5 h15 h25 h35 PI PD PB HIL LB LD
                go_cut [159] (LongCut wq)
                case first =>

                  go_quiet (fail)
                  go_wp2_with fail
                  go_meet
                  exact ⟨rfl, _, rfl⟩
                case rest =>
                  obtain ⟨rfl, nq, rfl⟩ := hcut
                  go_wp2_with fail
                  go_roundw
                  case rel => exact ⟨j + 1, by go_num, by omega, below_drewN hbq _⟩
                  case measure => simp [intOf]; omega
        · go_wp2_with fail
          refine (awake_any _).mono ?_
          rintro e w6 ⟨rfl, hb6⟩
          go_wp2_with fail
          go_ret
          exact ⟨rfl, below_next b5 (below_next hbr hb6)⟩
end Go.Proofs.Ytpmioibgbknphaa
