/-
  The walk of RowsOwn. Conditions: the row that came in reads as cells, and is no longer than its room.
-/
import Derived.Test.YtpmioibgbknphaaGrow
import Derived.BigQuiet
import Derived.Deep.Cut
import Derived.Deep.DeepCutAuto
namespace Go.Proofs.Ytpmioibgbknphaa
open Go.RowKit

/-- Where the five rows lie. -/
def five (g1 g2 g3 g4 g5 : Nat) (k : Nat) : Nat := match k with | 0 => g1 | 1 => g2 | 2 => g3 | 3 => g4 | _ => g5
def fiveV (n g1 g2 g3 g4 g5 : Nat) : Array Value := #[.slice (some ⟨g1, 0, none⟩) n n, .slice (some ⟨g2, 0, none⟩) n n, .slice (some ⟨g3, 0, none⟩) n n, .slice (some ⟨g4, 0, none⟩) n n, .slice (some ⟨g5, 0, none⟩) n n]
theorem fiveV_at (n g1 g2 g3 g4 g5 k : Nat) (h : k < 5) : (fiveV n g1 g2 g3 g4 g5)[k]? = some (.slice (some ⟨five g1 g2 g3 g4 g5 k, 0, none⟩) n n) := by
  match k, h with
  | 0, _ => rfl
  | 1, _ => rfl
  | 2, _ => rfl
  | 3, _ => rfl
  | 4, _ => rfl

/-- The rows are there, whatever they hold; their table is; all that was there ahead of them is as it was. -/
structure OwnSt (w1 wr : World) (n T : Nat) (tab : Array Value) (G : Nat → Nat) : Prop where
  rows : ∀ k, k < 5 → ∃ zs : List C, zs.length = n ∧ Row wr (G k) zs
  high : ∀ k, k < 5 → w1.heap.size ≤ G k
  table : Held wr T 24 tab
  below : Below w1.heap.size w1 wr
theorem OwnSt.later {w1 wr w' : World} {n T : Nat} {tab : Array Value} {G : Nat → Nat} (h : OwnSt w1 wr n T tab G) (hb : Below wr.heap.size wr w') : OwnSt w1 w' n T tab G :=
  ⟨fun k hk => by obtain ⟨zs, h1, h2⟩ := h.rows k hk; exact ⟨zs, h1, h2.below hb h2.lt⟩, h.high, h.table.below hb h.table.lt, below_next h.below hb⟩
theorem OwnSt.set {w1 wr : World} {n T : Nat} {tab : Array Value} {G : Nat → Nat} (h : OwnSt w1 wr n T tab G) (k : Nat) (hk : k < 5) (j : Nat) (hj : j < n) (a : Int) : OwnSt w1 (wr.setCell ⟨G k, j * 2 + 1, none⟩ (.int .i64 a)) n T tab G := by
  refine ⟨fun m hm => ?_, h.high, ?_, h.below.setCell (p := ⟨G k, j * 2 + 1, none⟩) (h.high k hk) _⟩
  · obtain ⟨zs, h1, h2⟩ := h.rows m hm
    by_cases e : G m = G k
    · rw [← e]
      exact ⟨_, by rw [List.length_set]; exact h1, h2.setA j (by omega) a⟩
    · exact ⟨zs, h1, Held.far h2 e _⟩
  · obtain ⟨zs, h1, h2⟩ := h.rows k hk
    exact h.table.far (p := ⟨G k, j * 2 + 1, none⟩) (Held.ne (u := 23) h.table h2 (by decide)) _

def OwnRel (w1 : World) (n T : Nat) (tab : Array Value) (G : Nat → Nat) (i : Value) (wr : World) : Prop := ∃ k : Nat, i = .int .i64 k ∧ k ≤ 5 ∧ OwnSt w1 wr n T tab G
def InRel (w1 : World) (n T : Nat) (tab : Array Value) (G : Nat → Nat) (i : Value) (wr : World) : Prop := ∃ j : Nat, i = .int .i64 j ∧ j ≤ n ∧ OwnSt w1 wr n T tab G
def LastRel (w1 : World) (n : Nat) (i : Value) (wr : World) : Prop := ∃ j : Nat, i = .int .i64 j ∧ j ≤ n ∧ Below w1.heap.size w1 wr

set_option maxRecDepth 100000 in
set_option maxHeartbeats 4000000 in
theorem own_walk (x0 n0 : Int) (D : Option Addr) (c : Nat) (l : List C) (w : World) (hr : ReadC w D l) (hc : l.length ≤ c) :
    Calls Try.prog 4 #[.slice D l.length c, .int .i64 x0, .int .i64 n0] w (TrueBelow w) := by
  have HR := Lib.hid hr
  clear hr
  by_cases hbig : 200 < l.length
  · have hbi : (200 : Int) < (l.length : Int) := by omega
    go_enter Try.func4, Try.ntmps4
    go_wp2_with fail
    refine (awake_any _).mono ?_
    rintro e w1 ⟨rfl, hb1⟩
    go_wp2_with fail
    go_ret
    exact ⟨rfl, hb1⟩
  · have hbi : ¬ (200 : Int) < (l.length : Int) := by omega
    by_cases hz : l.length = 0
    · have hzi : ((l.length : Int) == 0) = true := by rw [hz]; rfl
      have hbd : decide ((200 : Int) < (l.length : Int)) = false := decide_eq_false hbi
      clear hz
      go_enter Try.func4, Try.ntmps4
      go_wp2_with fail
      refine (awake_any _).mono ?_
      rintro e w1 ⟨rfl, hb1⟩
      go_wp2_with fail
      go_ret
      exact ⟨rfl, hb1⟩
    · have hzi : ((l.length : Int) == 0) = false := beq_eq_false_iff_ne.2 (by omega)
      have hpos : 0 < l.length := by omega
      have hle : l.length ≤ 200 := by omega
      clear hz hbig
      have hA := i64_and255 x0
      have hB := i64_and7 n0
      obtain ⟨X, eX, X0, X1⟩ : ∃ X : Int, X = x0 % 256 ∧ 0 ≤ X ∧ X ≤ 255 := ⟨_, rfl, by omega, by omega⟩
      obtain ⟨n, en, hn⟩ : ∃ n : Nat, n0 % 8 = n ∧ n ≤ 7 := ⟨(n0 % 8).toNat, by omega, by omega⟩
      rw [← eX] at hA
      rw [en] at hB
      clear eX en
      obtain ⟨x, ex, hx⟩ : ∃ x : Nat, X % (l.length : Int) = x ∧ x < l.length := ⟨(X % (l.length : Int)).toNat, by have := Int.emod_nonneg X (show (l.length : Int) ≠ 0 by omega); omega, by have := Int.emod_lt_of_pos X (show (0 : Int) < l.length by omega); have := Int.emod_nonneg X (show (l.length : Int) ≠ 0 by omega); omega⟩
      have HI : Hid (∀ w, ReadC w D l → Calls Try.prog 6 #[.slice D l.length c, .int .i64 x, .int .i64 n] w (RowN w l.length (insertF l x n))) := fun w hr => (insert_any D c l x n w hr hc (by omega)).mono (RowPost.lit _ rfl (insertF_len _ _ _))
      have HD : Hid (∀ w, ReadC w D l → Calls Try.prog 7 #[.slice D l.length c, .int .i64 x, .int .i64 n] w (RowN w l.length (deleteF l x n))) := fun w hr => (delete_any D c l x n w hr hc (by omega)).mono (RowPost.lit _ rfl (deleteF_len _ _ _))
      have HC : Hid (∀ w, ReadC w D l → Calls Try.prog 8 #[.slice D l.length c, .int .i64 x, .int .i64 (x + n)] w (RowN w l.length (clearF l x (x + n)))) := fun w hr => (clear_any D c l x (x + n) w hr (by omega)).mono (RowPost.lit _ rfl (clearF_len _ _ _))
      have HP : Hid (∀ w, ReadC w D l → Calls Try.prog 10 #[.slice D l.length c, .int .i64 x, .agg #[.int .i32 0, .int .i64 0]] w (RowN w l.length (putF l x ⟨0, 0⟩))) := fun w hr => (put_any D c l x ⟨0, 0⟩ w hr (by omega)).mono (RowPost.lit _ rfl (putF_len _ _ _))
      have HF : Hid (∀ w, ReadC w D l → Calls Try.prog 9 #[.slice D l.length c, .int .i64 l.length] w (RowN w l.length (fitF l l.length))) := fun w hr => (fit_any D c l l.length w hr).mono (RowPost.lit _ rfl (by rw [fitF_len]; unfold withinF; omega))
      have L1 : Hid ((insertF l x n).length = l.length) := insertF_len _ _ _
      have L2 : Hid ((deleteF l x n).length = l.length) := deleteF_len _ _ _
      have L3 : Hid ((clearF l x (x + n)).length = l.length) := clearF_len _ _ _
      have L4 : Hid ((putF l x ⟨0, 0⟩).length = l.length) := putF_len _ _ _
      have L5 : Hid ((fitF l l.length).length = l.length) := by
        show _ = _
        rw [fitF_len]; unfold withinF; omega
      generalize insertF l x n = q1 at HI L1
      generalize deleteF l x n = q2 at HD L2
      generalize clearF l x (x + n) = q3 at HC L3
      generalize putF l x ⟨0, 0⟩ = q4 at HP L4
      generalize fitF l l.length = q5 at HF L5
      go_enter Try.func4, Try.ntmps4
      go_wp2_with (first
        | (at_builtin
           refine wpList_growC rfl (.tmp 21) (.tmp 22) rfl ⟨w.heap.size, 0, none⟩ 0 [] rfl rfl (readC_nil _ _) D l.length c l rfl rfl hpos (HR.out.alloc _) (by omega) ?_
           intro v1 w1 hgr
           obtain ⟨⟨gw, cw, rfl, hrw⟩, hb1⟩ := hgr
           rw [List.nil_append] at hrw
           simp only [List.nil_append]))
      have b1 : Below w.heap.size w w1 := ((Below.refl _ w).alloc (Nat.le_refl _) _).trans (hb1.mono (by simp))
      have r1 := HR.out.below b1 (Nat.le_refl _)
      have R1 := Lib.hid r1
      have W1 := Lib.hid hrw
      clear hb1 hrw
      refine (HI.out _ r1).mono ?_
      rintro e w2 ⟨g1, rfl, hg1, h1, hb2⟩
      have r2 := r1.below hb2 (Nat.le_refl _)
      clear r1
      go_wp2_with fail
      refine (HD.out _ r2).mono ?_
      rintro e w3 ⟨g2, rfl, hg2, h2, hb3⟩
      have r3 := r2.below hb3 (Nat.le_refl _)
      have h13 := h1.below hb3 h1.lt
      clear r2 h1
      go_wp2_with fail
      refine (HC.out _ r3).mono ?_
      rintro e w4 ⟨g3, rfl, hg3, h3, hb4⟩
      have r4 := r3.below hb4 (Nat.le_refl _)
      have h14 := h13.below hb4 h13.lt
      have h24 := h2.below hb4 h2.lt
      clear r3 h13 h2
      go_wp2_with fail
      refine (HP.out _ r4).mono ?_
      rintro e w5 ⟨g4, rfl, hg4, h4, hb5⟩
      have r5 := r4.below hb5 (Nat.le_refl _)
      have h15 := h14.below hb5 h14.lt
      have h25 := h24.below hb5 h24.lt
      have h35 := h3.below hb5 h3.lt
      clear r4 h14 h24 h3
      go_wp2_with fail
      refine (HF.out _ r5).mono ?_
      rintro e w6 ⟨g5, rfl, hg5, h5, hb6⟩
      have h16 := (h15.below hb6 h15.lt).alloc (.cells (fiveV l.length g1 g2 g3 g4 g5) 24)
      have h26 := (h25.below hb6 h25.lt).alloc (.cells (fiveV l.length g1 g2 g3 g4 g5) 24)
      have h36 := (h35.below hb6 h35.lt).alloc (.cells (fiveV l.length g1 g2 g3 g4 g5) 24)
      have h46 := (h4.below hb6 h4.lt).alloc (.cells (fiveV l.length g1 g2 g3 g4 g5) 24)
      have h56 := h5.alloc (.cells (fiveV l.length g1 g2 g3 g4 g5) 24)
      have s2 := hb2.size
      have s3 := hb3.size
      have s4 := hb4.size
      have s5 := hb5.size
      have b6 : Below w1.heap.size w1 w6 := below_next (below_next (below_next (below_next hb2 hb3) hb4) hb5) hb6
      have HS : Hid (OwnSt w1 (w6.alloc (.cells (fiveV l.length g1 g2 g3 g4 g5) 24)) l.length w6.heap.size (fiveV l.length g1 g2 g3 g4 g5) (five g1 g2 g3 g4 g5)) := by
        refine ⟨fun k hk => ?_, fun k hk => ?_, Held.new _ _ _, b6.alloc b6.size _⟩
        · match k, hk with
          | 0, _ => exact ⟨q1, L1.out, h16⟩
          | 1, _ => exact ⟨q2, L2.out, h26⟩
          | 2, _ => exact ⟨q3, L3.out, h36⟩
          | 3, _ => exact ⟨q4, L4.out, h46⟩
          | 4, _ => exact ⟨q5, L5.out, h56⟩
        · match k, hk with
          | 0, _ => exact hg1
          | 1, _ => exact (by omega : w1.heap.size ≤ g2)
          | 2, _ => exact (by omega : w1.heap.size ≤ g3)
          | 3, _ => exact (by omega : w1.heap.size ≤ g4)
          | 4, _ => exact (by omega : w1.heap.size ≤ g5)
      clear r5 h15 h25 h35 h4 h5 h16 h26 h36 h46 h56 hb2 hb3 hb4 hb5 hb6 s2 s3 s4 s5 hg1 hg2 hg3 hg4 hg5 b6 HI HD HC HP HF L1 L2 L3 L4 L5
      have HT := Lib.hid (fun k hk => fiveV_at l.length g1 g2 g3 g4 g5 k hk)
      go_wp2_with fail
      go_loopw [55] (OwnRel w1 l.length w6.heap.size (fiveV l.length g1 g2 g3 g4 g5) (five g1 g2 g3 g4 g5)) (fun i _ => 5 - (intOf i).toNat)
      case atStart => exact ⟨0, rfl, Nat.zero_le _, HS.out⟩
      case round =>
        obtain ⟨k, rfl, hk5, hst⟩ := hrel
        by_cases hlt : k < 5
        · have hki : (k : Int) < 5 := by omega
          have ht := (hst.table.cell k).trans (HT.out k hlt)
          go_wp2_with fail
          go_loopw [61] (InRel w1 l.length w6.heap.size (fiveV l.length g1 g2 g3 g4 g5) (five g1 g2 g3 g4 g5)) (fun i _ => l.length - (intOf i).toNat)
          case atStart => exact ⟨0, rfl, Nat.zero_le _, hst⟩
          case round =>
            obtain ⟨j, rfl, hjn, hsj⟩ := hrel
            by_cases hj : j < l.length
            · have hji : (j : Int) < (l.length : Int) := by omega
              obtain ⟨av, c1, cf⟩ : ∃ av, wr.cell? ⟨five g1 g2 g3 g4 g5 k, j * 2 + 1, none⟩ = some (.int .i64 av) ∧ ∀ o, wr.frozen? ⟨five g1 g2 g3 g4 g5 k, o, none⟩ = false := by
                obtain ⟨zs, hzl, hrow⟩ := hsj.rows k hlt
                exact ⟨_, (hrow.cells j (by omega)).2, hrow.frozen⟩
              go_wp2_with fail
              go_roundw
              case rel => exact ⟨j + 1, by go_num, by omega, hsj.set k hlt j hj _⟩
              case measure => simp [intOf]; omega
            · have ej : j = l.length := by omega
              subst ej
              obtain ⟨zs, hzl, hread⟩ : ∃ zs : List C, zs.length = l.length ∧ ReadC wr (some ⟨five g1 g2 g3 g4 g5 k, 0, none⟩) zs := by
                obtain ⟨zs, hzl, hrow⟩ := hsj.rows k hlt
                exact ⟨zs, hzl, hrow.read⟩
              have HZ := Lib.hid hzl
              have HZR := Lib.hid hread
              clear hzl hread
              go_wp2_with (first
                | (at_builtin
                   refine wpList_growC rfl (.tmp 75) (.tmp 77) rfl ⟨five g1 g2 g3 g4 g5 k, 0, none⟩ l.length zs rfl HZ.out (HZR.out.alloc _) _ 1 1 [⟨33, 0⟩] rfl rfl (by decide) (row_new wr [⟨33, 0⟩]).read (by omega) ?_
                   intro v7 w7 hgr
                   obtain ⟨⟨g7, c7, rfl, hr7⟩, hb7⟩ := hgr
                   clear hr7))
              go_roundw
              case rel => exact ⟨k + 1, by go_num, by omega, hsj.later (((Below.refl _ wr).alloc (Nat.le_refl _) _).trans (hb7.mono (by simp)))⟩
              case measure => simp [intOf]; omega
        · have hki : ¬ (k : Int) < 5 := by omega
          have bL := hst.below
          clear HT hst
          go_wp2_with fail
          go_loopw [82] (LastRel w1 l.length) (fun i _ => l.length - (intOf i).toNat)
          case atStart => exact ⟨0, rfl, Nat.zero_le _, bL⟩
          case round =>
            obtain ⟨j, rfl, hjn, hbj⟩ := hrel
            by_cases hj : j < l.length
            · have hji : (j : Int) < (l.length : Int) := by omega
              obtain ⟨rb, ro, rfl, _, y0, y1⟩ := (R1.out.below hbj (Nat.le_refl _)) j hj
              obtain ⟨wb, wo, e', _, z0, z1⟩ := (W1.out.below hbj (Nat.le_refl _)) j hj
              simp only [Option.some.injEq, Addr.mk.injEq, and_true] at e'
              obtain ⟨rfl, rfl⟩ := e'
              rw [Nat.zero_add] at z0 z1
              generalize l[j] = z at y0 y1 z0 z1
              obtain ⟨zr, za⟩ := z
              go_wp2_with fail
              go_quiet (fail)
              go_wp2_with fail
              go_roundw
              case rel => exact ⟨j + 1, by go_num, by omega, below_drewN hbj _⟩
              case measure => simp [intOf]; omega
            · have hji : ¬ (j : Int) < (l.length : Int) := by omega
              go_wp2_with fail
              refine (awake_any _).mono ?_
              rintro e w8 ⟨rfl, hb8⟩
              go_wp2_with fail
              go_ret
              exact ⟨rfl, below_next b1 (below_next hbj hb8)⟩
end Go.Proofs.Ytpmioibgbknphaa
