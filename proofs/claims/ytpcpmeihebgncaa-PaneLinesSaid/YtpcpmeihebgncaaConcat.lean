/-
  What slices.Grow of nil, slices.Concat of tables of lines, and newest, blanks and part of package grid answer. Conditions: at most a hundred thousand lines together.
-/
import Derived.Test.YtpcpmeihebgncaaFill
import Derived.Deep.RegionHeld3
import Derived.BigQuiet
import Derived.StillTailTactics
namespace Go.Proofs.Ytpcpmeihebgncaa
open Go.RowKit
set_option maxRecDepth 100000

/-- A table of the call's own comes back, with the elements vs. -/
def TabPost (w : World) (vs : List Value) (e : Ending) (w' : World) : Prop := ∃ v, e = .returned v ∧ w'.ownsRow w.heap.size 46 1 v vs.length vs ∧ Below w.heap.size w w'

theorem zeroCells_one (z : Value) (n : Nat) : (Builtin.zeroCells #[z] n).size = n := by rw [size_zeroCells]; simp

set_option maxHeartbeats 400000 in
theorem grow_any (n : Nat) (w : World) (hn : n ≤ 100000) : Calls Try.prog 152 #[.slice none 0 0, .int .i64 n] w (TabPost w []) := by
  by_cases h0 : n = 0
  · subst h0
    go_enter Try.func152, Try.ntmps152
    go_wp2
    go_ret
    exact ⟨_, rfl, World.ownsRow_nil w _ 46 1, Below.refl _ _⟩
  · have hpos : 0 < n := by omega
    have hI := line_info
    cases hi : Try.prog.info? 46 with
    | none => simp [hi] at hI
    | some i =>
      simp only [hi, Option.map_some, Option.some.injEq, Prod.mk.injEq] at hI
      obtain ⟨hz, hs, hb⟩ := hI
      have HR := Lib.hid (fun ty => Lib.run_append_nil_zeros (P := Try.prog) w 33 3 ty 46 i _ .i64 .i64 Try.underlying33 Try.underlying3 hi hz n hpos (by omega) (by omega) (by rw [hb]; omega))
      have hge := grownCap_ge w n 0 46
      have hle := grownCap_le_maxLen w n 0 46 (by unfold maxLen; omega)
      generalize grownCap w n 0 46 = G at *
      have HO : Hid ((w.drew.alloc (.cells (Builtin.zeroCells (Value.slice none 0 0).cells n ++ Builtin.zeroCells (Value.slice none 0 0).cells (G - n)) 46)).ownsRow w.heap.size 46 1 (.slice (some ⟨w.heap.size, 0, none⟩) 0 G) 0 []) := by
        refine ⟨rfl, .inr ⟨w.heap.size, G, _, rfl, Nat.le_refl _, heap_alloc_new w.drew _, Nat.zero_le _, hle, ?_, rfl⟩⟩
        have e : (Value.slice none 0 0).cells = #[Value.slice none 0 0] := rfl
        rw [Array.size_append, e, zeroCells_one, zeroCells_one]
        omega
      have hle2 : G ≤ 9223372036854775807 := by unfold maxLen at hle; omega
      clear hz hs hb hi h0 hle
      have h1 : ¬ ((n : Int) < 0) := by omega
      have h2 : (n : Int) > 0 := by omega
      go_enter Try.func152, Try.ntmps152
      go_wp2_with (at_builtin; refine Lib.wpList_append_run _ rfl (.tmp 20) (.tmp 21) _ _ rfl _ _ rfl rfl _ _ (HR.out _) ?_)
      go_ret
      exact ⟨_, rfl, HO.out, (below_drewN (Below.refl _ _) 1).alloc (Nat.le_refl _) _⟩

/-- The values svs are tables with the elements vss. -/
def TabsV (w : World) (svs : List Value) (vss : List (List Value)) : Prop := svs.length = vss.length ∧ ∀ k (h : k < svs.length) (h' : k < vss.length), ∃ D c, svs[k] = .slice D vss[k].length c ∧ TabAt 0 w D vss[k]
def sumN (vss : List (List Value)) (k : Nat) : Nat := (vss.take k).flatten.length
theorem sumN_next (vss : List (List Value)) (k : Nat) (h : k < vss.length) : sumN vss (k + 1) = sumN vss k + vss[k].length := by
  unfold sumN
  rw [List.take_succ_eq_append_getElem h, List.flatten_append, List.length_append, List.flatten_singleton]
theorem flat_next (vss : List (List Value)) (k : Nat) (h : k < vss.length) : (vss.take (k + 1)).flatten = (vss.take k).flatten ++ vss[k] := by
  rw [List.take_succ_eq_append_getElem h, List.flatten_append, List.flatten_singleton]
theorem sumN_le (vss : List (List Value)) : ∀ k, sumN vss k ≤ vss.flatten.length := by
  intro k
  have : vss.flatten = (vss.take k).flatten ++ (vss.drop k).flatten := by rw [← List.flatten_append, List.take_append_drop]
  rw [this, List.length_append]
  exact Nat.le_add_right _ _
theorem TabsV.at {w w' : World} {T : Nat} {svs : List Value} {vss : List (List Value)} (h : TabsV w svs vss) (hT : Held w T 33 svs.toArray) (hb : Below w.heap.size w w') (k : Nat) (hk : k < vss.length) :
    ∃ D c, w'.cell? ⟨T, k, none⟩ = some (.slice D vss[k].length c) ∧ TabAt 0 w' D vss[k] := by
  have hs : k < svs.length := by rw [h.1]; exact hk
  obtain ⟨D, c, e, ht⟩ := h.2 k hs hk
  refine ⟨D, c, ?_, ht.below hb (Nat.le_refl _)⟩
  rw [(hT.below hb hT.lt).cell, ← e]
  simp [hs]

def SumRel (w : World) (vss : List (List Value)) (s i : Value) (wr : World) : Prop := ∃ k : Nat, i = .int .i64 (k : Int) ∧ s = .int .i64 (sumN vss k : Int) ∧ k ≤ vss.length ∧ w = wr
def CatRel (w : World) (vss : List (List Value)) (v i : Value) (wr : World) : Prop := ∃ k : Nat, i = .int .i64 (k : Int) ∧ k ≤ vss.length ∧ wr.ownsRow w.heap.size 46 1 v (sumN vss k) (vss.take k).flatten ∧ Below w.heap.size w wr

set_option maxHeartbeats 400000 in
theorem concat_any (T : Nat) (svs : List Value) (vss : List (List Value)) (w : World) (hT : Held w T 33 svs.toArray) (hs : TabsV w svs vss) (h1 : ∀ y ∈ vss.flatten, y.oneCell' = true) (hn : vss.flatten.length ≤ 100000) (hq : vss.length ≤ 100) :
    Calls Try.prog 135 #[.slice (some ⟨T, 0, none⟩) vss.length vss.length] w (TabPost w vss.flatten) := by
  have HT := Lib.hid hT
  have HS := Lib.hid hs
  clear hT hs
  go_enter Try.func135, Try.ntmps135
  go_wp2_with fail
  go_loopw [3, 11] (SumRel w vss) (fun _ i _ => vss.length - (intOf i).toNat)
  case atStart => exact ⟨0, rfl, rfl, Nat.zero_le _, rfl⟩
  case round =>
    obtain ⟨k, rfl, rfl, hk, rfl⟩ := hrel
    by_cases hlt : k < vss.length
    · have hki : (k : Int) < (vss.length : Int) := by omega
      obtain ⟨D, c, hc, _⟩ := HS.out.at HT.out (Below.refl _ _) k hlt
      have hsl := sumN_le vss (k + 1)
      have hsn := sumN_next vss k hlt
      rw [hsn] at hsl
      have HN := Lib.hid hsn
      clear hsn
      generalize vss[k] = q at *
      have hneg : ¬ ((sumN vss k : Int) + q.length < 0) := by omega
      go_wp2_with fail
      go_roundw
      case rel => exact ⟨k + 1, by go_num, by rw [HN.out]; go_num, by omega, rfl⟩
      case measure => simp [intOf]; omega
    · obtain rfl : k = vss.length := by omega
      have hki : ¬ (vss.length : Int) < (vss.length : Int) := by omega
      have hsl := sumN_le vss vss.length
      go_wp2_with (go_at_call 152; refine (grow_any _ _ (by omega)).mono ?_; rintro e w1 ⟨v1, rfl, ho1, hb1⟩)
      go_loopw [6, 27] (CatRel w vss) (fun _ i _ => vss.length - (intOf i).toNat)
      case atStart => exact ⟨0, rfl, Nat.zero_le _, ho1, hb1⟩
      case round =>
        obtain ⟨k, rfl, hk, ho, hb⟩ := hrel
        by_cases hlt : k < vss.length
        · have hki : (k : Int) < (vss.length : Int) := by omega
          obtain ⟨D, c, hc, htab⟩ := HS.out.at HT.out hb k hlt
          have hsl := sumN_le vss (k + 1)
          have hsn := sumN_next vss k hlt
          have hfn := flat_next vss k hlt
          rw [hsn] at hsl
          have h1q : ∀ y ∈ vss[k], y.oneCell' = true := fun y hy => h1 y (List.mem_flatten.2 ⟨_, List.getElem_mem hlt, hy⟩)
          have HN := Lib.hid hsn
          have HF := Lib.hid hfn
          have HO := Lib.hid ho
          have HQ := Lib.hid htab.src
          have H1 := Lib.hid h1q
          clear hsn hfn ho htab h1q
          generalize vss[k] = q at *
          go_wp2_with (
            at_builtin
            refine wpList_append_src _ rfl (.tmp 31) (.tmp 32) 33 rfl rowL w.heap.size (sumN vss k) q.length c _ D _ q rfl rfl HO.out HQ.out (by omega) H1.out (by omega) hb.size ?_
            rintro v2 w2 ⟨ho2, hb2, _⟩)
          go_roundw
          case rel => exact ⟨k + 1, by go_num, by omega, by rw [HN.out, HF.out]; exact ho2, hb.trans hb2⟩
          case measure => simp [intOf]; omega
        · obtain rfl : k = vss.length := by omega
          have hki : ¬ (vss.length : Int) < (vss.length : Int) := by omega
          have HO := Lib.hid ho
          clear ho
          go_wp2_with fail
          go_ret
          have := HO.out
          rw [List.take_length] at this
          exact ⟨_, rfl, by have e : sumN vss vss.length = vss.flatten.length := by simp [sumN]
                            rw [← e]; exact this, hb⟩

/-! ### newest, blanks, part -/
/-- 'back[max(0, len(back)-50):]'. -/
def CutPost (w : World) (vs : List Value) (e : Ending) (w' : World) : Prop := ∃ E k, e = .returned (.slice E vs.length k) ∧ vs.length ≤ k ∧ TabAt 0 w E vs ∧ w = w'
set_option maxHeartbeats 400000 in
theorem newest_nil (w : World) : Calls Try.prog 134 #[.slice none 0 0] w (CutPost w []) := by
  go_enter Try.func134, Try.ntmps134
  go_wp2
  go_ret
  exact ⟨none, 0, rfl, Nat.le_refl _, TabAt.nil _ _ _, rfl⟩
set_option maxHeartbeats 400000 in
theorem newest_some (b off c : Nat) (vs : List Value) (w : World) (hr : TabAt 0 w (some ⟨b, off, none⟩) vs) (hc : vs.length ≤ c) (hn : vs.length ≤ 100000) : Calls Try.prog 134 #[.slice (some ⟨b, off, none⟩) vs.length c] w (CutPost w (vs.drop (vs.length - 50))) := by
  have HR := Lib.hid hr
  clear hr
  by_cases h : vs.length ≤ 50
  · have hd : (0 : Int) < (vs.length : Int) - 50 → False := by omega
    go_enter Try.func134, Try.ntmps134
    go_wp2
    go_ret
    have e : vs.drop (vs.length - 50) = vs := by rw [show vs.length - 50 = 0 by omega, List.drop_zero]
    rw [e]
    exact ⟨_, _, rfl, hc, HR.out, rfl⟩
  · have hd : (0 : Int) < (vs.length : Int) - 50 := by omega
    have t1 : ((vs.length : Int) - 50).toNat = vs.length - 50 := by omega
    have t2 : (vs.length : Int) - 50 ≤ vs.length := by omega
    have hcx : ¬ c = vs.length - 50 := by omega
    go_enter Try.func134, Try.ntmps134
    go_wp2
    go_ret
    have := HR.out.cut (lo := vs.length - 50) hc
    rw [if_neg hcx] at this
    exact ⟨_, c - (vs.length - 50), by rw [List.length_drop]; rfl, by rw [List.length_drop]; omega, this, rfl⟩
theorem newest_own (B n : Nat) (v : Value) (vs : List Value) (w : World) (h : w.ownsRow B 46 1 v n vs) (hn : vs.length ≤ 100000) : Calls Try.prog 134 #[v] w (CutPost w (vs.drop (vs.length - 50))) := by
  have hl : vs.length = n := by have := h.1; omega
  have ht := own_tab h
  rcases h.2 with ⟨rfl, rfl⟩ | ⟨g, cap, cur, rfl, hg, hh, hcap, _⟩
  · have : vs = [] := List.eq_nil_of_length_eq_zero hl
    subst this
    exact newest_nil w
  · obtain ⟨D, c, e, h1, h2⟩ := ht
    cases e
    exact newest_some g 0 cap vs w (h2.weak (Nat.zero_le _)) h1 hn

def blankL (x : Int) (h : Nat) : List (List C) := List.replicate h (blankF x)
theorem fitted_nil (x : Int) (h : Nat) : fittedF [] x h = blankL x h := by
  apply List.ext_getElem
  · simp [fittedF, blankL]
  · intro i h1 h2
    rw [fittedF_out [] x h i h1 (by simp)]
    simp [blankL]
set_option maxHeartbeats 400000 in
theorem gblanks_any (x : Int) (h : Nat) (w : World) (hn : h ≤ 1050) : Calls Try.prog 88 #[.int .i64 x, .int .i64 h] w (LinesPost w (blankL x h)) := by
  have HF := Lib.hid (fitted_any none 0 [] x h w (Lines.nil _ _ _) hn)
  rw [fitted_nil] at HF
  generalize blankL x h = q at *
  go_enter Try.func88, Try.ntmps88
  go_wp2_with (go_at_call 90; refine HF.out.mono ?_; rintro e w1 ⟨g, rfl, h1, h2⟩)
  go_ret
  exact ⟨g, rfl, h1, h2⟩

/-! ### a screen as a value -/
/-- All of a screen but its lines. -/
structure Nm where
  w : Int
  h : Int
  x : Int
  y : Int
  wrap : Bool
  a : Int
  top : Int
  bottom : Int
  sx : Int
  sy : Int
  sa : Int
  noWrap : Bool
  hidden : Bool
def gcs (p : Nm) (r b : Value) : Array Value := #[.int .i64 p.w, .int .i64 p.h, .int .i64 p.x, .int .i64 p.y, .bool p.wrap, .int .i64 p.a, .int .i64 p.top, .int .i64 p.bottom, .int .i64 p.sx, .int .i64 p.sy, .int .i64 p.sa, .bool p.noWrap, .bool p.hidden, r, b]
def gv (p : Nm) (r b : Value) : Value := .agg (gcs p r b)

theorem wp_world {P : Program} {c : Code} {Q : Exit → Act → World → Prop} {a : Act} {w : World} (R : World → Prop) (h : R w) (k : ∀ wq, R wq → Code.wp P c Q a wq) : Code.wp P c Q a w := k w h
/-- Where the rows from top to bottom begin, and end, of n rows. -/
def fromF (n : Nat) (top : Int) : Nat := (withinF top (n - 1)).toNat
def toF (n : Nat) (top bottom : Int) : Nat := max (fromF n top) ((withinF bottom (n - 1)).toNat + 1)
def PartPost (w : World) (f t : Nat) (e : Ending) (w' : World) : Prop := e = .returned (.tuple #[.int .i64 (f : Int), .int .i64 (t : Int)]) ∧ Below w.heap.size w w'

theorem ret_t {x a b : Int} (h : a = b) : Ending.returned (.tuple #[.int .i64 x, .int .i64 a]) = .returned (.tuple #[.int .i64 x, .int .i64 b]) := by rw [h]
set_option maxHeartbeats 1000000 in
theorem part_any (p : Nm) (D : Option Addr) (n c : Nat) (b : Value) (top bottom : Int) (w : World) (h0 : 1 ≤ n) (hn : n ≤ 1050) : Calls Try.prog 133 #[gv p (.slice D n c) b, .int .i64 top, .int .i64 bottom] w (PartPost w (fromF n top) (toF n top bottom)) := by
  obtain ⟨f, hf⟩ : ∃ f : Nat, withinF top ((n : Int) - 1) = f := ⟨(withinF top (n - 1)).toNat, by unfold withinF; omega⟩
  obtain ⟨t, ht⟩ : ∃ t : Nat, withinF bottom ((n : Int) - 1) = t := ⟨(withinF bottom (n - 1)).toNat, by unfold withinF; omega⟩
  have htn : t + 1 ≤ n := by have : withinF bottom (n - 1) ≤ n - 1 := by unfold withinF; omega
                             omega
  have HA : Hid (∀ w, Calls Try.prog 91 #[.int .i64 top, .int .i64 ((n : Int) - 1)] w fun e w' => e = .returned (.int .i64 f) ∧ w = w') := fun w => by rw [← hf]; exact gwithin_any top _ w
  have HB : Hid (∀ w, Calls Try.prog 91 #[.int .i64 bottom, .int .i64 ((n : Int) - 1)] w fun e w' => e = .returned (.int .i64 t) ∧ w = w') := fun w => by rw [← ht]; exact gwithin_any bottom _ w
  have e1 : fromF n top = f := by unfold fromF; rw [hf]; rfl
  have e2 : toF n top bottom = max f (t + 1) := by unfold toF; rw [e1, ht]; rfl
  rw [e1, e2]
  clear e1 e2 hf ht
  unfold gv gcs
  obtain ⟨pw, ph, px, py, pwr, pa, pt, pb, psx, psy, psa, pn, phd⟩ := p
  go_enter Try.func133, Try.ntmps133
  go_wp2_with (go_at_call 91; refine (HA.out _).mono ?_; rintro e w' ⟨rfl, rfl⟩)
  refine wp_world (fun wq => wq.cell? ⟨w.heap.size, 13, none⟩ = some (.slice D n c) ∧ Below w.heap.size w wq) ⟨Held.cell (Held.new _ _ _) 13, (Below.refl _ _).alloc (Nat.le_refl _) _⟩ ?_
  rintro wq ⟨c13, hbq⟩
  have s1 : IntKind.i64.wrap ((t : Int) + 1) = (t : Int) + 1 := IntWalk.i64_in _ (by omega)
  go_still_tail 7, (by kernel_rfl)
  repeat still_step
  still_call ((HB.out _).mono fun _ _ ⟨h1, h2⟩ => ⟨h1, h2.symm⟩)
  repeat still_step
  refine wpStill_nil ?_
  change wpList _ _ _ _ _ wq.drew
  have hb3 : Below w.heap.size w wq.drew := below_drewN hbq 1
  generalize wq.drew = w3 at *
  go_wp2_with fail
  all_goals
    go_ret2
    refine ⟨ret_t ?_, hb3⟩
    omega
end Go.Proofs.Ytpcpmeihebgncaa
