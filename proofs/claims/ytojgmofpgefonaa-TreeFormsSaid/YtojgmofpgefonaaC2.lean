/-
  What slices.Grow of nil and slices.Concat of rows of nodes answer; slices.Clone. Conditions: at most a hundred thousand nodes together.
-/
import Derived.Test.YtojgmofpgefonaaB2
import Derived.Lib.SliceRun
namespace Go.Proofs.Ytojgmofpgefonaa
open Go.RowKit
set_option linter.unusedSimpArgs false
set_option maxRecDepth 100000

/-- A table of the call's own comes back, with the elements vs. -/
def TabPost (w : World) (l : List N) (e : Ending) (w' : World) : Prop := ∃ v, e = .returned v ∧ w'.ownsRow w.heap.size 23 5 v l.length (EN.flat l) ∧ Below w.heap.size w w'

theorem zeroCells_five (n : Nat) : (Builtin.zeroCells #[.int .i64 0, .int .i64 0, .int .i64 0, .int .i64 0, .int .i64 0] n).size = n * 5 := by rw [size_zeroCells]; rfl

set_option maxHeartbeats 400000 in
theorem grow_any (n : Nat) (w : World) (hn : n ≤ 100000) : Calls Try.prog 65 #[.slice none 0 0, .int .i64 n] w (TabPost w []) := by
  by_cases h0 : n = 0
  · subst h0
    go_enter Try.func65, Try.ntmps65
    go_wp2
    go_ret
    exact ⟨_, rfl, World.ownsRow_nil w _ 23 5, Below.refl _ _⟩
  · have hpos : 0 < n := by omega
    have hI := node_info
    cases hi : Try.prog.info? 23 with
    | none => simp [hi] at hI
    | some i =>
      simp only [hi, Option.map_some, Option.some.injEq, Prod.mk.injEq] at hI
      obtain ⟨hz, hs, hb⟩ := hI
      have HR := Lib.hid (fun ty => Lib.run_append_nil_zeros (P := Try.prog) w 26 3 ty 23 i _ .i64 .i64 Try.underlying26 Try.underlying3 hi hz n hpos (by omega) (by omega) (by rw [hb]; omega))
      have hge := grownCap_ge w n 0 23
      have hle := grownCap_le_maxLen w n 0 23 (by unfold maxLen; omega)
      generalize grownCap w n 0 23 = G at *
      have HO : Hid ((w.drew.alloc (.cells (Builtin.zeroCells (Value.agg #[.int .i64 0, .int .i64 0, .int .i64 0, .int .i64 0, .int .i64 0]).cells n ++ Builtin.zeroCells (Value.agg #[.int .i64 0, .int .i64 0, .int .i64 0, .int .i64 0, .int .i64 0]).cells (G - n)) 23)).ownsRow w.heap.size 23 5 (.slice (some ⟨w.heap.size, 0, none⟩) 0 G) 0 []) := by
        refine ⟨rfl, .inr ⟨w.heap.size, G, _, rfl, Nat.le_refl _, heap_alloc_new w.drew _, Nat.zero_le _, hle, ?_, rfl⟩⟩
        have e : (Value.agg #[.int .i64 0, .int .i64 0, .int .i64 0, .int .i64 0, .int .i64 0]).cells = #[Value.int .i64 0, .int .i64 0, .int .i64 0, .int .i64 0, .int .i64 0] := rfl
        rw [Array.size_append, e, zeroCells_five, zeroCells_five, ← Nat.add_mul]
        congr 1
        omega
      have hle2 : G ≤ 9223372036854775807 := by unfold maxLen at hle; omega
      clear hz hs hb hi h0 hle
      have h1 : ¬ ((n : Int) < 0) := by omega
      have h2 : (n : Int) > 0 := by omega
      go_enter Try.func65, Try.ntmps65
      go_wp2_with (at_builtin; refine Lib.wpList_append_run _ rfl (.tmp 20) (.tmp 21) _ _ rfl _ _ rfl rfl _ _ (HR.out _) ?_)
      go_ret
      exact ⟨_, rfl, HO.out, (below_drewN (Below.refl _ _) 1).alloc (Nat.le_refl _) _⟩

/-- The values svs are rows of nodes. -/
def TabsN (w : World) (svs : List Value) (ns : List (List N)) : Prop := svs.length = ns.length ∧ ∀ k (h : k < svs.length) (h' : k < ns.length), ∃ D c, svs[k] = .slice D ns[k].length c ∧ TabAt 0 w D (EN.flat ns[k])
def sumN (ns : List (List N)) (k : Nat) : Nat := (ns.take k).flatten.length
theorem sumN_next (ns : List (List N)) (k : Nat) (h : k < ns.length) : sumN ns (k + 1) = sumN ns k + ns[k].length := by
  unfold sumN
  rw [List.take_succ_eq_append_getElem h, List.flatten_append, List.length_append, List.flatten_singleton]
theorem flat_next (ns : List (List N)) (k : Nat) (h : k < ns.length) : (ns.take (k + 1)).flatten = (ns.take k).flatten ++ ns[k] := by
  rw [List.take_succ_eq_append_getElem h, List.flatten_append, List.flatten_singleton]
theorem sumN_le (ns : List (List N)) : ∀ k, sumN ns k ≤ ns.flatten.length := by
  intro k
  have : ns.flatten = (ns.take k).flatten ++ (ns.drop k).flatten := by rw [← List.flatten_append, List.take_append_drop]
  rw [this, List.length_append]
  exact Nat.le_add_right _ _
theorem TabsN.at {w w' : World} {T : Nat} {svs : List Value} {ns : List (List N)} (h : TabsN w svs ns) (hT : Held w T 26 svs.toArray) (hb : Below w.heap.size w w') (k : Nat) (hk : k < ns.length) :
    ∃ D c, w'.cell? ⟨T, k, none⟩ = some (.slice D ns[k].length c) ∧ TabAt 0 w' D (EN.flat ns[k]) := by
  have hs : k < svs.length := by rw [h.1]; exact hk
  obtain ⟨D, c, e, ht⟩ := h.2 k hs hk
  refine ⟨D, c, ?_, ht.below hb (Nat.le_refl _)⟩
  rw [(hT.below hb hT.lt).cell, ← e]
  simp [hs]

def SumRel (w : World) (ns : List (List N)) (s i : Value) (wr : World) : Prop := ∃ k : Nat, i = .int .i64 (k : Int) ∧ s = .int .i64 (sumN ns k : Int) ∧ k ≤ ns.length ∧ w = wr
def CatRel (w : World) (ns : List (List N)) (v i : Value) (wr : World) : Prop := ∃ k : Nat, i = .int .i64 (k : Int) ∧ k ≤ ns.length ∧ wr.ownsRow w.heap.size 23 5 v (sumN ns k) (EN.flat (ns.take k).flatten) ∧ Below w.heap.size w wr

set_option maxHeartbeats 400000 in
theorem concat_any (T : Nat) (svs : List Value) (ns : List (List N)) (w : World) (hT : Held w T 26 svs.toArray) (hs : TabsN w svs ns) (hn : ns.flatten.length ≤ 100000) (hq : ns.length ≤ 100) :
    Calls Try.prog 40 #[.slice (some ⟨T, 0, none⟩) ns.length ns.length] w (TabPost w ns.flatten) := by
  have HT := Lib.hid hT
  have HS := Lib.hid hs
  clear hT hs
  go_enter Try.func40, Try.ntmps40
  go_wp2_with fail
  go_loopw [3, 11] (SumRel w ns) (fun _ i _ => ns.length - (intOf i).toNat)
  case atStart => exact ⟨0, rfl, rfl, Nat.zero_le _, rfl⟩
  case round =>
    obtain ⟨k, rfl, rfl, hk, rfl⟩ := hrel
    by_cases hlt : k < ns.length
    · have hki : (k : Int) < (ns.length : Int) := by omega
      obtain ⟨D, c, hc, _⟩ := HS.out.at HT.out (Below.refl _ _) k hlt
      have hsl := sumN_le ns (k + 1)
      have hsn := sumN_next ns k hlt
      rw [hsn] at hsl
      have HN := Lib.hid hsn
      clear hsn
      generalize ns[k] = q at *
      have hneg : ¬ ((sumN ns k : Int) + q.length < 0) := by omega
      go_wp2_with fail
      go_roundw
      case rel => exact ⟨k + 1, by go_num, by rw [HN.out]; go_num, by omega, rfl⟩
      case measure => simp [intOf]; omega
    · obtain rfl : k = ns.length := by omega
      have hki : ¬ (ns.length : Int) < (ns.length : Int) := by omega
      have hsl := sumN_le ns ns.length
      go_wp2_with (go_at_call 65; refine (grow_any _ _ (by omega)).mono ?_; rintro e w1 ⟨v1, rfl, ho1, hb1⟩)
      go_loopw [6, 27] (CatRel w ns) (fun _ i _ => ns.length - (intOf i).toNat)
      case atStart => exact ⟨0, rfl, Nat.zero_le _, ho1, hb1⟩
      case round =>
        obtain ⟨k, rfl, hk, ho, hb⟩ := hrel
        by_cases hlt : k < ns.length
        · have hki : (k : Int) < (ns.length : Int) := by omega
          obtain ⟨D, c, hc, htab⟩ := HS.out.at HT.out hb k hlt
          have hsl := sumN_le ns (k + 1)
          have hsn := sumN_next ns k hlt
          have hfn := flat_next ns k hlt
          rw [hsn] at hsl
          have HN := Lib.hid hsn
          have HF := Lib.hid hfn
          have HO := Lib.hid ho
          have HQ := Lib.hid htab.src
          clear hsn hfn ho htab
          generalize ns[k] = q at *
          go_wp2_with (
            at_builtin
            refine wpList_append_src _ rfl (.tmp 31) (.tmp 32) 26 rfl rowN w.heap.size (sumN ns k) q.length c _ D _ (EN.flat q) rfl rfl HO.out HQ.out (EN.flat_len q) (EN.flat_all q) (by omega) hb.size ?_
            rintro v2 w2 ⟨ho2, hb2, _⟩)
          go_roundw
          case rel => exact ⟨k + 1, by go_num, by omega, by rw [HN.out, HF.out, EN.flat_app]; exact ho2, hb.trans hb2⟩
          case measure => simp [intOf]; omega
        · obtain rfl : k = ns.length := by omega
          have hki : ¬ (ns.length : Int) < (ns.length : Int) := by omega
          have HO := Lib.hid ho
          clear ho
          go_wp2_with fail
          go_ret
          have := HO.out
          rw [List.take_length] at this
          exact ⟨_, rfl, by have e : sumN ns ns.length = ns.flatten.length := by simp [sumN]
                            rw [← e]; exact this, hb⟩

/-- slices.Clone of a row that is not nil. -/
theorem clone_any (l : List N) (b off c B : Nat) (w : World) (h : TabAt B w (some ⟨b, off, none⟩) (EN.flat l)) (hl : l.length ≤ 1000) :
    Calls Try.prog 49 #[.slice (some ⟨b, off, none⟩) l.length c] w (TabPost w l) := by
  have H1 : Below w.heap.size w (w.alloc (.cells #[] 23)) := below_new _ _
  have HS := Lib.hid (TabAt.src (h.below H1 (Nat.le_refl _)))
  have HB := Lib.hid H1
  have HO := Lib.hid (own_new w 23 5 0 [] rfl (by omega))
  have hnil : ∀ W, (binOp .eql 26 (.slice (some ⟨b, off, none⟩) l.length c) (.slice none 0 0)).run Try.prog W = .ok (.bool false) W := fun W => Lib.run_eql_slice_nil W _ _ _ _ _ _ _ Try.underlying26
  clear h H1
  go_enter Try.func49, Try.ntmps49
  go_wp2_with (
    at_builtin
    refine wpList_append_src _ rfl (.tmp 5) (.tmp 6) 26 rfl rowN w.heap.size 0 l.length c _ (some ⟨b, off, none⟩) [] (EN.flat l) rfl rfl HO.out HS.out (EN.flat_len l) (EN.flat_all l) (by omega) (by simp) ?_
    rintro v2 w2 ⟨ho2, hb2, _⟩)
  go_ret
  exact ⟨_, rfl, by simpa using ho2, HB.out.trans hb2⟩
end Go.Proofs.Ytojgmofpgefonaa
