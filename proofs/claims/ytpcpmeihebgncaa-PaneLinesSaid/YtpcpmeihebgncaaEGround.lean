/-
  One row of actions appended to another; what prints does with the runes of one byte. Conditions: at most a million actions.
-/
import Derived.Test.YtpcpmeihebgncaaELeaf
import Derived.Deep.DeepCutAuto
namespace Go.Proofs.Ytpcpmeihebgncaa.Esca
open Go.RowKit
set_option maxRecDepth 100000

/-- What an append of actions leaves: the row, all else as it was, and where it lies. -/
structure ActsApp (w w' : World) (B : Nat) (v v' : Value) (l : List A) : Prop where
  acts : Acts w' B v' l
  below : Below B w w'
  block : ∀ k, k < w.heap.size → some k ≠ v.ownBlock → w'.heap[k]? = w.heap[k]?
  lies : v'.ownBlock = v.ownBlock ∨ v'.ownBlock = some w.heap.size

theorem acts_app {w w' : World} {B B2 : Nat} {v u v' : Value} {ps qs : List (A × Value)} {l m : List A} (hl : ps.map (·.1) = l) (hm : qs.map (·.1) = m) (hv : ActsOf w B v ps) (hu : ActsOf w B2 u qs) (hB : B ≤ B2) (hold : ∀ k, v.ownBlock = some k → k < B2) (hb : B ≤ w.heap.size)
    (h : Appended w w' B 44 3 v v' (ps.length + qs.length) (actCells ps ++ actCells qs)) : ActsApp w w' B v v' (l ++ m) :=
  ⟨⟨ps ++ qs, by rw [List.map_append, hl, hm], acts_appended hv hu hB hold h⟩, h.below hv.row hb, h.grown.block, h.lies⟩

theorem wpList_append_acts (w : World) {ops : Array Oper} {rest : List Oper} {o : Oper} {a : Act} {Q : Exit → Act → World → Prop} (hgd : o.guard = none) (s x : Operand)
    (ho : o.op = .call { callee := .builtin .append, args := #[s, x], argTypes := #[51, 51] }) (B B2 : Nat) (v u : Value) (l m : List A) (hs : a.eval s = v) (hx : a.eval x = u)
    (hv : Acts w B v l) (hu : Acts w B2 u m) (hB : B ≤ B2) (hold : ∀ k, v.ownBlock = some k → k < B2) (hn : l.length + m.length ≤ 1000000) (hb : B ≤ w.heap.size)
    (h : ∀ v' w', ActsApp w w' B v v' (l ++ m) → wpList Try.prog ops Q rest (a.put o.dst v') w') : wpList Try.prog ops Q (o :: rest) a w := by
  obtain ⟨ps, hl, hps⟩ := hv
  obtain ⟨qs, hm, hqs⟩ := hu
  have e1 : ps.length = l.length := by rw [← hl, List.length_map]
  have e2 : qs.length = m.length := by rw [← hm, List.length_map]
  exact wpList_append_rows w hgd s x 51 ho rowAct B B2 ps.length qs.length v u _ _ hs hx hps.row hqs.row hqs.one (by omega) hb fun v' w' h2 => h v' w' (acts_app hl hm hps hqs hB hold hb h2)

theorem step_append_acts (w : World) {ops : Array Oper} {o : Oper} {a : Act} {K : Act → World → Prop} {Q : Exit → Act → World → Prop} {X : Prop} (hgd : o.guard = none) (s x : Operand)
    (ho : o.op = .call { callee := .builtin .append, args := #[s, x], argTypes := #[51, 51] }) (B B2 : Nat) (v u : Value) (l m : List A) (hs : a.eval s = v) (hx : a.eval x = u)
    (hv : Acts w B v l) (hu : Acts w B2 u m) (hB : B ≤ B2) (hold : ∀ k, v.ownBlock = some k → k < B2) (hn : l.length + m.length ≤ 1000000) (hb : B ≤ w.heap.size)
    (h : ∀ v' w', ActsApp w w' B v v' (l ++ m) → K (a.put o.dst v') w') :
    if Region.wanted o (yielded ops a.tmps) = true then Oper.wp Try.prog o a w K Q else X := by
  obtain ⟨ps, hl, hps⟩ := hv
  obtain ⟨qs, hm, hqs⟩ := hu
  have e1 : ps.length = l.length := by rw [← hl, List.length_map]
  have e2 : qs.length = m.length := by rw [← hm, List.length_map]
  exact step_append_rows w hgd s x 51 ho rowAct B B2 ps.length qs.length v u _ _ hs hx hps.row hqs.row hqs.one (by omega) hb fun v' w' h2 => h v' w' (acts_app hl hm hps hqs hB hold hb h2)

theorem acts_lt {w : World} {B : Nat} {v : Value} {l : List A} (h : Acts w B v l) : ∀ k, v.ownBlock = some k → B ≤ k ∧ k < w.heap.size := by
  obtain ⟨ps, _, h2, _⟩ := h
  exact h2.lt

theorem prints_snoc (rs : List Int) (r : Int) : prints (rs ++ [r]) = prints rs ++ (if prt r then [⟨1, r, []⟩] else []) := by
  unfold prints
  rw [List.filter_append, List.map_append]
  congr 1
  by_cases h : prt r = true
  · simp [h]
  · simp [h]
theorem prints_len (rs : List Int) : (prints rs).length ≤ rs.length := by
  unfold prints
  rw [List.length_map]
  exact List.length_filter_le _ _
def PrintsRel (w : World) (rs : List Int) (out i : Value) (wr : World) : Prop := ∃ k : Nat, i = .int .i64 k ∧ k ≤ rs.length ∧ Acts wr w.heap.size out (prints (rs.take k)) ∧ Below w.heap.size w wr

set_option maxHeartbeats 1000000 in
theorem prints_any (v : Value) (rs : List Int) (B : Nat) (w : World) (hv : Runes w B v rs) (hl : rs.length ≤ 2) :
    Calls Try.prog 120 #[v] w (ActPost w.heap.size w (prints rs)) := by
  rcases hv.2 with ⟨rfl, h0⟩ | ⟨gg, cap, cur, rfl, _⟩
  · have hr : rs = [] := List.eq_nil_of_length_eq_zero h0
    subst hr
    go_enter Try.func120, Try.ntmps120
    go_wp2_with fail
    refine wp_loop_rounds 1 ?_
    rw [rounds_succ]
    go_wp2
    go_ret
    exact ⟨_, rfl, acts_nil _ _, Below.refl _ _⟩
  · go_enter Try.func120, Try.ntmps120
    go_wp2_with fail
    go_loopw [3, 8] (PrintsRel w rs) (fun _ i _ => rs.length - (intOf i).toNat)
    case atStart => exact ⟨0, rfl, Nat.zero_le _, acts_nil _ _, Below.refl _ _⟩
    case round =>
      obtain ⟨k, rfl, hle, hac, hbr⟩ := hrel
      by_cases hlt : k < rs.length
      · have hki : (k : Int) < (rs.length : Int) := by omega
        have hcell : wr.cell? ⟨gg, k, none⟩ = some (.int .i32 rs[k]) := (World.ownsRow.cellAt (own_below hv hbr (Nat.le_refl _)) k (by omega)).trans (by simp [i32s, hlt])
        have hsn : Hid (prints (rs.take (k + 1)) = prints (rs.take k) ++ (if prt rs[k] then [⟨1, rs[k], []⟩] else [])) := by
          show prints (rs.take (k + 1)) = _
          rw [← prints_snoc]
          congr 1
          simp
        have hlen : (prints (rs.take k)).length ≤ 2 := Nat.le_trans (prints_len _) (Nat.le_trans (List.length_take_le' _ _) hl)
        obtain ⟨r, hr⟩ : ∃ r, r = rs[k] := ⟨_, rfl⟩
        rw [← hr] at hcell hsn
        clear hr
        obtain ⟨D, c, rfl⟩ := acts_form hac
        have hz := hbr.size
        by_cases hp : prt r = true
        · go_wp2_with (first
            | (go_at_call 148; refine (isPrinted_any _ _).mono ?_; rintro e w1 ⟨he, rfl⟩; rw [hp] at he; subst he)
            | (refine wpList_append_acts _ (by rfl) _ _ (by rfl) w.heap.size wr.heap.size _ (.slice (some ⟨wr.heap.size, 0, none⟩) 1 1) (prints (rs.take k)) [⟨1, r, []⟩] (by rfl) (by rfl) (by exact hac.alloc _) (by exact acts_one _ _ _ _ (Nat.le_refl _)) hz (by exact fun k hk => (acts_lt hac k hk).2) (by simp; omega) (by simp; omega) ?_; intro v3 w3 hap))
          go_roundw
          case rel =>
            refine ⟨k + 1, by go_num, by omega, ?_, ?_⟩
            · rw [hsn.out, if_pos hp]
              exact hap.acts
            · exact (hbr.alloc hz _).trans hap.below
          case measure => simp [intOf]; omega
        · go_wp2_with (go_at_call 148; refine (isPrinted_any _ _).mono ?_; rintro e w1 ⟨he, rfl⟩; rw [show prt r = false by simpa using hp] at he; subst he)
          go_roundw
          case rel =>
            refine ⟨k + 1, by go_num, by omega, ?_, hbr⟩
            rw [hsn.out, if_neg hp, List.append_nil]
            exact hac
          case measure => simp [intOf]; omega
      · have ek : k = rs.length := by omega
        subst ek
        rw [List.take_length] at hac
        go_wp2
        go_ret
        exact ⟨_, rfl, hac, hbr⟩
end Go.Proofs.Ytpcpmeihebgncaa.Esca
