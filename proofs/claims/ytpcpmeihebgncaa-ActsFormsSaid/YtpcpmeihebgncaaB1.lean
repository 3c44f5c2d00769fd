/-
  What a row of this call's own memory is when another such row is appended to it; and plain facts on rows that every walk of this seat uses. Conditions: rows of at most a million elements together, each of at most forty bytes.
-/
import Derived.WalkKit
import Derived.WalkSpells
import Derived.WalkLawsBesides
import Derived.Deep.AppendLies
import Derived.Lib.Hide
import Derived.Laws.Cover4
import Derived.Laws.BytesString
import Derived.Test.YtpcpmeihebgncaaRows
import Derived.Deep.RegionHeld3
import Derived.Lib.SliceRun
import Derived.Deep.DeepCutAuto
namespace Go.Proofs.Ytpcpmeihebgncaa.Esca
open Go.RowKit
set_option maxRecDepth 100000

/-- A slice type of elements that take sz cells and at most forty bytes. -/
def RowT (P : Program) (t e : TypeId) (sz : Nat) : Prop :=
  P.underlying t = some (.slice e) ∧ ∃ (i : TypeInfo) (z : Value), P.info? e = some i ∧ i.zero = some z ∧ i.size = sz ∧ i.bytes ≤ 40 ∧ z.cells.size = sz ∧ 0 < sz

theorem rowT_mk {P : Program} {t e : TypeId} {z : Value} {b sz : Nat} (hu : P.underlying t = some (.slice e))
    (hi : (P.info? e).map (fun i => (i.zero, i.size, i.bytes)) = some (some z, sz, b)) (hb : b ≤ 40) (hz : z.cells.size = sz) (h0 : 0 < sz) : RowT P t e sz := by
  cases hh : P.info? e with
  | none => simp [hh] at hi
  | some i =>
    simp only [hh, Option.map_some, Option.some.injEq, Prod.mk.injEq] at hi
    exact ⟨hu, i, z, hh, hi.1, hi.2.1, by omega, hz, h0⟩

/-- What an append leaves: the new value's row, all other blocks as they were, and where the row lies. -/
structure Appended (w w' : World) (base : Nat) (e : TypeId) (sz : Nat) (v v' : Value) (n : Nat) (xs : List Value) : Prop where
  own : w'.ownsRow base e sz v' n xs
  grown : w.grownBy w' v.ownBlock
  lies : v'.ownBlock = v.ownBlock ∨ v'.ownBlock = some w.heap.size

theorem Appended.below {w w' : World} {base : Nat} {e : TypeId} {v v' : Value} {sz n n0 : Nat} {xs xs0 : List Value} (h : Appended w w' base e sz v v' n xs) (hv : w.ownsRow base e sz v n0 xs0) (hb : base ≤ w.heap.size) : Below base w w' :=
  (Below.refl _ _).grown h.grown hb fun k hk => (hv.lt k hk).1

section
variable {P : Program} {sz : Nat} (w : World)

theorem run_append_rows {t ty e : TypeId} {base base2 n m : Nat} {v u : Value} {xs ys : List Value} (hT : RowT P t e sz)
    (hv : w.ownsRow base e sz v n xs) (hu : w.ownsRow base2 e sz u m ys) (h1 : ∀ y ∈ ys, y.oneCell' = true) (hn : n + m ≤ 1000000) (hb : base ≤ w.heap.size) :
    ∃ v' w', (Builtin.append_ #[t, t] ty #[v, u]).run P w = .ok v' w' ∧ Appended w w' base e sz v v' (n + m) (xs ++ ys) := by
  obtain ⟨ht, i, z, hi, hz, hs, hby, hzs, hpos⟩ := hT
  rcases hu.2 with ⟨rfl, rfl⟩ | ⟨g, cap, cur, rfl, _⟩
  · have hy : ys = [] := List.eq_nil_of_length_eq_zero (by simpa using hu.1)
    subst hy
    exact ⟨v, w, run_append_owned_none w base t ty e i sz ht hi v n xs hv, by simpa using hv, ⟨rfl, rfl, rfl, Nat.le_refl _, fun _ _ _ => rfl⟩, .inl rfl⟩
  · have hbb : (n + m) * i.bytes ≤ 140737488355328 := Nat.le_trans (Nat.mul_le_mul hn hby) (by decide)
    obtain ⟨v', w', hr, ho, hg, _, hl⟩ := run_append_own_at (P := P) w base t ty e i z sz i.bytes ht hi hz hs rfl hzs hpos v n xs hv ⟨g, 0, none⟩ m cap ys hu.1
      (hu.cells rfl) h1 (by simp only [maxLen]; omega) hbb hb
    exact ⟨v', w', hr, ho, hg, hl⟩

theorem wp_append_rows {o : Oper} {a : Act} {K : Act → World → Prop} {Q : Exit → Act → World → Prop} (s x : Operand) (t : TypeId)
    (ho : o.op = .call { callee := .builtin .append, args := #[s, x], argTypes := #[t, t] }) {e : TypeId} (hT : RowT P t e sz)
    (base base2 n m : Nat) (v u : Value) (xs ys : List Value) (hs : a.eval s = v) (hx : a.eval x = u)
    (hv : w.ownsRow base e sz v n xs) (hu : w.ownsRow base2 e sz u m ys) (h1 : ∀ y ∈ ys, y.oneCell' = true) (hn : n + m ≤ 1000000) (hb : base ≤ w.heap.size)
    (h : ∀ v' w', Appended w w' base e sz v v' (n + m) (xs ++ ys) → K (a.put o.dst v') w') : o.wp P a w K Q := by
  obtain ⟨v', w', hr, h2⟩ := run_append_rows (P := P) (ty := o.type) w hT hv hu h1 hn hb
  unfold Oper.wp execOp
  simp only [ho, resolve, invoke, builtin, Sem.run_bind, Sem.run_pure, Result.andThen_ok, List.map_toArray, List.map_cons, List.map_nil, hs, hx, hr]
  exact h v' w' h2

theorem wpList_append_rows {ops : Array Oper} {rest : List Oper} {o : Oper} {a : Act} {Q : Exit → Act → World → Prop} (hgd : o.guard = none) (s x : Operand) (t : TypeId)
    (ho : o.op = .call { callee := .builtin .append, args := #[s, x], argTypes := #[t, t] }) {e : TypeId} (hT : RowT P t e sz)
    (base base2 n m : Nat) (v u : Value) (xs ys : List Value) (hs : a.eval s = v) (hx : a.eval x = u)
    (hv : w.ownsRow base e sz v n xs) (hu : w.ownsRow base2 e sz u m ys) (h1 : ∀ y ∈ ys, y.oneCell' = true) (hn : n + m ≤ 1000000) (hb : base ≤ w.heap.size)
    (h : ∀ v' w', Appended w w' base e sz v v' (n + m) (xs ++ ys) → wpList P ops Q rest (a.put o.dst v') w') : wpList P ops Q (o :: rest) a w :=
  wpList_plain hgd fun _ hK => wp_append_rows w s x t ho hT base base2 n m v u xs ys hs hx hv hu h1 hn hb fun v' w' h2 => hK _ _ (h v' w' h2)

theorem step_append_rows {ops : Array Oper} {o : Oper} {a : Act} {K : Act → World → Prop} {Q : Exit → Act → World → Prop} {E : Prop} (hgd : o.guard = none) (s x : Operand) (t : TypeId)
    (ho : o.op = .call { callee := .builtin .append, args := #[s, x], argTypes := #[t, t] }) {e : TypeId} (hT : RowT P t e sz)
    (base base2 n m : Nat) (v u : Value) (xs ys : List Value) (hs : a.eval s = v) (hx : a.eval x = u)
    (hv : w.ownsRow base e sz v n xs) (hu : w.ownsRow base2 e sz u m ys) (h1 : ∀ y ∈ ys, y.oneCell' = true) (hn : n + m ≤ 1000000) (hb : base ≤ w.heap.size)
    (h : ∀ v' w', Appended w w' base e sz v v' (n + m) (xs ++ ys) → K (a.put o.dst v') w') :
    if Region.wanted o (yielded ops a.tmps) = true then Oper.wp P o a w K Q else E := by
  rw [if_pos (by simp [Region.wanted, hgd])]
  exact wp_append_rows w s x t ho hT base base2 n m v u xs ys hs hx hv hu h1 hn hb h
end

/-- The runes of a row, as values. -/
def i32s (rs : List Int) : List Value := rs.map (Value.int .i32)
theorem i32s_one (rs : List Int) : ∀ y ∈ i32s rs, y.oneCell' = true := by
  intro y hy
  simp only [i32s, List.mem_map] at hy
  obtain ⟨r, _, rfl⟩ := hy
  rfl
theorem i32s_app (a b : List Int) : i32s a ++ i32s b = i32s (a ++ b) := by simp [i32s]
theorem i32s_len (a : List Int) : (i32s a).length = a.length := by simp [i32s]

/-- A slice value v whose elements are the runes rs, in memory at or above block B. -/
def Runes (w : World) (B : Nat) (v : Value) (rs : List Int) : Prop := w.ownsRow B 21 1 v rs.length (i32s rs)

theorem own_below {w w' : World} {B C : Nat} {e : TypeId} {v : Value} {sz n : Nat} {xs : List Value} (h : w.ownsRow B e sz v n xs) (hb : Below C w w') (hC : w.heap.size ≤ C) : w'.ownsRow B e sz v n xs := by
  refine ⟨h.1, ?_⟩
  rcases h.2 with hn | ⟨g, cap, cur, rfl, hg, hh, rest⟩
  · exact .inl hn
  · refine .inr ⟨g, cap, cur, rfl, hg, ?_, rest⟩
    rw [hb.block g (Nat.lt_of_lt_of_le (Array.getElem?_eq_some_iff.1 hh).1 hC)]
    exact hh
theorem own_base {w : World} {B C : Nat} {e : TypeId} {v : Value} {sz n : Nat} {xs : List Value} (h : w.ownsRow B e sz v n xs) (hC : C ≤ B) : w.ownsRow C e sz v n xs := by
  refine ⟨h.1, ?_⟩
  rcases h.2 with hn | ⟨g, cap, cur, rfl, hg, rest⟩
  · exact .inl hn
  · exact .inr ⟨g, cap, cur, rfl, Nat.le_trans hC hg, rest⟩
theorem own_set {w : World} {B : Nat} {e : TypeId} {v : Value} {sz n : Nat} {xs : List Value} (h : w.ownsRow B e sz v n xs) {p : Addr} (hp : v.ownBlock ≠ some p.block) (u : Value) : (w.setCell p u).ownsRow B e sz v n xs := by
  refine ⟨h.1, ?_⟩
  rcases h.2 with hn | ⟨g, cap, cur, rfl, hg, hh, rest⟩
  · exact .inl hn
  · refine .inr ⟨g, cap, cur, rfl, hg, ?_, rest⟩
    rw [Below.heap_setCell w p u g (fun e => hp (by simp [Value.ownBlock, e]))]
    exact hh

theorem bcell {B : Nat} {w w' : World} (hb : Below B w w') : (∀ b o, b < B → w'.cell? ⟨b, o, none⟩ = w.cell? ⟨b, o, none⟩) ∧ (∀ b o, b < B → w'.frozen? ⟨b, o, none⟩ = w.frozen? ⟨b, o, none⟩) :=
  ⟨fun b o h => hb.cell (p := ⟨b, o, none⟩) h, fun b o h => hb.frozen (p := ⟨b, o, none⟩) h⟩

end Go.Proofs.Ytpcpmeihebgncaa.Esca

/-
  What each function of package utfd does to the world: the state behind a byte, and the runes that end with it, as plain functions of numbers. Conditions: a byte is 0 to 255; what is begun is within what steps from nothing make.
-/
namespace Go.Proofs.Ytpcpmeihebgncaa.Esca
open Go.RowKit
set_option maxRecDepth 100000

theorem rowRune : RowT Try.prog 69 21 1 := rowT_mk (z := .int .i32 0) (b := 4) Try.underlying69 (by kernel_rfl) (by decide) rfl (by decide)
theorem rowByte : RowT Try.prog 40 5 1 := rowT_mk (z := .int .u8 0) (b := 1) Try.underlying40 (by kernel_rfl) (by decide) rfl (by decide)

theorem rowInt : RowT Try.prog 28 3 1 := rowT_mk (z := .int .i64 0) (b := 8) Try.underlying28 (by kernel_rfl) (by decide) rfl (by decide)
theorem rowAct : RowT Try.prog 51 44 3 := rowT_mk (z := .agg #[.int .i64 0, .int .i32 0, .slice none 0 0]) (b := 40) Try.underlying51 (by kernel_rfl) (by decide) rfl (by decide)

/-! ### the plain functions -/
def stN (b : Int) : Int := if b ≤ 191 then 0 else if b ≤ 223 then 1 else if b ≤ 239 then 2 else if b ≤ 247 then 3 else 0
def stM (b : Int) : Int := if b ≤ 191 then 0 else if b ≤ 223 then 128 else if b ≤ 239 then 2048 else if b ≤ 247 then 65536 else 0
def stG (b : Int) : Int := if b ≤ 191 then 0 else if b ≤ 223 then b % 32 else if b ≤ 239 then b % 16 else if b ≤ 247 then b % 8 else 0
def stR (b : Int) : List Int := if b ≤ 127 then [b] else if b ≤ 191 then [65533] else if b ≤ 247 then [] else [65533]
def endR (g m : Int) : Int := if g < m ∨ 1114111 < g ∨ (55296 ≤ g ∧ g ≤ 57343) then 65533 else g

/-- What Step leaves: the state n m g behind the byte, and the runes rs. -/
def StepPost (w : World) (n m g : Int) (rs : List Int) (e : Ending) (w' : World) : Prop :=
  ∃ v, e = .returned (.tuple #[.agg #[.int .i64 n, .int .i64 m, .int .i64 g], v]) ∧ Runes w' w.heap.size v rs ∧ Below w.heap.size w w'

set_option maxHeartbeats 400000 in
theorem begun_any (n m g : Int) (w : World) :
    Calls Try.prog 144 #[.agg #[.int .i64 n, .int .i64 m, .int .i64 g]] w fun e w' => e = .returned (.bool (decide (0 < n))) ∧ Below w.heap.size w w' := by
  go_enter Try.func144, Try.ntmps144
  go_wp2
  go_ret
  exact ⟨rfl, (Below.refl _ _).alloc (Nat.le_refl _) _⟩

set_option maxHeartbeats 400000 in
theorem ended_any (g m : Int) (w : World) (h0 : 0 ≤ g) (h1 : g ≤ 4000000) :
    Calls Try.prog 154 #[.int .i64 g, .int .i64 m] w fun e w' => e = .returned (.int .i32 (endR g m)) ∧ w = w' := by
  by_cases h2 : g < m
  · have e2 : endR g m = 65533 := by simp [endR, h2]
    rw [e2]; clear e2
    by_cases h4 : 55296 ≤ g <;>
    · go_enter Try.func154, Try.ntmps154
      go_wp2
      all_goals (go_ret; exact ⟨rfl, rfl⟩)
  · by_cases h3 : 1114111 < g
    · have e2 : endR g m = 65533 := by simp [endR, h3]
      rw [e2]; clear e2
      go_enter Try.func154, Try.ntmps154
      go_wp2
      all_goals (go_ret; exact ⟨rfl, rfl⟩)
    · by_cases h4 : 55296 ≤ g
      · by_cases h5 : g ≤ 57343
        · have e2 : endR g m = 65533 := by simp [endR, h4, h5]
          rw [e2]; clear e2
          go_enter Try.func154, Try.ntmps154
          go_wp2
          all_goals (go_ret; exact ⟨rfl, rfl⟩)
        · have e2 : endR g m = g := by simp [endR]; omega
          rw [e2]; clear e2
          go_enter Try.func154, Try.ntmps154
          go_wp2
          all_goals (go_ret; exact ⟨rfl, rfl⟩)
      · have e2 : endR g m = g := by simp [endR]; omega
        rw [e2]; clear e2
        go_enter Try.func154, Try.ntmps154
        go_wp2
        all_goals (go_ret; exact ⟨rfl, rfl⟩)

theorem runes_one (w : World) (B : Nat) (r : Int) (hB : B ≤ w.heap.size) : Runes (w.alloc (.cells #[.int .i32 r] 21)) B (.slice (some ⟨w.heap.size, 0, none⟩) 1 1) [r] :=
  World.ownsRow_lit w #[.int .i32 r] 1 hB (by simp [maxLen]) rfl
theorem runes_nil (w : World) (B : Nat) : Runes w B (.slice none 0 0) [] := World.ownsRow_nil w B 21 1

set_option maxHeartbeats 400000 in
theorem start_any (b : Int) (w : World) (h0 : 0 ≤ b) (h1 : b ≤ 255) :
    Calls Try.prog 145 #[.int .u8 b] w (StepPost w (stN b) (stM b) (stG b) (stR b)) := by
  by_cases c1 : b ≤ 127
  · rw [show stN b = 0 by unfold stN; simp only [if_pos (show b ≤ 191 by omega)], show stM b = 0 by unfold stM; simp only [if_pos (show b ≤ 191 by omega)], show stG b = 0 by unfold stG; simp only [if_pos (show b ≤ 191 by omega)], show stR b = [b] by unfold stR; simp only [if_pos c1]]
    go_enter Try.func145, Try.ntmps145
    go_wp2
    refine bodyPost_ret (v := .tuple #[.agg #[.int .i64 0, .int .i64 0, .int .i64 0], .slice (some ⟨w.heap.size + 1, 0, none⟩) 1 1]) (by simp [results, Try.results145, go_sem]) rfl ⟨_, rfl, ?_, ?_⟩
    · have := runes_one (w.alloc (.cells #[.int .i64 0, .int .i64 0, .int .i64 0] 30)) w.heap.size b (by simp)
      simpa using this
    · exact ((Below.refl _ _).alloc (Nat.le_refl _) _).alloc (by simp) _
  · by_cases c2 : b ≤ 191
    · rw [show stN b = 0 by unfold stN; simp only [if_pos c2], show stM b = 0 by unfold stM; simp only [if_pos c2], show stG b = 0 by unfold stG; simp only [if_pos c2], show stR b = [65533] by unfold stR; simp only [if_pos c2, if_neg c1]]
      go_enter Try.func145, Try.ntmps145
      go_wp2
      refine bodyPost_ret (v := .tuple #[.agg #[.int .i64 0, .int .i64 0, .int .i64 0], .slice (some ⟨w.heap.size + 1, 0, none⟩) 1 1]) (by simp [results, Try.results145, go_sem]) rfl ⟨_, rfl, ?_, ?_⟩
      · have := runes_one (w.alloc (.cells #[.int .i64 0, .int .i64 0, .int .i64 0] 30)) w.heap.size 65533 (by simp)
        simpa using this
      · exact ((Below.refl _ _).alloc (Nat.le_refl _) _).alloc (by simp) _
    · by_cases c3 : b ≤ 223
      · rw [show stN b = 1 by unfold stN; simp only [if_neg c2, if_pos c3], show stM b = 128 by unfold stM; simp only [if_neg c2, if_pos c3], show stG b = b % 32 by unfold stG; simp only [if_neg c2, if_pos c3], show stR b = [] by unfold stR; simp only [if_neg c1, if_neg c2, if_pos (show b ≤ 247 by omega)]]
        go_enter Try.func145, Try.ntmps145
        go_wp2
        exact bodyPost_ret (v := .tuple #[.agg #[.int .i64 1, .int .i64 128, .int .i64 (b % 32)], .slice none 0 0]) (by simp [results, Try.results145, go_sem]) rfl ⟨_, rfl, runes_nil _ _, (Below.refl _ _).alloc (Nat.le_refl _) _⟩
      · by_cases c4 : b ≤ 239
        · rw [show stN b = 2 by unfold stN; simp only [if_neg c2, if_neg c3, if_pos c4], show stM b = 2048 by unfold stM; simp only [if_neg c2, if_neg c3, if_pos c4], show stG b = b % 16 by unfold stG; simp only [if_neg c2, if_neg c3, if_pos c4], show stR b = [] by unfold stR; simp only [if_neg c1, if_neg c2, if_pos (show b ≤ 247 by omega)]]
          go_enter Try.func145, Try.ntmps145
          go_wp2
          exact bodyPost_ret (v := .tuple #[.agg #[.int .i64 2, .int .i64 2048, .int .i64 (b % 16)], .slice none 0 0]) (by simp [results, Try.results145, go_sem]) rfl ⟨_, rfl, runes_nil _ _, (Below.refl _ _).alloc (Nat.le_refl _) _⟩
        · by_cases c5 : b ≤ 247
          · rw [show stN b = 3 by unfold stN; simp only [if_neg c2, if_neg c3, if_neg c4, if_pos c5], show stM b = 65536 by unfold stM; simp only [if_neg c2, if_neg c3, if_neg c4, if_pos c5], show stG b = b % 8 by unfold stG; simp only [if_neg c2, if_neg c3, if_neg c4, if_pos c5], show stR b = [] by unfold stR; simp only [if_neg c1, if_neg c2, if_pos c5]]
            go_enter Try.func145, Try.ntmps145
            go_wp2
            exact bodyPost_ret (v := .tuple #[.agg #[.int .i64 3, .int .i64 65536, .int .i64 (b % 8)], .slice none 0 0]) (by simp [results, Try.results145, go_sem]) rfl ⟨_, rfl, runes_nil _ _, (Below.refl _ _).alloc (Nat.le_refl _) _⟩
          · rw [show stN b = 0 by unfold stN; simp only [if_neg c2, if_neg c3, if_neg c4, if_neg c5], show stM b = 0 by unfold stM; simp only [if_neg c2, if_neg c3, if_neg c4, if_neg c5], show stG b = 0 by unfold stG; simp only [if_neg c2, if_neg c3, if_neg c4, if_neg c5], show stR b = [65533] by unfold stR; simp only [if_neg c1, if_neg c2, if_neg c5]]
            go_enter Try.func145, Try.ntmps145
            go_wp2
            refine bodyPost_ret (v := .tuple #[.agg #[.int .i64 0, .int .i64 0, .int .i64 0], .slice (some ⟨w.heap.size + 1, 0, none⟩) 1 1]) (by simp [results, Try.results145, go_sem]) rfl ⟨_, rfl, ?_, ?_⟩
            · have := runes_one (w.alloc (.cells #[.int .i64 0, .int .i64 0, .int .i64 0] 30)) w.heap.size 65533 (by simp)
              simpa using this
            · exact ((Below.refl _ _).alloc (Nat.le_refl _) _).alloc (by simp) _

end Go.Proofs.Ytpcpmeihebgncaa.Esca

/-
  What Step and End of package utfd do to the world. Conditions: a byte is 0 to 255; what is begun is within what steps from nothing make.
-/
namespace Go.Proofs.Ytpcpmeihebgncaa.Esca
open Go.RowKit
set_option maxRecDepth 100000

set_option maxHeartbeats 400000 in
theorem goOn_more (n m g b : Int) (w : World) (hn : 1 < n) (hn3 : n ≤ 3) (hg : 0 ≤ g) (hg2 : g ≤ 32767) (h0 : 128 ≤ b) (h1 : b ≤ 191) :
    Calls Try.prog 147 #[.agg #[.int .i64 n, .int .i64 m, .int .i64 g], .int .u8 b] w (StepPost w (n - 1) m (g * 64 + b % 64) []) := by
  go_enter Try.func147, Try.ntmps147
  go_wp2
  exact bodyPost_ret (v := .tuple #[.agg #[.int .i64 (n - 1), .int .i64 m, .int .i64 (g * 64 + b % 64)], .slice none 0 0]) (by simp [results, Try.results147, go_sem]) rfl ⟨_, rfl, runes_nil _ _, ((Below.refl _ _).alloc (Nat.le_refl _) _).alloc (by simp) _⟩

set_option maxHeartbeats 400000 in
theorem goOn_last (n m g b : Int) (w : World) (hn : n ≤ 1) (hg : 0 ≤ g) (hg2 : g ≤ 32767) (h0 : 128 ≤ b) (h1 : b ≤ 191) :
    Calls Try.prog 147 #[.agg #[.int .i64 n, .int .i64 m, .int .i64 g], .int .u8 b] w (StepPost w 0 0 0 [endR (g * 64 + b % 64) m]) := by
  go_enter Try.func147, Try.ntmps147
  go_wp2_with (go_at_call 154; refine (ended_any _ _ _ (by omega) (by omega)).mono ?_; rintro e w' ⟨rfl, rfl⟩)
  refine bodyPost_ret (v := .tuple #[.agg #[.int .i64 0, .int .i64 0, .int .i64 0], .slice (some ⟨w.heap.size + 1 + 1, 0, none⟩) 1 1]) (by simp [results, Try.results147, go_sem]) rfl ⟨_, rfl, ?_, ?_⟩
  · have := runes_one ((w.alloc (.cells #[.int .i64 n, .int .i64 m, .int .i64 g] 30)).alloc (.cells #[.int .i64 0, .int .i64 0, .int .i64 0] 30)) w.heap.size (endR (g * 64 + b % 64) m) (by simp; omega)
    simpa using this
  · exact (((Below.refl _ _).alloc (Nat.le_refl _) _).alloc (by simp) _).alloc (by simp; omega) _

theorem own_ne {w : World} {B k : Nat} {e : TypeId} {v : Value} {sz n : Nat} {xs : List Value} (h : w.ownsRow B e sz v n xs) (hk : k < B) : v.ownBlock ≠ some k := fun he => by have := (h.lt k he).1; omega

/-- Three cells of one block far below a row are set: the row stays. -/
theorem runes_set3 {w : World} {B k : Nat} {v : Value} {rs : List Int} (h : Runes w B v rs) (hk : k < B) (x y z : Value) : Runes (((w.setCell ⟨k, 0, none⟩ x).setCell ⟨k, 1, none⟩ y).setCell ⟨k, 2, none⟩ z) B v rs :=
  own_set (own_set (own_set h (own_ne h hk) x) (own_ne h hk) y) (own_ne h hk) z
theorem below_set3 {a w : World} {B k : Nat} (h : Below B a w) (hk : B ≤ k) (x y z : Value) : Below B a (((w.setCell ⟨k, 0, none⟩ x).setCell ⟨k, 1, none⟩ y).setCell ⟨k, 2, none⟩ z) :=
  ((h.setCell (p := ⟨k, 0, none⟩) hk x).setCell (p := ⟨k, 1, none⟩) hk y).setCell (p := ⟨k, 2, none⟩) hk z
theorem below_alloc2 (w : World) (a b : Obj) : Below w.heap.size w ((w.alloc a).alloc b) := ((Below.refl _ _).alloc (Nat.le_refl _) _).alloc (by simp) _
theorem below_alloc3 (w : World) (a b c : Obj) : Below w.heap.size w (((w.alloc a).alloc b).alloc c) := (below_alloc2 w a b).alloc (by simp; omega) _

set_option maxHeartbeats 400000 in
theorem step_fresh (n m g b : Int) (w : World) (hn : n ≤ 0) (h0 : 0 ≤ b) (h1 : b ≤ 255) :
    Calls Try.prog 119 #[.agg #[.int .i64 n, .int .i64 m, .int .i64 g], .int .u8 b] w (StepPost w (stN b) (stM b) (stG b) (stR b)) := by
  have hd : decide (0 < n) = false := by simp; omega
  go_enter Try.func119, Try.ntmps119
  go_wp2_with (first
    | (go_at_call 144; go_in)
    | (go_at_call 145; refine (start_any b _ h0 h1).mono ?_; rintro e w2 ⟨v, rfl, hr, hb2⟩; obtain ⟨hc2, hf2⟩ := bcell hb2))
  refine bodyPost_ret (v := .tuple #[.agg #[.int .i64 (stN b), .int .i64 (stM b), .int .i64 (stG b)], v]) (by simp [results, Try.results119, go_sem, hc2]) rfl ⟨v, rfl, ?_, ?_⟩
  · exact own_base (runes_set3 hr (by simp) _ _ _) (by simp; omega)
  · exact below_set3 ((below_alloc3 _ _ _ _).trans (hb2.mono (by simp; omega))) (by omega) _ _ _

set_option maxHeartbeats 400000 in
theorem step_on (n m g b : Int) (w : World) (hn : 0 < n) (h0 : 128 ≤ b) (h1 : b ≤ 191) (n' m' g' : Int) (rs : List Int)
   (h : ∀ w, Calls Try.prog 147 #[.agg #[.int .i64 n, .int .i64 m, .int .i64 g], .int .u8 b] w (StepPost w n' m' g' rs)) :
    Calls Try.prog 119 #[.agg #[.int .i64 n, .int .i64 m, .int .i64 g], .int .u8 b] w (StepPost w n' m' g' rs) := by
  have H := Lib.hid h; clear h
  have hd : decide (0 < n) = true := by simp; omega
  go_enter Try.func119, Try.ntmps119
  go_wp2_with (first
    | (go_at_call 144; go_in)
    | (go_at_call 147; refine (H.out _).mono ?_; rintro e w2 ⟨v, rfl, hr, hb2⟩; obtain ⟨hc2, hf2⟩ := bcell hb2)
    | (go_at_call 146; go_in))
  refine bodyPost_ret (v := .tuple #[.agg #[.int .i64 n', .int .i64 m', .int .i64 g'], v]) (by simp [results, Try.results119, go_sem, hc2]) rfl ⟨v, rfl, ?_, ?_⟩
  · exact own_base (runes_set3 hr (by simp) _ _ _) (by simp; omega)
  · exact below_set3 ((below_alloc3 _ _ _ _).trans (hb2.mono (by simp; omega))) (by omega) _ _ _

set_option maxHeartbeats 400000 in
theorem isNext_no (b : Int) (w : World) (hx : b < 128 ∨ 191 < b) : Calls Try.prog 146 #[.int .u8 b] w fun e w' => e = .returned (.bool false) ∧ w = w' := by
  rcases hx with hx | hx
  · go_enter Try.func146, Try.ntmps146
    go_wp2
    all_goals (go_ret; exact ⟨by first | rfl | simp; omega, rfl⟩)
  · go_enter Try.func146, Try.ntmps146
    go_wp2
    all_goals (go_ret; exact ⟨by first | rfl | simp; omega, rfl⟩)

theorem block_cells {w w' : World} {k : Nat} (h : w'.heap[k]? = w.heap[k]?) : (∀ o, w'.cell? ⟨k, o, none⟩ = w.cell? ⟨k, o, none⟩) ∧ (∀ o, w'.frozen? ⟨k, o, none⟩ = w.frozen? ⟨k, o, none⟩) :=
  ⟨fun _ => World.cell?_of_block h, fun _ => World.frozen?_of_block h⟩
theorem kept2 {w w' : World} {o1 o2 : Obj} {base k : Nat} {e : TypeId} {v v' : Value} {sz n : Nat} {xs : List Value} (h : Appended ((w.alloc o1).alloc o2).drew w' base e sz v v' n xs) (hv : v.ownBlock = some (w.heap.size + 1)) (hk : k < w.heap.size) :
    (∀ o, w'.cell? ⟨k, o, none⟩ = w.cell? ⟨k, o, none⟩) ∧ (∀ o, w'.frozen? ⟨k, o, none⟩ = w.frozen? ⟨k, o, none⟩) := by
  refine block_cells ?_
  rw [h.grown.block k (by simp; omega) (by rw [hv]; simp; omega)]
  exact (Below.heap_alloc (w.alloc o1) o2 k (by simp; omega)).trans (Below.heap_alloc w o1 k hk)

theorem kept2_new {w w' : World} {cs : Array Value} {t : TypeId} {o2 : Obj} {base : Nat} {e : TypeId} {v v' : Value} {sz n : Nat} {xs : List Value} (h : Appended ((w.alloc (.cells cs t)).alloc o2).drew w' base e sz v v' n xs) (hv : v.ownBlock = some (w.heap.size + 1)) (o : Nat) :
    w'.cell? ⟨w.heap.size, o, none⟩ = cs[o]? := by
  refine cell_of_row w' _ _ cs t (0, 0) ?_
  rw [h.grown.block _ (by simp; omega) (by rw [hv]; simp)]
  exact (Below.heap_alloc (w.alloc (.cells cs t)) o2 _ (by simp)).trans (heap_alloc_new w _)
theorem cell_set3 {w : World} {k j o : Nat} {x y z : Value} (h : j ≠ k) : (((w.setCell ⟨k, 0, none⟩ x).setCell ⟨k, 1, none⟩ y).setCell ⟨k, 2, none⟩ z).cell? ⟨j, o, none⟩ = w.cell? ⟨j, o, none⟩ := by
  have hk : ∀ i, (⟨k, i, none⟩ : Addr) ≠ ⟨j, o, none⟩ := fun i e => h (by injection e with e1; exact e1.symm)
  rw [World.cell?_setCell_other _ _ _ _ (hk 2), World.cell?_setCell_other _ _ _ _ (hk 1), World.cell?_setCell_other _ _ _ _ (hk 0)]

set_option maxHeartbeats 800000 in
theorem step_bad (n m g b : Int) (w : World) (hn : 0 < n) (h0 : 0 ≤ b) (h1 : b ≤ 255) (hx : b < 128 ∨ 191 < b) (hl : (stR b).length ≤ 1) :
    Calls Try.prog 119 #[.agg #[.int .i64 n, .int .i64 m, .int .i64 g], .int .u8 b] w (StepPost w (stN b) (stM b) (stG b) (65533 :: stR b)) := by
  have hd : decide (0 < n) = true := by simp; omega
  have HX := Lib.hid hx; clear hx
  go_enter Try.func119, Try.ntmps119
  go_wp2_with (first
    | (go_at_call 144; go_in)
    | (go_at_call 146; refine (isNext_no b _ HX.out).mono ?_; rintro e w' ⟨rfl, rfl⟩)
    | (go_at_call 145; refine (start_any b _ h0 h1).mono ?_; rintro e w2 ⟨v, rfl, hr, hb2⟩; obtain ⟨hc2, hf2⟩ := bcell hb2))
  have hz2 : w.heap.size + 3 ≤ w2.heap.size := by have := hb2.size; simp at this; omega
  have k0 : w2.cell? ⟨w.heap.size + 1, 0, none⟩ = some (.int .i64 0) := (hc2 _ _ (by simp)).trans (by simp [go_sem])
  have k1 : w2.cell? ⟨w.heap.size + 1, 1, none⟩ = some (.int .i64 0) := (hc2 _ _ (by simp)).trans (by simp [go_sem])
  have k2 : w2.cell? ⟨w.heap.size + 1, 2, none⟩ = some (.int .i64 0) := (hc2 _ _ (by simp)).trans (by simp [go_sem])
  have f0 : ∀ o, w2.frozen? ⟨w.heap.size + 1, o, none⟩ = false := fun o => (hf2 _ _ (by simp)).trans (by simp [go_sem])
  clear hc2 hf2
  have hbw : Below w.heap.size w w2 := (below_alloc3 _ _ _ _).trans (hb2.mono (by simp; omega))
  have hr' : Runes w2 (w.heap.size + 2) v (stR b) := own_base hr (by simp)
  clear hb2 hr
  have hlt : w.heap.size + 1 < w2.heap.size := by omega
  have hrow := World.ownsRow_lit (base := w2.heap.size + 1) (e := 21) (size := 1) (w2.alloc (.cells #[.int .i64 (stN b), .int .i64 (stM b), .int .i64 (stG b)] 30)) #[.int .i32 65533] 1 (by simp) (by simp [maxLen]) rfl
  rw [World.size_alloc] at hrow
  go_region_held3 (fun w' => w'.cell? ⟨w2.heap.size, 0, none⟩ = some (.int .i64 (stN b)) ∧ w'.cell? ⟨w2.heap.size, 1, none⟩ = some (.int .i64 (stM b)) ∧ w'.cell? ⟨w2.heap.size, 2, none⟩ = some (.int .i64 (stG b)))
    (first
      | go_keep
      | exact ⟨r0, r1, r2⟩
      | exact ⟨(cell_set3 (by omega)).trans r0, (cell_set3 (by omega)).trans r1, (cell_set3 (by omega)).trans r2⟩)
    ((refine step_append_rows _ (by rfl) _ _ _ (by rfl) rowRune (w2.heap.size + 1) (w.heap.size + 2) 1 (stR b).length (.slice (some ⟨w2.heap.size + 1, 0, none⟩) 1 1) v [.int .i32 65533] (i32s (stR b)) (by rfl) (by rfl)
        (by exact hrow) (by exact (World.ownsRow.alloc (World.ownsRow.alloc hr' _) _)) (i32s_one _) (by omega) (by simp) ?_; intro v3 w3 hap
      obtain ⟨p0, g0⟩ := kept2 hap rfl hlt
      have q0 := (p0 0).trans k0
      have q1 := (p0 1).trans k1
      have q2 := (p0 2).trans k2
      have g0 := fun o => (g0 o).trans (f0 o)
      have r0 : w3.cell? ⟨w2.heap.size, 0, none⟩ = some (.int .i64 (stN b)) := (kept2_new hap rfl 0).trans rfl
      have r1 : w3.cell? ⟨w2.heap.size, 1, none⟩ = some (.int .i64 (stM b)) := (kept2_new hap rfl 1).trans rfl
      have r2 : w3.cell? ⟨w2.heap.size, 2, none⟩ = some (.int .i64 (stG b)) := (kept2_new hap rfl 2).trans rfl
      clear p0))
  go_wp2
  refine bodyPost_ret (v := .tuple #[.agg #[.int .i64 (stN b), .int .i64 (stM b), .int .i64 (stG b)], v3]) (by simp [results, Try.results119, go_sem, q0, q1, q2]) rfl ⟨v3, rfl, ?_, ?_⟩
  · have h3 : Runes w3 (w2.heap.size + 1) v3 (65533 :: stR b) := by
      have := hap.own
      unfold Runes
      rw [show (65533 :: stR b).length = 1 + (stR b).length by simp; omega]
      exact this
    exact own_base (runes_set3 h3 (by omega) _ _ _) (by omega)
  · refine below_set3 (hbw.trans ?_) (by omega) _ _ _
    refine Below.trans ((((Below.refl _ w2).alloc (by omega) _).alloc (by simp; omega) _).drew) ((hap.below hrow (by simp)).mono (by omega))

end Go.Proofs.Ytpcpmeihebgncaa.Esca

/-
  Step of package utfd as one plain function of what is begun and a byte; blocks that are known whole; what a row of numbers and a row of actions are in memory. Conditions: what is begun is what steps from nothing make.
-/
namespace Go.Proofs.Ytpcpmeihebgncaa.Esca
open Go.RowKit
set_option maxRecDepth 100000

/-- What is begun. -/
structure U where
  n : Int
  m : Int
  g : Int

def U.zero : U := ⟨0, 0, 0⟩
/-- What steps from nothing make. -/
def U.Ok (s : U) : Prop := 0 ≤ s.n ∧ s.n ≤ 3 ∧ 0 ≤ s.g ∧ s.g ≤ 32767 ∧ (s.n = 2 → s.g ≤ 511) ∧ (s.n = 3 → s.g ≤ 7)
theorem U.zero_ok : U.zero.Ok := ⟨by decide, by decide, by decide, by decide, by decide, by decide⟩

def nx (s : U) (b : Int) : U :=
  if 0 < s.n ∧ 128 ≤ b ∧ b ≤ 191 then (if 1 < s.n then ⟨s.n - 1, s.m, s.g * 64 + b % 64⟩ else U.zero) else ⟨stN b, stM b, stG b⟩
def nxR (s : U) (b : Int) : List Int :=
  if 0 < s.n then (if 128 ≤ b ∧ b ≤ 191 then (if 1 < s.n then [] else [endR (s.g * 64 + b % 64) s.m]) else 65533 :: stR b) else stR b

theorem stR_len (b : Int) : (stR b).length ≤ 1 := by unfold stR; repeat' split
                                                     all_goals simp
theorem nxR_len (s : U) (b : Int) : (nxR s b).length ≤ 2 := by
  have := stR_len b
  unfold nxR
  repeat' split
  all_goals (simp <;> omega)

theorem st_ok (b : Int) : U.Ok ⟨stN b, stM b, stG b⟩ := by
  unfold U.Ok stN stG
  dsimp only
  repeat' split
  all_goals omega

theorem nx_ok (s : U) (b : Int) (hs : s.Ok) : (nx s b).Ok := by
  obtain ⟨a1, a2, a3, a4, a5, a6⟩ := hs
  unfold nx
  split
  · split
    · unfold U.Ok
      dsimp only
      omega
    · exact U.zero_ok
  · exact st_ok b

theorem step_any (s : U) (b : Int) (w : World) (hs : s.Ok) (h0 : 0 ≤ b) (h1 : b ≤ 255) :
    Calls Try.prog 119 #[.agg #[.int .i64 s.n, .int .i64 s.m, .int .i64 s.g], .int .u8 b] w (StepPost w (nx s b).n (nx s b).m (nx s b).g (nxR s b)) := by
  obtain ⟨a1, a2, a3, a4, a5, a6⟩ := hs
  by_cases c : 0 < s.n
  · by_cases d : 128 ≤ b ∧ b ≤ 191
    · by_cases f : 1 < s.n
      · have e1 : nx s b = ⟨s.n - 1, s.m, s.g * 64 + b % 64⟩ := by unfold nx; rw [if_pos ⟨c, d⟩, if_pos f]
        have e2 : nxR s b = [] := by unfold nxR; rw [if_pos c, if_pos d, if_pos f]
        rw [e1, e2]
        exact step_on s.n s.m s.g b w c d.1 d.2 _ _ _ _ fun w => goOn_more s.n s.m s.g b w f a2 a3 a4 d.1 d.2
      · have e1 : nx s b = U.zero := by unfold nx; rw [if_pos ⟨c, d⟩, if_neg f]
        have e2 : nxR s b = [endR (s.g * 64 + b % 64) s.m] := by unfold nxR; rw [if_pos c, if_pos d, if_neg f]
        rw [e1, e2]
        exact step_on s.n s.m s.g b w c d.1 d.2 _ _ _ _ fun w => goOn_last s.n s.m s.g b w (by omega) a3 a4 d.1 d.2
    · have e1 : nx s b = ⟨stN b, stM b, stG b⟩ := by unfold nx; rw [if_neg (fun h => d h.2)]
      have e2 : nxR s b = 65533 :: stR b := by unfold nxR; rw [if_pos c, if_neg d]
      rw [e1, e2]
      exact step_bad s.n s.m s.g b w c h0 h1 (by omega) (stR_len b)
  · have e1 : nx s b = ⟨stN b, stM b, stG b⟩ := by unfold nx; rw [if_neg (fun h => c h.1)]
    have e2 : nxR s b = stR b := by unfold nxR; rw [if_neg c]
    rw [e1, e2]
    exact step_fresh s.n s.m s.g b w (by omega) h0 h1

/-! ### blocks that are known whole -/
/-- Block g of world w is the cells cs. -/
def Held (w : World) (g : Nat) (t : TypeId) (cs : Array Value) : Prop := w.heap[g]? = some (.cells cs t (0, 0))
theorem Held.new (w : World) (t : TypeId) (cs : Array Value) : Held (w.alloc (.cells cs t)) w.heap.size t cs := heap_alloc_new w _
theorem Held.lt {w : World} {g : Nat} {t : TypeId} {cs : Array Value} (h : Held w g t cs) : g < w.heap.size := (Array.getElem?_eq_some_iff.1 h).1
theorem Held.below {w w' : World} {g B : Nat} {t : TypeId} {cs : Array Value} (h : Held w g t cs) (hb : Below B w w') (hg : g < B) : Held w' g t cs := (hb.block g hg).trans h
theorem Held.alloc {w : World} {g : Nat} {t : TypeId} {cs : Array Value} (h : Held w g t cs) (o : Obj) : Held (w.alloc o) g t cs := (Below.heap_alloc w o g h.lt).trans h
theorem Held.cell {w : World} {g : Nat} {t : TypeId} {cs : Array Value} (h : Held w g t cs) (o : Nat) : w.cell? ⟨g, o, none⟩ = cs[o]? := cell_of_row w g o cs t (0, 0) h
theorem Held.frozen {w : World} {g : Nat} {t : TypeId} {cs : Array Value} (h : Held w g t cs) (o : Nat) : w.frozen? ⟨g, o, none⟩ = false := frozen_of_row w g o cs t h

theorem Held.new2 (w : World) (o : Obj) (t : TypeId) (cs : Array Value) : Held ((w.alloc o).alloc (.cells cs t)) (w.heap.size + 1) t cs := by
  have := Held.new (w.alloc o) t cs
  rwa [World.size_alloc] at this
theorem Held.set1 {w : World} {g : Nat} {t : TypeId} {cs : Array Value} (h : Held w g t cs) (i : Nat) (x : Value) : Held (w.setCell ⟨g, i, none⟩ x) g t (cs.setIfInBounds i x) := heap_setCell_same w g i cs t x h
theorem Held.set3 {w : World} {g : Nat} {t : TypeId} {a b c : Value} (h : Held w g t #[a, b, c]) (x y z : Value) :
    Held (((w.setCell ⟨g, 0, none⟩ x).setCell ⟨g, 1, none⟩ y).setCell ⟨g, 2, none⟩ z) g t #[x, y, z] := ((h.set1 0 x).set1 1 y).set1 2 z
theorem Held.far3 {w : World} {g k : Nat} {t : TypeId} {cs : Array Value} (h : Held w g t cs) (hk : g ≠ k) (x y z : Value) :
    Held (((w.setCell ⟨k, 0, none⟩ x).setCell ⟨k, 1, none⟩ y).setCell ⟨k, 2, none⟩ z) g t cs := by
  unfold Held at h ⊢
  rw [Below.heap_setCell _ _ _ g (by simpa using hk), Below.heap_setCell _ _ _ g (by simpa using hk), Below.heap_setCell _ _ _ g (by simpa using hk)]
  exact h
theorem own_ge_ne {w : World} {B k : Nat} {e : TypeId} {v : Value} {sz n : Nat} {xs : List Value} (h : w.ownsRow B e sz v n xs) (hk : w.heap.size ≤ k) : v.ownBlock ≠ some k := fun he => by have := (h.lt k he).2; omega
theorem u8_le (c : UInt8) : (c.toNat : Int) ≤ 255 := by have := c.toNat_lt; omega

/-! ### rows of numbers -/
def i64s (l : List Int) : List Value := l.map (Value.int .i64)
theorem i64s_one (l : List Int) : ∀ y ∈ i64s l, y.oneCell' = true := by
  intro y hy
  simp only [i64s, List.mem_map] at hy
  obtain ⟨r, _, rfl⟩ := hy
  rfl
theorem i64s_len (a : List Int) : (i64s a).length = a.length := by simp [i64s]
theorem i64s_app (a b : List Int) : i64s a ++ i64s b = i64s (a ++ b) := by simp [i64s]
/-- A slice value v whose elements are the numbers l, in memory at or above block B. -/
def Ints (w : World) (B : Nat) (v : Value) (l : List Int) : Prop := w.ownsRow B 3 1 v l.length (i64s l)
theorem ints_nil (w : World) (B : Nat) : Ints w B (.slice none 0 0) [] := World.ownsRow_nil w B 3 1
theorem ints_form {w : World} {B : Nat} {v : Value} {rs : List Int} (h : Ints w B v rs) : ∃ D c, v = .slice D rs.length c := by
  rcases h.2 with ⟨rfl, h0⟩ | ⟨g, cap, cur, rfl, _⟩
  · exact ⟨none, 0, by rw [h0]⟩
  · exact ⟨_, _, rfl⟩
theorem Ints.below {w w' : World} {B C : Nat} {v : Value} {l : List Int} (h : Ints w B v l) (hb : Below C w w') (hC : w.heap.size ≤ C) : Ints w' B v l := own_below h hb hC
theorem Ints.base {w : World} {B C : Nat} {v : Value} {l : List Int} (h : Ints w B v l) (hC : C ≤ B) : Ints w C v l := own_base h hC
theorem Ints.alloc {w : World} {B : Nat} {v : Value} {l : List Int} (h : Ints w B v l) (o : Obj) : Ints (w.alloc o) B v l := World.ownsRow.alloc h o
theorem Ints.kept {w w' : World} {B : Nat} {v : Value} {l : List Int} {row : Option Nat} (h : Ints w B v l) (hg : w.grownBy w' row) (hne : v.ownBlock = none ∨ v.ownBlock ≠ row) : Ints w' B v l := World.ownsRow.kept h hg hne
theorem Ints.set {w : World} {B : Nat} {v : Value} {l : List Int} (h : Ints w B v l) {p : Addr} (hp : v.ownBlock ≠ some p.block) (u : Value) : Ints (w.setCell p u) B v l := own_set h hp u
theorem Ints.drew {w : World} {B : Nat} {v : Value} {l : List Int} (h : Ints w B v l) : Ints w.drew B v l := h
/-- Its cells, to be read. -/
theorem Ints.read {w : World} {B : Nat} {v : Value} {l : List Int} (h : Ints w B v l) : ∃ D c, v = .slice D l.length c ∧ ∀ k : Nat, k < l.length → ∃ (b : Nat) (z : Int), D = some ⟨b, 0, none⟩ ∧ l[k]? = some z ∧ w.cell? ⟨b, k, none⟩ = some (.int .i64 z) := by
  rcases h.2 with ⟨rfl, h0⟩ | ⟨g, cap, cur, rfl, _⟩
  · exact ⟨none, 0, by rw [h0], fun k hk => by omega⟩
  · refine ⟨_, _, rfl, fun k hk => ⟨g, l[k], rfl, by simp [hk], ?_⟩⟩
    exact (World.ownsRow.cellAt h k (by omega)).trans (by simp [i64s, hk])

/-! ### actions -/
/-- An action: its kind, its rune, its numbers. -/
structure A where
  k : Int
  r : Int
  par : List Int
def actCells (ps : List (A × Value)) : List Value := ps.flatMap fun x => [.int .i64 x.1.k, .int .i32 x.1.r, x.2]
theorem actCells_len (ps : List (A × Value)) : (actCells ps).length = ps.length * 3 := by
  induction ps with
  | nil => rfl
  | cons a l ih => simp only [actCells, List.flatMap_cons, List.length_append, List.length_cons, List.length_nil] at ih ⊢; omega
theorem actCells_app (a b : List (A × Value)) : actCells a ++ actCells b = actCells (a ++ b) := by simp [actCells]
/-- A slice value v whose elements are the actions l, in memory at or above block B. -/
structure ActsOf (w : World) (B : Nat) (v : Value) (ps : List (A × Value)) : Prop where
  row : w.ownsRow B 44 3 v ps.length (actCells ps)
  pars : ∀ x ∈ ps, Ints w B x.2 x.1.par ∧ (x.2.ownBlock = none ∨ x.2.ownBlock ≠ v.ownBlock)
def Acts (w : World) (B : Nat) (v : Value) (l : List A) : Prop := ∃ ps : List (A × Value), ps.map (·.1) = l ∧ ActsOf w B v ps

theorem one_ints {w : World} {B : Nat} {v : Value} {l : List Int} (h : Ints w B v l) : v.oneCell' = true := by
  obtain ⟨D, c, rfl⟩ := ints_form h
  rfl
theorem ActsOf.one {w : World} {B : Nat} {v : Value} {ps : List (A × Value)} (h : ActsOf w B v ps) : ∀ y ∈ actCells ps, y.oneCell' = true := by
  intro y hy
  simp only [actCells, List.mem_flatMap, List.mem_cons, List.not_mem_nil, or_false] at hy
  obtain ⟨x, hx, rfl | rfl | rfl⟩ := hy
  · rfl
  · rfl
  · exact one_ints (h.pars x hx).1
theorem acts_nil (w : World) (B : Nat) : Acts w B (.slice none 0 0) [] := ⟨[], rfl, World.ownsRow_nil w B 44 3, fun _ h => by cases h⟩
theorem Acts.below {w w' : World} {B C : Nat} {v : Value} {l : List A} (h : Acts w B v l) (hb : Below C w w') (hC : w.heap.size ≤ C) : Acts w' B v l := by
  obtain ⟨ps, h1, h2, h3⟩ := h
  exact ⟨ps, h1, own_below h2 hb hC, fun x hx => ⟨(h3 x hx).1.below hb hC, (h3 x hx).2⟩⟩
theorem Acts.base {w : World} {B C : Nat} {v : Value} {l : List A} (h : Acts w B v l) (hC : C ≤ B) : Acts w C v l := by
  obtain ⟨ps, h1, h2, h3⟩ := h
  exact ⟨ps, h1, own_base h2 hC, fun x hx => ⟨(h3 x hx).1.base hC, (h3 x hx).2⟩⟩
theorem Acts.alloc {w : World} {B : Nat} {v : Value} {l : List A} (h : Acts w B v l) (o : Obj) : Acts (w.alloc o) B v l := by
  obtain ⟨ps, h1, h2, h3⟩ := h
  exact ⟨ps, h1, World.ownsRow.alloc h2 o, fun x hx => ⟨(h3 x hx).1.alloc o, (h3 x hx).2⟩⟩
theorem Acts.drew {w : World} {B : Nat} {v : Value} {l : List A} (h : Acts w B v l) : Acts w.drew B v l := by
  obtain ⟨ps, h1, h2, h3⟩ := h
  exact ⟨ps, h1, h2, h3⟩
/-- A cell of a block below B is set. -/
theorem Acts.set {w : World} {B : Nat} {v : Value} {l : List A} (h : Acts w B v l) {p : Addr} (hp : p.block < B) (u : Value) : Acts (w.setCell p u) B v l := by
  obtain ⟨ps, h1, h2, h3⟩ := h
  exact ⟨ps, h1, own_set h2 (own_ne h2 hp) u, fun x hx => ⟨(h3 x hx).1.set (own_ne (h3 x hx).1 hp) u, (h3 x hx).2⟩⟩
/-- A cell of a block behind all that there was is set. -/
theorem Acts.set_new {w w0 : World} {B : Nat} {v : Value} {l : List A} (h0 : Acts w0 B v l) (h : Below w0.heap.size w0 w) {p : Addr} (hp : w0.heap.size ≤ p.block) (u : Value) : Acts (w.setCell p u) B v l :=
  h0.below (h.setCell hp u) (Nat.le_refl _)
theorem acts_form {w : World} {B : Nat} {v : Value} {l : List A} (h : Acts w B v l) : ∃ D c, v = .slice D l.length c := by
  obtain ⟨ps, h1, h2, h3⟩ := h
  rw [← h1, List.length_map]
  rcases h2.2 with ⟨rfl, h0⟩ | ⟨g, cap, cur, rfl, _⟩
  · exact ⟨none, 0, by rw [h0]⟩
  · exact ⟨_, _, rfl⟩
/-- Its cells, to be read. -/
theorem Acts.read {w : World} {B : Nat} {v : Value} {l : List A} (h : Acts w B v l) : ∃ D c, v = .slice D l.length c ∧ ∀ k : Nat, k < l.length → ∃ (b : Nat) (z : A) (p : Value), D = some ⟨b, 0, none⟩ ∧ l[k]? = some z ∧ w.cell? ⟨b, k * 3, none⟩ = some (.int .i64 z.k) ∧ w.cell? ⟨b, k * 3 + 1, none⟩ = some (.int .i32 z.r) ∧ w.cell? ⟨b, k * 3 + 2, none⟩ = some p ∧ Ints w B p z.par := by
  obtain ⟨ps, h1, h2, h3⟩ := h
  subst h1
  rcases h2.2 with ⟨rfl, h0⟩ | ⟨g, cap, cur, rfl, _⟩
  · exact ⟨none, 0, by simp [h0], fun k hk => by simp at hk; omega⟩
  · refine ⟨_, _, by rw [List.length_map], fun k hk => ?_⟩
    rw [List.length_map] at hk
    have key : ∀ (qs : List (A × Value)) (k : Nat) (h : k < qs.length), (actCells qs)[k * 3]? = some (.int .i64 qs[k].1.k) ∧ (actCells qs)[k * 3 + 1]? = some (.int .i32 qs[k].1.r) ∧ (actCells qs)[k * 3 + 2]? = some qs[k].2 := by
      intro qs
      induction qs with
      | nil => intro k h; simp at h
      | cons q qs ih =>
        intro k h
        cases k with
        | zero => exact ⟨rfl, rfl, rfl⟩
        | succ k =>
          have hk' : k < qs.length := by simpa using h
          have e : actCells (q :: qs) = [.int .i64 q.1.k, .int .i32 q.1.r, q.2] ++ actCells qs := rfl
          have e0 : (k + 1) * 3 = k * 3 + 3 := by omega
          rw [e, e0]
          simpa using ih k hk'
    obtain ⟨e0, e1, e2⟩ := key ps k hk
    refine ⟨g, ps[k].1, ps[k].2, rfl, by simp [hk], ?_, ?_, ?_, (h3 _ (List.getElem_mem hk)).1⟩
    · exact (World.ownsRow.cellAt h2 _ (by omega)).trans e0
    · exact (World.ownsRow.cellAt h2 _ (by omega)).trans e1
    · exact (World.ownsRow.cellAt h2 _ (by omega)).trans e2

/-- What an append of one row of actions to another leaves. -/
theorem acts_appended {w w' : World} {B B2 : Nat} {v u v' : Value} {ps qs : List (A × Value)} (hv : ActsOf w B v ps) (hu : ActsOf w B2 u qs) (hB : B ≤ B2) (hold : ∀ k, v.ownBlock = some k → k < B2)
    (h : Appended w w' B 44 3 v v' (ps.length + qs.length) (actCells ps ++ actCells qs)) : ActsOf w' B v' (ps ++ qs) := by
  have lie : ∀ {p : Value} {l : List Int} {C : Nat}, Ints w C p l → (p.ownBlock = none ∨ p.ownBlock ≠ v.ownBlock) → Ints w' C p l ∧ (p.ownBlock = none ∨ p.ownBlock ≠ v'.ownBlock) := by
    intro p l C hp hne
    refine ⟨hp.kept h.grown hne, ?_⟩
    rcases h.lies with hl | hl
    · rw [hl]; exact hne
    · rw [hl]; exact .inr (own_ge_ne hp (Nat.le_refl _))
  refine ⟨?_, fun x hx => ?_⟩
  · rw [List.length_append, ← actCells_app]
    exact h.own
  · rcases List.mem_append.1 hx with hx | hx
    · exact lie (hv.pars x hx).1 (hv.pars x hx).2
    · have := hu.pars x hx
      obtain ⟨p1, p2⟩ := lie this.1 (by
        cases hv0 : v.ownBlock with
        | none => exact (Option.eq_none_or_eq_some x.2.ownBlock).elim .inl fun ⟨k, hk⟩ => .inr (by rw [hk]; simp)
        | some k => exact .inr (own_ne this.1 (hold k hv0)))
      exact ⟨p1.base hB, p2⟩
end Go.Proofs.Ytpcpmeihebgncaa.Esca

/-
  What the small functions of package esca do to the world, as plain functions of numbers. Conditions: a byte is 0 to 255.
-/
namespace Go.Proofs.Ytpcpmeihebgncaa.Esca
open Go.RowKit
set_option maxRecDepth 100000

/-! ### the plain functions -/
def inStr (b : Int) : Int := if b = 7 ∨ b = 24 ∨ b = 26 then 0 else if b = 27 then 5 else 3
def inEn (b : Int) : Int := if b = 92 then 0 else if b = 27 then 5 else 3
def inSk (b : Int) : Int := if b = 24 ∨ b = 26 ∨ (48 ≤ b ∧ b ≤ 126) then 0 else if b = 27 then 1 else 4
def ctl (b : Int) : List A := if b < 7 ∨ 13 < b then [] else [⟨2, b, []⟩]
def prt (r : Int) : Bool := decide (32 ≤ r ∧ r ≤ 126 ∨ 160 ≤ r)
def prints (rs : List Int) : List A := (rs.filter prt).map fun r => ⟨1, r, []⟩
def wDigit (n d : Int) : Int := if n < 0 then d else min (10 * min n 65535 + d) 65535
def wPar (par : List Int) (n : Int) : List Int := if 16 ≤ par.length then par else par ++ [n]

/-- What a function that answers actions leaves. -/
def ActPost (B : Nat) (w : World) (l : List A) (e : Ending) (w' : World) : Prop := ∃ v, e = .returned v ∧ Acts w' B v l ∧ Below B w w'
/-- What a function that answers numbers leaves. -/
def IntPost (B : Nat) (w : World) (l : List Int) (e : Ending) (w' : World) : Prop := ∃ v, e = .returned v ∧ Ints w' B v l ∧ Below B w w'

set_option maxHeartbeats 400000 in
theorem inString_any (b : Int) (w : World) : Calls Try.prog 84 #[.int .u8 b] w fun e w' => e = .returned (.int .i64 (inStr b)) ∧ w = w' := by
  go_enter Try.func84, Try.ntmps84
  go_wp2
  all_goals (go_ret; (refine ⟨congrArg (fun z => Ending.returned (Value.int .i64 z)) ?_, rfl⟩); simp only [beq_iff_eq, beq_eq_false_iff_ne, ne_eq] at *; unfold inStr; (repeat' split) <;> omega)
set_option maxHeartbeats 400000 in
theorem inEnd_any (b : Int) (w : World) : Calls Try.prog 85 #[.int .u8 b] w fun e w' => e = .returned (.int .i64 (inEn b)) ∧ w = w' := by
  go_enter Try.func85, Try.ntmps85
  go_wp2
  all_goals (go_ret; (refine ⟨congrArg (fun z => Ending.returned (Value.int .i64 z)) ?_, rfl⟩); simp only [beq_iff_eq, beq_eq_false_iff_ne, ne_eq] at *; unfold inEn; (repeat' split) <;> omega)
set_option maxHeartbeats 400000 in
theorem inSkip_any (b : Int) (w : World) : Calls Try.prog 86 #[.int .u8 b] w fun e w' => e = .returned (.int .i64 (inSk b)) ∧ w = w' := by
  go_enter Try.func86, Try.ntmps86
  go_wp2
  all_goals (go_ret; (refine ⟨congrArg (fun z => Ending.returned (Value.int .i64 z)) ?_, rfl⟩); simp only [beq_iff_eq, beq_eq_false_iff_ne, ne_eq] at *; unfold inSk; (repeat' split) <;> omega)
theorem acts_one (w : World) (B : Nat) (k r : Int) (hB : B ≤ w.heap.size) : Acts (w.alloc (.cells #[.int .i64 k, .int .i32 r, .slice none 0 0] 44)) B (.slice (some ⟨w.heap.size, 0, none⟩) 1 1) [⟨k, r, []⟩] :=
  ⟨[(⟨k, r, []⟩, .slice none 0 0)], rfl, World.ownsRow_lit w #[.int .i64 k, .int .i32 r, .slice none 0 0] 1 hB (by simp [maxLen]) rfl, fun x hx => by
    simp only [List.mem_singleton] at hx
    subst hx
    exact ⟨ints_nil _ _, .inl rfl⟩⟩
set_option maxHeartbeats 400000 in
theorem control_any (b : Int) (w : World) (h0 : 0 ≤ b) (h1 : b ≤ 255) : Calls Try.prog 121 #[.int .u8 b] w (ActPost w.heap.size w (ctl b)) := by
  by_cases c : b < 7 ∨ 13 < b
  · rw [show ctl b = [] by simp [ctl, c]]
    rcases c with c | c
    all_goals
      go_enter Try.func121, Try.ntmps121
      go_wp2
      all_goals (go_ret; exact ⟨_, rfl, acts_nil _ _, Below.refl _ _⟩)
  · rw [show ctl b = [⟨2, b, []⟩] by simp [ctl, c]]
    have c1 : 7 ≤ b := by omega
    have c2 : b ≤ 13 := by omega
    go_enter Try.func121, Try.ntmps121
    go_wp2
    go_ret
    exact ⟨_, rfl, acts_one _ _ _ _ (Nat.le_refl _), (Below.refl _ _).alloc (Nat.le_refl _) _⟩
set_option maxHeartbeats 400000 in
theorem isPrinted_any (r : Int) (w : World) : Calls Try.prog 148 #[.int .i32 r] w fun e w' => e = .returned (.bool (prt r)) ∧ w = w' := by
  go_enter Try.func148, Try.ntmps148
  go_wp2
  all_goals (go_ret; (refine ⟨congrArg (fun z => Ending.returned (Value.bool z)) ?_, rfl⟩); unfold prt; apply Bool.eq_iff_iff.2; simp <;> omega)
set_option maxHeartbeats 400000 in
theorem withDigit_any (n d : Int) (w : World) (h0 : 0 ≤ d) (h1 : d ≤ 9) (hn : n ≤ 65535) : Calls Try.prog 123 #[.int .i64 n, .int .i64 d] w fun e w' => e = .returned (.int .i64 (wDigit n d)) ∧ w = w' := by
  go_enter Try.func123, Try.ntmps123
  go_wp2
  all_goals (go_ret; (refine ⟨congrArg (fun z => Ending.returned (Value.int .i64 z)) ?_, rfl⟩); unfold wDigit; (repeat' split) <;> omega)
set_option maxHeartbeats 400000 in
theorem clone_any (v : Value) (l : List Int) (B : Nat) (w : World) (hv : Ints w B v l) (hl : l.length ≤ 1000) : Calls Try.prog 89 #[v] w (IntPost w.heap.size w l) := by
  rcases hv.2 with ⟨rfl, h0⟩ | ⟨g, cap, cur, rfl, _⟩
  · have hr : l = [] := List.eq_nil_of_length_eq_zero h0
    subst hr
    have hnil : ∀ W, (binOp .eql 28 (.slice none 0 0) (.slice none 0 0)).run Try.prog W = .ok (.bool true) W := fun W => Lib.run_eql_slice_nil W _ _ _ _ _ _ _ Try.underlying28
    go_enter Try.func89, Try.ntmps89
    go_wp2
    go_ret
    exact ⟨_, rfl, ints_nil _ _, Below.refl _ _⟩
  · have hrow := World.ownsRow_lit (base := w.heap.size) (e := 3) (size := 1) w #[] 0 (by simp) (by simp [maxLen]) rfl
    have hv' := Ints.alloc hv (.cells #[] 3)
    have hnil : ∀ W, (binOp .eql 28 (.slice (some ⟨g, 0, none⟩) l.length cap) (.slice none 0 0)).run Try.prog W = .ok (.bool false) W := fun W => Lib.run_eql_slice_nil W _ _ _ _ _ _ _ Try.underlying28
    go_enter Try.func89, Try.ntmps89
    go_wp2_with (refine wpList_append_rows _ (by rfl) _ _ _ (by rfl) rowInt w.heap.size B 0 l.length (.slice (some ⟨w.heap.size, 0, none⟩) 0 0) _ [] (i64s l) (by rfl) (by rfl) (by exact hrow) (by exact hv') (i64s_one _) (by omega) (by simp) ?_; intro v3 w3 hap)
    go_ret
    refine ⟨v3, rfl, ?_, ((Below.refl _ w).alloc (Nat.le_refl _) _).trans (hap.below hrow (by simp))⟩
    have := hap.own
    rwa [Nat.zero_add] at this

/-! ### where it is -/
/-- Where it is: an api.Esc but for where its Par lies. -/
structure E where
  mode : Int
  u : U
  par : List Int
  num : Int
  priv : Bool
  skip : Bool
def escV (e : E) (p : Value) : Value := .agg #[.int .i64 e.mode, .int .i64 e.u.n, .int .i64 e.u.m, .int .i64 e.u.g, p, .int .i64 e.num, .bool e.priv, .bool e.skip]
def escC (e : E) (p : Value) : Array Value := #[.int .i64 e.mode, .int .i64 e.u.n, .int .i64 e.u.m, .int .i64 e.u.g, p, .int .i64 e.num, .bool e.priv, .bool e.skip]
/-- What a function that answers where it is leaves. -/
def EscPost (B : Nat) (w : World) (e' : E) (x : Ending) (w' : World) : Prop := ∃ p, x = .returned (escV e' p) ∧ Ints w' B p e'.par ∧ Below B w w'
theorem Ints.setlo {w : World} {B : Nat} {v : Value} {l : List Int} (h : Ints w B v l) {k o : Nat} (hk : k < B) (u : Value) : Ints (w.setCell ⟨k, o, none⟩ u) B v l := h.set (own_ne h hk) u
theorem Acts.setlo {w : World} {B : Nat} {v : Value} {l : List A} (h : Acts w B v l) {k o : Nat} (hk : k < B) (u : Value) : Acts (w.setCell ⟨k, o, none⟩ u) B v l := h.set (p := ⟨k, o, none⟩) hk u
theorem below_set {a w : World} {B k o : Nat} (h : Below B a w) (hk : B ≤ k) (x : Value) : Below B a (w.setCell ⟨k, o, none⟩ x) := h.setCell (p := ⟨k, o, none⟩) hk x

theorem esc_cells {w : World} {g : Nat} {a0 a1 a2 a3 a4 a5 a6 a7 : Value} (h : Held w g 32 #[a0, a1, a2, a3, a4, a5, a6, a7]) :
    w.cell? ⟨g, 0, none⟩ = some a0 ∧ w.cell? ⟨g, 1, none⟩ = some a1 ∧ w.cell? ⟨g, 2, none⟩ = some a2 ∧ w.cell? ⟨g, 3, none⟩ = some a3 ∧ w.cell? ⟨g, 4, none⟩ = some a4 ∧ w.cell? ⟨g, 5, none⟩ = some a5 ∧ w.cell? ⟨g, 6, none⟩ = some a6 ∧ w.cell? ⟨g, 7, none⟩ = some a7 ∧ (∀ o, w.frozen? ⟨g, o, none⟩ = false) :=
  ⟨(h.cell 0).trans rfl, (h.cell 1).trans rfl, (h.cell 2).trans rfl, (h.cell 3).trans rfl, (h.cell 4).trans rfl, (h.cell 5).trans rfl, (h.cell 6).trans rfl, (h.cell 7).trans rfl, h.frozen⟩

theorem two_new {w w2 : World} {t t' : TypeId} {cs cs' : Array Value} (hb : Below ((w.alloc (.cells cs t)).alloc (.cells cs' t')).heap.size ((w.alloc (.cells cs t)).alloc (.cells cs' t')) w2) : Held w2 w.heap.size t cs ∧ Held w2 (w.heap.size + 1) t' cs' :=
  ⟨Held.below (Held.alloc (Held.new w t cs) _) hb (by rw [World.size_alloc, World.size_alloc]; omega), Held.below (Held.new2 w _ t' cs') hb (by rw [World.size_alloc, World.size_alloc]; omega)⟩

set_option maxHeartbeats 800000 in
theorem own_any (e : E) (p : Value) (B : Nat) (w : World) (hp : Ints w B p e.par) (hl : e.par.length ≤ 1000) : Calls Try.prog 80 #[escV e p] w (EscPost w.heap.size w e) := by
  obtain ⟨mo, ⟨n, m, g⟩, par, num, pr, sk⟩ := e
  unfold escV
  dsimp only at *
  obtain ⟨D, c, rfl⟩ := ints_form hp
  go_enter Try.func80, Try.ntmps80
  go_wp2_with (
    go_at_call 89
    refine (clone_any _ par B _ (Ints.alloc (Ints.alloc hp _) _) hl).mono ?_
    rintro e w2 ⟨v, rfl, hr, hb2⟩
    obtain ⟨D2, c2, rfl⟩ := ints_form hr
    obtain ⟨H1, H2⟩ := two_new hb2
    obtain ⟨x0, x1, x2, x3, x4, x5, x6, x7, xf⟩ := esc_cells H1
    obtain ⟨y0, y1, y2, y3, y4, y5, y6, y7, yf⟩ := esc_cells H2)
  refine bodyPost_ret (v := escV ⟨mo, ⟨n, m, g⟩, par, num, pr, sk⟩ (.slice D2 par.length c2)) (by simp [results, Try.results80, go_sem, escV, y0, y1, y2, y3, y4, y5, y6, y7]) rfl ⟨_, rfl, ?_, ?_⟩
  · have hr' : Ints w2 (w.heap.size + 2) (.slice D2 par.length c2) par := hr.base (by simp)
    refine Ints.base (B := w.heap.size + 2) ?_ (by omega)
    repeat (first | with_reducible exact hr' | with_reducible refine Ints.setlo ?_ (by omega) _)
  · repeat (with_reducible refine below_set ?_ (by omega) _)
    exact (below_alloc2 _ _ _).trans (hb2.mono (by simp; omega))
end Go.Proofs.Ytpcpmeihebgncaa.Esca

/-
  What package esca does with a control sequence's bytes: its small functions. Conditions: a byte is 0 to 255; at most a thousand numbers.
-/
namespace Go.Proofs.Ytpcpmeihebgncaa.Esca
open Go.RowKit
set_option maxRecDepth 100000

def fresh (e : E) : Bool := decide (e.par = [] ∧ e.num = -1 ∧ e.priv = false)
def finPar (e : E) : List Int := if e.num ≠ -1 ∨ e.par ≠ [] then wPar e.par e.num else e.par
def fin (e : E) (b : Int) : List A := if e.skip then [] else [⟨if e.priv then 5 else 4, b, finPar e⟩]

theorem ints_one (w : World) (B : Nat) (n : Int) (hB : B ≤ w.heap.size) : Ints (w.alloc (.cells #[.int .i64 n] 3)) B (.slice (some ⟨w.heap.size, 0, none⟩) 1 1) [n] :=
  World.ownsRow_lit w #[.int .i64 n] 1 hB (by simp [maxLen]) rfl

/-- What withPar leaves: the numbers l, and all blocks as they were but for that of the old row. -/
def ParPost (B : Nat) (w : World) (row : Option Nat) (l : List Int) (e : Ending) (w' : World) : Prop := ∃ v, e = .returned v ∧ Ints w' B v l ∧ Below B w w' ∧ (∀ k, k < w.heap.size → some k ≠ row → w'.heap[k]? = w.heap[k]?) ∧ ∀ k, v.ownBlock = some k → some k = row ∨ w.heap.size ≤ k

set_option maxHeartbeats 400000 in
theorem withPar_any (p : Value) (par : List Int) (n : Int) (B : Nat) (w : World) (hp : Ints w B p par) (hl : par.length ≤ 1000) (hB : B ≤ w.heap.size) :
    Calls Try.prog 124 #[p, .int .i64 n] w (ParPost B w p.ownBlock (wPar par n)) := by
  by_cases c : 16 ≤ par.length
  · rw [show wPar par n = par by simp [wPar, c]]
    obtain ⟨D, cp, rfl⟩ := ints_form hp
    go_enter Try.func124, Try.ntmps124
    go_wp2
    go_ret
    exact ⟨_, rfl, hp, Below.refl _ _, fun _ _ _ => rfl, fun k hk => .inl hk.symm⟩
  · rw [show wPar par n = par ++ [n] by simp [wPar, c]]
    obtain ⟨D, cp, rfl⟩ := ints_form hp
    have hp' := Ints.alloc hp (.cells #[.int .i64 n] 3)
    have hu := ints_one w w.heap.size n (Nat.le_refl _)
    go_enter Try.func124, Try.ntmps124
    go_wp2_with (refine wpList_append_rows _ (by rfl) _ _ _ (by rfl) rowInt B w.heap.size par.length 1 (.slice D par.length cp) (.slice (some ⟨w.heap.size, 0, none⟩) 1 1) (i64s par) (i64s [n]) (by rfl) (by rfl) (by exact hp') (by exact hu) (i64s_one _) (by omega) (by simp; omega) ?_; intro v3 w3 hap)
    go_ret
    refine ⟨v3, rfl, ?_, ((Below.refl _ w).alloc hB _).trans (hap.below hp' (by simp; omega)), fun k hk hne => (hap.grown.block k (by simp; omega) hne).trans (Below.heap_alloc w _ k hk), fun k hk => ?_⟩
    · have := hap.own
      rw [i64s_app] at this
      unfold Ints
      rwa [List.length_append]
    · rcases hap.lies with hl2 | hl2
      · exact .inl (hk.symm.trans hl2)
      · rw [hl2] at hk
        simp only [World.size_alloc, Option.some.injEq] at hk
        exact .inr (by omega)

set_option maxHeartbeats 400000 in
theorem leave_any (e : E) (p : Value) (mode : Int) (B : Nat) (w : World) (hp : Ints w B p e.par) :
    Calls Try.prog 122 #[escV e p, .int .i64 mode] w fun x w' => x = .returned (escV ⟨mode, e.u, [], 0, false, false⟩ (.slice none 0 0)) ∧ Below w.heap.size w w' := by
  obtain ⟨mo, ⟨n, m, g⟩, par, num, pr, sk⟩ := e
  unfold escV
  dsimp only at *
  obtain ⟨D, c, rfl⟩ := ints_form hp
  go_enter Try.func122, Try.ntmps122
  go_wp2
  refine bodyPost_ret (v := escV ⟨mode, ⟨n, m, g⟩, [], 0, false, false⟩ (.slice none 0 0)) (by simp [results, Try.results122, go_sem, escV]) rfl ⟨rfl, ?_⟩
  repeat (with_reducible refine below_set ?_ (by omega) _)
  exact below_alloc2 _ _ _

set_option maxHeartbeats 400000 in
theorem isFresh_any (e : E) (p : Value) (B : Nat) (w : World) (hp : Ints w B p e.par) :
    Calls Try.prog 125 #[escV e p] w fun x w' => x = .returned (.bool (fresh e)) ∧ Below w.heap.size w w' := by
  obtain ⟨mo, ⟨n, m, g⟩, par, num, pr, sk⟩ := e
  have hf : fresh ⟨mo, ⟨n, m, g⟩, par, num, pr, sk⟩ = (decide (par.length = 0) && (decide (num = -1) && !pr)) := by
    cases par <;> cases pr <;> simp [fresh]
  rw [hf]
  unfold escV
  dsimp only at *
  obtain ⟨D, c, rfl⟩ := ints_form hp
  go_enter Try.func125, Try.ntmps125
  go_wp2
  all_goals go_ret
  all_goals (refine ⟨?_, (Below.refl _ _).alloc (Nat.le_refl _) _⟩)
  all_goals simp [*]

/-- A row of actions no part of which lies in block j. -/
def ActsOff (w : World) (B : Nat) (v : Value) (l : List A) (j : Nat) : Prop := ∃ ps : List (A × Value), ps.map (·.1) = l ∧ ActsOf w B v ps ∧ v.ownBlock ≠ some j ∧ ∀ x ∈ ps, x.2.ownBlock ≠ some j
theorem ActsOff.acts {w : World} {B : Nat} {v : Value} {l : List A} {j : Nat} (h : ActsOff w B v l j) : Acts w B v l := by
  obtain ⟨ps, h1, h2, _⟩ := h
  exact ⟨ps, h1, h2⟩
theorem ActsOff.set {w : World} {B : Nat} {v : Value} {l : List A} {j : Nat} (h : ActsOff w B v l j) (o : Nat) (u : Value) : ActsOff (w.setCell ⟨j, o, none⟩ u) B v l j := by
  obtain ⟨ps, h1, ⟨h2, h3⟩, h4, h5⟩ := h
  exact ⟨ps, h1, ⟨own_set h2 h4 u, fun x hx => ⟨(h3 x hx).1.set (h5 x hx) u, (h3 x hx).2⟩⟩, h4, h5⟩
theorem actsOff_onep {w : World} {B : Nat} {p : Value} {l : List Int} (k r : Int) (hp : Ints w B p l) (hB : B ≤ w.heap.size) {j : Nat} (hj : j < w.heap.size) (hne : p.ownBlock ≠ some j) : ActsOff (w.alloc (.cells #[.int .i64 k, .int .i32 r, p] 44)) B (.slice (some ⟨w.heap.size, 0, none⟩) 1 1) [⟨k, r, l⟩] j :=
  ⟨[(⟨k, r, l⟩, p)], rfl, ⟨World.ownsRow_lit w #[.int .i64 k, .int .i32 r, p] 1 hB (by simp [maxLen]) rfl, fun x hx => by
    simp only [List.mem_singleton] at hx
    subst hx
    exact ⟨hp.alloc _, .inr (own_ge_ne hp (Nat.le_refl _))⟩⟩, fun h => by simp only [Value.ownBlock, Option.some.injEq] at h; omega, fun x hx => by
    simp only [List.mem_singleton] at hx
    subst hx
    exact hne⟩
theorem actsOff_onep2 {w : World} {B : Nat} {p : Value} {l : List Int} (o : Obj) (k r : Int) (hp : Ints w B p l) (hB : B ≤ w.heap.size) {j : Nat} (hj : j < w.heap.size) (hne : p.ownBlock ≠ some j) : ActsOff ((w.alloc o).alloc (.cells #[.int .i64 k, .int .i32 r, p] 44)) B (.slice (some ⟨w.heap.size + 1, 0, none⟩) 1 1) [⟨k, r, l⟩] j := by
  have := actsOff_onep k r (hp.alloc o) (by rw [World.size_alloc]; omega) (j := j) (by rw [World.size_alloc]; omega) hne
  rwa [World.size_alloc] at this
theorem actsOff_nil (w : World) (B j : Nat) : ActsOff w B (.slice none 0 0) [] j := ⟨[], rfl, ⟨World.ownsRow_nil w B 44 3, fun _ h => by cases h⟩, by simp [Value.ownBlock], fun _ h => by cases h⟩

/-- What final leaves: the actions l, and all blocks as they were but for that of the old row. -/
def FinPost (B : Nat) (w : World) (row : Option Nat) (l : List A) (e : Ending) (w' : World) : Prop := ∃ v, e = .returned v ∧ Acts w' B v l ∧ Below B w w' ∧ ∀ k, k < w.heap.size → some k ≠ row → w'.heap[k]? = w.heap[k]? ∧ ActsOff w' B v l k

theorem acts_onep {w : World} {B : Nat} {p : Value} {l : List Int} (k r : Int) (hp : Ints w B p l) (hB : B ≤ w.heap.size) : Acts (w.alloc (.cells #[.int .i64 k, .int .i32 r, p] 44)) B (.slice (some ⟨w.heap.size, 0, none⟩) 1 1) [⟨k, r, l⟩] :=
  ⟨[(⟨k, r, l⟩, p)], rfl, World.ownsRow_lit w #[.int .i64 k, .int .i32 r, p] 1 hB (by simp [maxLen]) rfl, fun x hx => by
    simp only [List.mem_singleton] at hx
    subst hx
    exact ⟨hp.alloc _, .inr (own_ge_ne hp (Nat.le_refl _))⟩⟩

theorem acts_onep2 {w : World} {B : Nat} {p : Value} {l : List Int} (o : Obj) (k r : Int) (hp : Ints w B p l) (hB : B ≤ w.heap.size) : Acts ((w.alloc o).alloc (.cells #[.int .i64 k, .int .i32 r, p] 44)) B (.slice (some ⟨w.heap.size + 1, 0, none⟩) 1 1) [⟨k, r, l⟩] := by
  have := acts_onep k r (hp.alloc o) (by rw [World.size_alloc]; omega)
  rwa [World.size_alloc] at this

set_option maxHeartbeats 800000 in
theorem final_some (mo n m g num : Int) (par : List Int) (pr : Bool) (b : Int) (p : Value) (B : Nat) (w : World) (hp : Ints w B p par) (hl : par.length ≤ 1000) (hB : B ≤ w.heap.size) (h0 : 0 ≤ b) (h1 : b ≤ 255)
    (hc : ¬ num = -1 ∨ num = -1 ∧ 0 < par.length) :
    Calls Try.prog 126 #[escV ⟨mo, ⟨n, m, g⟩, par, num, pr, false⟩ p, .int .u8 b] w (FinPost B w p.ownBlock [⟨if pr then 5 else 4, b, wPar par num⟩]) := by
  unfold escV
  dsimp only at *
  obtain ⟨D, c, rfl⟩ := ints_form hp
  rcases hc with hc | ⟨rfl, hc⟩
  all_goals
    cases pr
    all_goals
      go_enter Try.func126, Try.ntmps126
      go_wp2_with (
        go_at_call 124
        refine (withPar_any _ par _ B _ (Ints.alloc hp _) hl (by simp; omega)).mono ?_
        rintro e w2 ⟨v, rfl, hr, hb2, hk2, hk3⟩
        obtain ⟨D2, c2, rfl⟩ := ints_form hr
        have hz := hb2.size
        have H1 : Held w2 w.heap.size 32 _ := (hk2 w.heap.size (by simp) (Ne.symm (own_ge_ne hp (Nat.le_refl _)))).trans (Held.new w 32 _)
        obtain ⟨x0, x1, x2, x3, x4, x5, x6, x7, xf⟩ := esc_cells H1)
      go_ret
      exact ⟨_, rfl, acts_onep _ _ hr (by simp at hz; omega), (((Below.refl _ w).alloc hB _).trans hb2).alloc (by simp at hz; omega) _, fun k hk hne => ⟨((Below.heap_alloc w2 _ k (by simp at hz; omega)).trans (hk2 k (by simp; omega) hne)).trans (Below.heap_alloc w _ k hk), actsOff_onep _ _ hr (by simp at hz; omega) (by simp at hz; omega) (fun he => by
        rcases hk3 _ he with h | h
        · exact hne h
        · rw [World.size_alloc] at h; omega)⟩⟩

set_option maxHeartbeats 800000 in
theorem final_none (mo n m g : Int) (pr : Bool) (b : Int) (p : Value) (B : Nat) (w : World) (hp : Ints w B p []) (hB : B ≤ w.heap.size) (h0 : 0 ≤ b) (h1 : b ≤ 255) :
    Calls Try.prog 126 #[escV ⟨mo, ⟨n, m, g⟩, [], -1, pr, false⟩ p, .int .u8 b] w (FinPost B w p.ownBlock [⟨if pr then 5 else 4, b, []⟩]) := by
  unfold escV
  dsimp only at *
  obtain ⟨D, c, rfl⟩ := ints_form hp
  cases pr
  all_goals
    go_enter Try.func126, Try.ntmps126
    go_wp2
    go_ret
    exact ⟨_, rfl, acts_onep2 _ _ _ hp hB, ((Below.refl _ w).alloc hB _).alloc (by simp; omega) _, fun k hk hne => ⟨(Below.heap_alloc (w.alloc _) _ k (by simp; omega)).trans (Below.heap_alloc w _ k hk), actsOff_onep2 _ _ _ hp hB hk (Ne.symm hne)⟩⟩

set_option maxHeartbeats 400000 in
theorem final_skip (mo n m g num : Int) (par : List Int) (pr : Bool) (b : Int) (p : Value) (B : Nat) (w : World) (hp : Ints w B p par) (hB : B ≤ w.heap.size) :
    Calls Try.prog 126 #[escV ⟨mo, ⟨n, m, g⟩, par, num, pr, true⟩ p, .int .u8 b] w (FinPost B w p.ownBlock []) := by
  unfold escV
  dsimp only at *
  obtain ⟨D, c, rfl⟩ := ints_form hp
  go_enter Try.func126, Try.ntmps126
  go_wp2
  go_ret
  exact ⟨_, rfl, acts_nil _ _, (Below.refl _ w).alloc hB _, fun k hk _ => ⟨Below.heap_alloc w _ k hk, actsOff_nil _ _ _⟩⟩

theorem final_any (e : E) (b : Int) (p : Value) (B : Nat) (w : World) (hp : Ints w B p e.par) (hl : e.par.length ≤ 1000) (hB : B ≤ w.heap.size) (h0 : 0 ≤ b) (h1 : b ≤ 255) :
    Calls Try.prog 126 #[escV e p, .int .u8 b] w (FinPost B w p.ownBlock (fin e b)) := by
  obtain ⟨mo, ⟨n, m, g⟩, par, num, pr, sk⟩ := e
  dsimp only at hp hl
  cases sk
  · by_cases c : ¬ num = -1 ∨ num = -1 ∧ 0 < par.length
    · have e1 : finPar ⟨mo, ⟨n, m, g⟩, par, num, pr, false⟩ = wPar par num := by
        unfold finPar
        rw [if_pos]
        rcases c with c | ⟨_, c⟩
        · exact .inl c
        · exact .inr (by intro h; simp only at h; subst h; simp at c)
      simp only [fin, e1, Bool.false_eq_true, if_false]
      exact final_some mo n m g num par pr b p B w hp hl hB h0 h1 c
    · have c1 : num = -1 := by omega
      have c2 : par = [] := List.eq_nil_of_length_eq_zero (by omega)
      subst c1 c2
      have e1 : finPar ⟨mo, ⟨n, m, g⟩, [], -1, pr, false⟩ = [] := by simp [finPar]
      simp only [fin, e1, Bool.false_eq_true, if_false]
      exact final_none mo n m g pr b p B w hp hB h0 h1
  · simp only [fin, if_true]
    exact final_skip mo n m g num par pr b p B w hp hB

end Go.Proofs.Ytpcpmeihebgncaa.Esca

/-
  One row of actions appended to another; what prints does with the runes of one byte. Conditions: at most a million actions.
-/
namespace Go.Proofs.Ytpcpmeihebgncaa.Esca
open Go.RowKit
set_option maxRecDepth 100000

/-- What an append of actions leaves: the row, all else as it was, and where it lies. -/
structure ActsApp (w w' : World) (B : Nat) (v v' : Value) (l : List A) : Prop where
  acts : Acts w' B v' l
  below : Below B w w'
  block : ∀ k, k < w.heap.size → some k ≠ v.ownBlock → w'.heap[k]? = w.heap[k]?
  lies : v'.ownBlock = v.ownBlock ∨ v'.ownBlock = some w.heap.size

theorem acts_app {w w' : World} {B B2 : Nat} {v u v' : Value} {ps qs : List (A × Value)} {l m : List A} (hl : ps.map (·.1) = l) (hm : qs.map (·.1) = m) (hv : ActsOf w B v ps) (hu : ActsOf w B2 u qs) (hB : B ≤ B2) (hold : ∀ k, v.ownBlock = some k → k < B2) (hb : B ≤ w.heap.size)
    (h : Appended w w' B 44 3 v v' (ps.length + qs.length) (actCells ps ++ actCells qs)) : ActsApp w w' B v v' (l ++ m) :=
  ⟨⟨ps ++ qs, by rw [List.map_append, hl, hm], acts_appended hv hu hB hold h⟩, h.below hv.row hb, h.grown.block, h.lies⟩

theorem wpList_append_acts (w : World) {ops : Array Oper} {rest : List Oper} {o : Oper} {a : Act} {Q : Exit → Act → World → Prop} (hgd : o.guard = none) (s x : Operand)
    (ho : o.op = .call { callee := .builtin .append, args := #[s, x], argTypes := #[51, 51] }) (B B2 : Nat) (v u : Value) (l m : List A) (hs : a.eval s = v) (hx : a.eval x = u)
    (hv : Acts w B v l) (hu : Acts w B2 u m) (hB : B ≤ B2) (hold : ∀ k, v.ownBlock = some k → k < B2) (hn : l.length + m.length ≤ 1000000) (hb : B ≤ w.heap.size)
    (h : ∀ v' w', ActsApp w w' B v v' (l ++ m) → wpList Try.prog ops Q rest (a.put o.dst v') w') : wpList Try.prog ops Q (o :: rest) a w := by
  obtain ⟨ps, hl, hps⟩ := hv
  obtain ⟨qs, hm, hqs⟩ := hu
  have e1 : ps.length = l.length := by rw [← hl, List.length_map]
  have e2 : qs.length = m.length := by rw [← hm, List.length_map]
  exact wpList_append_rows w hgd s x 51 ho rowAct B B2 ps.length qs.length v u _ _ hs hx hps.row hqs.row hqs.one (by omega) hb fun v' w' h2 => h v' w' (acts_app hl hm hps hqs hB hold hb h2)

theorem step_append_acts (w : World) {ops : Array Oper} {o : Oper} {a : Act} {K : Act → World → Prop} {Q : Exit → Act → World → Prop} {X : Prop} (hgd : o.guard = none) (s x : Operand)
    (ho : o.op = .call { callee := .builtin .append, args := #[s, x], argTypes := #[51, 51] }) (B B2 : Nat) (v u : Value) (l m : List A) (hs : a.eval s = v) (hx : a.eval x = u)
    (hv : Acts w B v l) (hu : Acts w B2 u m) (hB : B ≤ B2) (hold : ∀ k, v.ownBlock = some k → k < B2) (hn : l.length + m.length ≤ 1000000) (hb : B ≤ w.heap.size)
    (h : ∀ v' w', ActsApp w w' B v v' (l ++ m) → K (a.put o.dst v') w') :
    if Region.wanted o (yielded ops a.tmps) = true then Oper.wp Try.prog o a w K Q else X := by
  obtain ⟨ps, hl, hps⟩ := hv
  obtain ⟨qs, hm, hqs⟩ := hu
  have e1 : ps.length = l.length := by rw [← hl, List.length_map]
  have e2 : qs.length = m.length := by rw [← hm, List.length_map]
  exact step_append_rows w hgd s x 51 ho rowAct B B2 ps.length qs.length v u _ _ hs hx hps.row hqs.row hqs.one (by omega) hb fun v' w' h2 => h v' w' (acts_app hl hm hps hqs hB hold hb h2)

theorem acts_lt {w : World} {B : Nat} {v : Value} {l : List A} (h : Acts w B v l) : ∀ k, v.ownBlock = some k → B ≤ k ∧ k < w.heap.size := by
  obtain ⟨ps, _, h2, _⟩ := h
  exact h2.lt

theorem prints_snoc (rs : List Int) (r : Int) : prints (rs ++ [r]) = prints rs ++ (if prt r then [⟨1, r, []⟩] else []) := by
  unfold prints
  rw [List.filter_append, List.map_append]
  congr 1
  by_cases h : prt r = true
  · simp [h]
  · simp [h]
theorem prints_len (rs : List Int) : (prints rs).length ≤ rs.length := by
  unfold prints
  rw [List.length_map]
  exact List.length_filter_le _ _
def PrintsRel (w : World) (rs : List Int) (out i : Value) (wr : World) : Prop := ∃ k : Nat, i = .int .i64 k ∧ k ≤ rs.length ∧ Acts wr w.heap.size out (prints (rs.take k)) ∧ Below w.heap.size w wr

set_option maxHeartbeats 1000000 in
theorem prints_any (v : Value) (rs : List Int) (B : Nat) (w : World) (hv : Runes w B v rs) (hl : rs.length ≤ 2) :
    Calls Try.prog 120 #[v] w (ActPost w.heap.size w (prints rs)) := by
  rcases hv.2 with ⟨rfl, h0⟩ | ⟨gg, cap, cur, rfl, _⟩
  · have hr : rs = [] := List.eq_nil_of_length_eq_zero h0
    subst hr
    go_enter Try.func120, Try.ntmps120
    go_wp2_with fail
    refine wp_loop_rounds 1 ?_
    rw [rounds_succ]
    go_wp2
    go_ret
    exact ⟨_, rfl, acts_nil _ _, Below.refl _ _⟩
  · go_enter Try.func120, Try.ntmps120
    go_wp2_with fail
    go_loopw [3, 8] (PrintsRel w rs) (fun _ i _ => rs.length - (intOf i).toNat)
    case atStart => exact ⟨0, rfl, Nat.zero_le _, acts_nil _ _, Below.refl _ _⟩
    case round =>
      obtain ⟨k, rfl, hle, hac, hbr⟩ := hrel
      by_cases hlt : k < rs.length
      · have hki : (k : Int) < (rs.length : Int) := by omega
        have hcell : wr.cell? ⟨gg, k, none⟩ = some (.int .i32 rs[k]) := (World.ownsRow.cellAt (own_below hv hbr (Nat.le_refl _)) k (by omega)).trans (by simp [i32s, hlt])
        have hsn : Hid (prints (rs.take (k + 1)) = prints (rs.take k) ++ (if prt rs[k] then [⟨1, rs[k], []⟩] else [])) := by
          show prints (rs.take (k + 1)) = _
          rw [← prints_snoc]
          congr 1
          simp
        have hlen : (prints (rs.take k)).length ≤ 2 := Nat.le_trans (prints_len _) (Nat.le_trans (List.length_take_le' _ _) hl)
        obtain ⟨r, hr⟩ : ∃ r, r = rs[k] := ⟨_, rfl⟩
        rw [← hr] at hcell hsn
        clear hr
        obtain ⟨D, c, rfl⟩ := acts_form hac
        have hz := hbr.size
        by_cases hp : prt r = true
        · go_wp2_with (first
            | (go_at_call 148; refine (isPrinted_any _ _).mono ?_; rintro e w1 ⟨he, rfl⟩; rw [hp] at he; subst he)
            | (refine wpList_append_acts _ (by rfl) _ _ (by rfl) w.heap.size wr.heap.size _ (.slice (some ⟨wr.heap.size, 0, none⟩) 1 1) (prints (rs.take k)) [⟨1, r, []⟩] (by rfl) (by rfl) (by exact hac.alloc _) (by exact acts_one _ _ _ _ (Nat.le_refl _)) hz (by exact fun k hk => (acts_lt hac k hk).2) (by simp; omega) (by simp; omega) ?_; intro v3 w3 hap))
          go_roundw
          case rel =>
            refine ⟨k + 1, by go_num, by omega, ?_, ?_⟩
            · rw [hsn.out, if_pos hp]
              exact hap.acts
            · exact (hbr.alloc hz _).trans hap.below
          case measure => simp [intOf]; omega
        · go_wp2_with (go_at_call 148; refine (isPrinted_any _ _).mono ?_; rintro e w1 ⟨he, rfl⟩; rw [show prt r = false by simpa using hp] at he; subst he)
          go_roundw
          case rel =>
            refine ⟨k + 1, by go_num, by omega, ?_, hbr⟩
            rw [hsn.out, if_neg hp, List.append_nil]
            exact hac
          case measure => simp [intOf]; omega
      · have ek : k = rs.length := by omega
        subst ek
        rw [List.take_length] at hac
        go_wp2
        go_ret
        exact ⟨_, rfl, hac, hbr⟩
end Go.Proofs.Ytpcpmeihebgncaa.Esca

/-
  What ground of package esca does with a byte where nothing but a rune may be begun. Conditions: a byte is 0 to 255; what is begun is what steps from nothing make.
-/
namespace Go.Proofs.Ytpcpmeihebgncaa.Esca
open Go.RowKit
set_option maxRecDepth 100000

/-- What a step leaves: where it is, and the actions. -/
def StepP (B : Nat) (w : World) (e' : E) (l : List A) (x : Ending) (w' : World) : Prop :=
  ∃ p v, x = .returned (.tuple #[escV e' p, v]) ∧ Ints w' B p e'.par ∧ Acts w' B v l ∧ Below B w w'

theorem wp_world {P : Program} {c : Code} {Q : Exit → Act → World → Prop} {a : Act} {w : World} (R : World → Prop) (h : R w) (k : ∀ wq, R wq → Code.wp P c Q a wq) : Code.wp P c Q a w := k w h
theorem esc_S {w : World} {g : Nat} {a0 a1 a2 a3 a4 a5 a6 a7 : Value} (h : Held w g 32 #[a0, a1, a2, a3, a4, a5, a6, a7]) :
    w.cell? ⟨g, 0, none⟩ = some a0 ∧ w.cell? ⟨g, 1, none⟩ = some a1 ∧ w.cell? ⟨g, 2, none⟩ = some a2 ∧ w.cell? ⟨g, 3, none⟩ = some a3 ∧ w.cell? ⟨g, 4, none⟩ = some a4 ∧ w.cell? ⟨g, 5, none⟩ = some a5 ∧ w.cell? ⟨g, 6, none⟩ = some a6 ∧ w.cell? ⟨g, 7, none⟩ = some a7 :=
  ⟨(h.cell 0).trans rfl, (h.cell 1).trans rfl, (h.cell 2).trans rfl, (h.cell 3).trans rfl, (h.cell 4).trans rfl, (h.cell 5).trans rfl, (h.cell 6).trans rfl, (h.cell 7).trans rfl⟩
theorem Held.far {w : World} {g k o : Nat} {t : TypeId} {cs : Array Value} (h : Held w g t cs) (hk : g ≠ k) (x : Value) : Held (w.setCell ⟨k, o, none⟩ x) g t cs := by
  unfold Held at h ⊢
  rw [Below.heap_setCell _ _ _ g (by simpa using hk)]
  exact h
theorem runes_setlo {w : World} {B k o : Nat} {v : Value} {rs : List Int} (h : Runes w B v rs) (hk : k < B) (x : Value) : Runes (w.setCell ⟨k, o, none⟩ x) B v rs := own_set h (own_ne h hk) x
theorem Held.far8 {w : World} {g k : Nat} {t : TypeId} {cs : Array Value} (h : Held w g t cs) (hk : g ≠ k) (a0 a1 a2 a3 a4 a5 a6 a7 : Value) : Held ((((((((w.setCell ⟨k, 0, none⟩ a0).setCell ⟨k, 1, none⟩ a1).setCell ⟨k, 2, none⟩ a2).setCell ⟨k, 3, none⟩ a3).setCell ⟨k, 4, none⟩ a4).setCell ⟨k, 5, none⟩ a5).setCell ⟨k, 6, none⟩ a6).setCell ⟨k, 7, none⟩ a7) g t cs :=
  (((((((h.far hk _).far hk _).far hk _).far hk _).far hk _).far hk _).far hk _).far hk _
theorem Held.drew {w : World} {g : Nat} {t : TypeId} {cs : Array Value} (h : Held w g t cs) : Held w.drew g t cs := h
theorem Held.s0 {w : World} {g : Nat} {t : TypeId} {b0 b1 b2 b3 b4 b5 b6 b7 : Value} (h : Held w g t #[b0, b1, b2, b3, b4, b5, b6, b7]) (a : Value) : Held (w.setCell ⟨g, 0, none⟩ a) g t #[a, b1, b2, b3, b4, b5, b6, b7] := h.set1 0 a
theorem Held.s1 {w : World} {g : Nat} {t : TypeId} {b0 b1 b2 b3 b4 b5 b6 b7 : Value} (h : Held w g t #[b0, b1, b2, b3, b4, b5, b6, b7]) (a : Value) : Held (w.setCell ⟨g, 1, none⟩ a) g t #[b0, a, b2, b3, b4, b5, b6, b7] := h.set1 1 a
theorem Held.s2 {w : World} {g : Nat} {t : TypeId} {b0 b1 b2 b3 b4 b5 b6 b7 : Value} (h : Held w g t #[b0, b1, b2, b3, b4, b5, b6, b7]) (a : Value) : Held (w.setCell ⟨g, 2, none⟩ a) g t #[b0, b1, a, b3, b4, b5, b6, b7] := h.set1 2 a
theorem Held.s3 {w : World} {g : Nat} {t : TypeId} {b0 b1 b2 b3 b4 b5 b6 b7 : Value} (h : Held w g t #[b0, b1, b2, b3, b4, b5, b6, b7]) (a : Value) : Held (w.setCell ⟨g, 3, none⟩ a) g t #[b0, b1, b2, a, b4, b5, b6, b7] := h.set1 3 a
theorem Held.s4 {w : World} {g : Nat} {t : TypeId} {b0 b1 b2 b3 b4 b5 b6 b7 : Value} (h : Held w g t #[b0, b1, b2, b3, b4, b5, b6, b7]) (a : Value) : Held (w.setCell ⟨g, 4, none⟩ a) g t #[b0, b1, b2, b3, a, b5, b6, b7] := h.set1 4 a
theorem Held.s5 {w : World} {g : Nat} {t : TypeId} {b0 b1 b2 b3 b4 b5 b6 b7 : Value} (h : Held w g t #[b0, b1, b2, b3, b4, b5, b6, b7]) (a : Value) : Held (w.setCell ⟨g, 5, none⟩ a) g t #[b0, b1, b2, b3, b4, a, b6, b7] := h.set1 5 a
theorem Held.s6 {w : World} {g : Nat} {t : TypeId} {b0 b1 b2 b3 b4 b5 b6 b7 : Value} (h : Held w g t #[b0, b1, b2, b3, b4, b5, b6, b7]) (a : Value) : Held (w.setCell ⟨g, 6, none⟩ a) g t #[b0, b1, b2, b3, b4, b5, a, b7] := h.set1 6 a
theorem Held.s7 {w : World} {g : Nat} {t : TypeId} {b0 b1 b2 b3 b4 b5 b6 b7 : Value} (h : Held w g t #[b0, b1, b2, b3, b4, b5, b6, b7]) (a : Value) : Held (w.setCell ⟨g, 7, none⟩ a) g t #[b0, b1, b2, b3, b4, b5, b6, a] := h.set1 7 a
theorem Held.set8 {w : World} {g : Nat} {t : TypeId} {b0 b1 b2 b3 b4 b5 b6 b7 : Value} (h : Held w g t #[b0, b1, b2, b3, b4, b5, b6, b7]) (a0 a1 a2 a3 a4 a5 a6 a7 : Value) : Held ((((((((w.setCell ⟨g, 0, none⟩ a0).setCell ⟨g, 1, none⟩ a1).setCell ⟨g, 2, none⟩ a2).setCell ⟨g, 3, none⟩ a3).setCell ⟨g, 4, none⟩ a4).setCell ⟨g, 5, none⟩ a5).setCell ⟨g, 6, none⟩ a6).setCell ⟨g, 7, none⟩ a7) g t #[a0, a1, a2, a3, a4, a5, a6, a7] :=
  (((((((h.s0 a0).s1 a1).s2 a2).s3 a3).s4 a4).s5 a5).s6 a6).s7 a7
theorem Acts.setlo8 {w : World} {B : Nat} {v : Value} {l : List A} (h : Acts w B v l) {k : Nat} (hk : k < B) (a0 a1 a2 a3 a4 a5 a6 a7 : Value) : Acts ((((((((w.setCell ⟨k, 0, none⟩ a0).setCell ⟨k, 1, none⟩ a1).setCell ⟨k, 2, none⟩ a2).setCell ⟨k, 3, none⟩ a3).setCell ⟨k, 4, none⟩ a4).setCell ⟨k, 5, none⟩ a5).setCell ⟨k, 6, none⟩ a6).setCell ⟨k, 7, none⟩ a7) B v l :=
  (((((((h.setlo hk _).setlo hk _).setlo hk _).setlo hk _).setlo hk _).setlo hk _).setlo hk _).setlo hk _
theorem Ints.setlo8 {w : World} {B : Nat} {v : Value} {l : List Int} (h : Ints w B v l) {k : Nat} (hk : k < B) (a0 a1 a2 a3 a4 a5 a6 a7 : Value) : Ints ((((((((w.setCell ⟨k, 0, none⟩ a0).setCell ⟨k, 1, none⟩ a1).setCell ⟨k, 2, none⟩ a2).setCell ⟨k, 3, none⟩ a3).setCell ⟨k, 4, none⟩ a4).setCell ⟨k, 5, none⟩ a5).setCell ⟨k, 6, none⟩ a6).setCell ⟨k, 7, none⟩ a7) B v l :=
  (((((((h.setlo hk _).setlo hk _).setlo hk _).setlo hk _).setlo hk _).setlo hk _).setlo hk _).setlo hk _
theorem below_set8 {a w : World} {B k : Nat} (h : Below B a w) (hk : B ≤ k) (a0 a1 a2 a3 a4 a5 a6 a7 : Value) : Below B a ((((((((w.setCell ⟨k, 0, none⟩ a0).setCell ⟨k, 1, none⟩ a1).setCell ⟨k, 2, none⟩ a2).setCell ⟨k, 3, none⟩ a3).setCell ⟨k, 4, none⟩ a4).setCell ⟨k, 5, none⟩ a5).setCell ⟨k, 6, none⟩ a6).setCell ⟨k, 7, none⟩ a7) :=
  below_set (below_set (below_set (below_set (below_set (below_set (below_set (below_set h hk _) hk _) hk _) hk _) hk _) hk _) hk _) hk _
theorem ctl_len (b : Int) : (ctl b).length ≤ 1 := by unfold ctl; split <;> simp
/-- What stands at the last statement of ground: s in block g, the answer's place behind it, the runes in v. -/
structure GroundAt (w : World) (n m g num mo : Int) (p v : Value) (pr sk : Bool) (rs : List Int) (wq : World) : Prop where
  box : Held wq w.heap.size 32 #[.int .i64 mo, .int .i64 n, .int .i64 m, .int .i64 g, p, .int .i64 num, .bool pr, .bool sk]
  ans : Held wq (w.heap.size + 1) 32 #[.int .i64 0, .int .i64 0, .int .i64 0, .int .i64 0, .slice none 0 0, .int .i64 0, .bool false, .bool false]
  runes : Runes wq (w.heap.size + 2) v rs
  below : Below w.heap.size w wq

set_option maxHeartbeats 1000000 in
theorem ground_27 (mo n m g num : Int) (par : List Int) (pr sk : Bool) (p : Value) (B : Nat) (w : World) (hp : Ints w B p par) (hs : U.Ok ⟨n, m, g⟩) (hB : B ≤ w.heap.size) :
    Calls Try.prog 81 #[escV ⟨mo, ⟨n, m, g⟩, par, num, pr, sk⟩ p, .int .u8 27] w (StepP B w ⟨1, nx ⟨n, m, g⟩ 27, par, num, pr, sk⟩ (prints (nxR ⟨n, m, g⟩ 27) ++ ctl 27)) := by
  unfold escV
  dsimp only at *
  obtain ⟨D, c, rfl⟩ := ints_form hp
  go_enter Try.func81, Try.ntmps81
  go_upto_region 5 with (
    go_at_call 119
    refine (step_any ⟨n, m, g⟩ 27 _ hs (by decide) (by decide)).mono ?_
    rintro e w2 ⟨v, rfl, hr, hb2⟩
    obtain ⟨H1, H2⟩ := two_new hb2
    have hz1 := H1.lt
    have hz2 := H2.lt
    obtain ⟨x0, x1, x2, x3, x4, x5, x6, x7, xf⟩ := esc_cells H1
    obtain ⟨y0, y1, y2, y3, y4, y5, y6, y7, yf⟩ := esc_cells H2)
  obtain ⟨u', hu'⟩ : ∃ u', u' = nx ⟨n, m, g⟩ 27 := ⟨_, rfl⟩
  rw [← hu']
  have HU := Lib.hid hu'
  clear hu'
  refine wp_world (GroundAt w u'.n u'.m u'.g num 1 (.slice D par.length c) v pr sk (nxR ⟨n, m, g⟩ 27)) ⟨?_, ?_, ?_, ?_⟩ ?_
  · exact ((((H1.s1 _).s2 _).s3 _).s0 _).alloc _
  · exact ((((H2.far (by omega) _).far (by omega) _).far (by omega) _).far (by omega) _).alloc _
  · have hr' : Runes w2 (w.heap.size + 2) v (nxR ⟨n, m, g⟩ 27) := own_base hr (by simp)
    refine World.ownsRow.alloc ?_ _
    exact runes_setlo (runes_setlo (runes_setlo (runes_setlo hr' (by omega) _) (by omega) _) (by omega) _) (by omega) _
  · refine Below.alloc ?_ (by simp; omega) _
    repeat (with_reducible refine below_set ?_ (by omega) _)
    exact (below_alloc2 w _ _).trans (hb2.mono (by simp; omega))
  rintro wq ⟨hQ, hR, hvr, hbq⟩
  have hpq := hp.below hbq (Nat.le_refl _)
  clear H1 H2 x0 x1 x2 x3 x4 x5 x6 x7 xf y0 y1 y2 y3 y4 y5 y6 y7 yf hr hb2 hz1 hz2
  have hz1 := hQ.lt
  have hz2 := hR.lt
  have hQd := hQ.drew
  have hRd := hR.drew
  have hvrd : Runes wq.drew (w.heap.size + 2) v (nxR ⟨n, m, g⟩ 27) := hvr
  have hzd1 := hQd.lt
  have hzd2 := hRd.lt
  have hnl := nxR_len ⟨n, m, g⟩ 27
  have hpl := prints_len (nxR ⟨n, m, g⟩ 27)
  go_region_held3 (fun w' => w'.cell? ⟨w.heap.size, 0, none⟩ = some (.int .i64 1) ∧ w'.cell? ⟨w.heap.size, 1, none⟩ = some (.int .i64 u'.n) ∧ w'.cell? ⟨w.heap.size, 2, none⟩ = some (.int .i64 u'.m) ∧ w'.cell? ⟨w.heap.size, 3, none⟩ = some (.int .i64 u'.g) ∧ w'.cell? ⟨w.heap.size, 4, none⟩ = some (.slice D par.length c) ∧ w'.cell? ⟨w.heap.size, 5, none⟩ = some (.int .i64 num) ∧ w'.cell? ⟨w.heap.size, 6, none⟩ = some (.bool pr) ∧ w'.cell? ⟨w.heap.size, 7, none⟩ = some (.bool sk))
    (first
      | with_reducible exact esc_S hQd
      | with_reducible exact esc_S hQ3
      | with_reducible exact esc_S hQ4
      | with_reducible exact esc_S hQ5
      | with_reducible exact esc_S (hQ5.far8 (by omega) _ _ _ _ _ _ _ _)
      | fail)
    (first
      | (go_at_call 120
         (with_reducible refine (prints_any _ _ (w.heap.size + 2) wq.drew hvrd hnl).mono ?_)
         rintro e w3 ⟨v3, rfl, ha3, hb3⟩
         have hQ3 := hQd.below hb3 hzd1
         have hR3 := hRd.below hb3 hzd2)
      | (go_at_call 121
         (with_reducible refine (control_any 27 w3 (by decide) (by decide)).mono ?_)
         rintro e w4 ⟨v4, rfl, ha4, hb4⟩
         have hQ4 := hQ3.below hb4 hQ3.lt
         have hR4 := hR3.below hb4 hR3.lt)
      | (refine step_append_acts _ (by rfl) _ _ (by rfl) wq.drew.heap.size w3.heap.size v3 v4 _ _ (by rfl) (by rfl) (by exact ha3.below hb4 (Nat.le_refl _)) (by exact ha4) (by exact hb3.size) (by exact fun k hk => (acts_lt ha3 k hk).2) (by have := ctl_len 27; omega) (by exact Nat.le_trans hb3.size hb4.size) ?_
         intro v5 w5 hap
         have hQ5 := hQ4.below hap.below hzd1
         have hR5 := hR4.below hap.below hzd2
         have hR5l := hR5.lt
         have hb5 : Below w.heap.size w w5 := ((hbq.drew.trans (hb3.mono hbq.size)).trans (hb4.mono (Nat.le_trans hbq.size hb3.size))).trans (hap.below.mono hbq.size)
         obtain ⟨y0, y1, y2, y3, y4, y5, y6, y7, yf⟩ := esc_cells hR5))
  go_wp2
  have hu' := HU.out
  clear HU
  subst hu'
  refine bodyPost_ret (v := .tuple #[escV ⟨1, nx ⟨n, m, g⟩ 27, par, num, pr, sk⟩ (.slice D par.length c), v5]) (by simp [results, Try.results81, go_sem, escV, y0, y1, y2, y3, y4, y5, y6, y7]) rfl ⟨_, v5, rfl, ?_, ?_, ?_⟩
  · exact (hp.below (below_set8 hb5 (Nat.le_succ _) _ _ _ _ _ _ _ _) (Nat.le_refl _))
  · exact (Acts.setlo8 hap.acts hzd2 _ _ _ _ _ _ _ _).base (Nat.le_trans hB hbq.size)
  · exact (below_set8 hb5 (Nat.le_succ _) _ _ _ _ _ _ _ _).mono hB

set_option maxHeartbeats 1000000 in
theorem ground_no (mo n m g num b : Int) (par : List Int) (pr sk : Bool) (p : Value) (B : Nat) (w : World) (hp : Ints w B p par) (hs : U.Ok ⟨n, m, g⟩) (hB : B ≤ w.heap.size) (hb0 : 0 ≤ b) (hb1 : b ≤ 255) (hne : ¬ b = 27) :
    Calls Try.prog 81 #[escV ⟨mo, ⟨n, m, g⟩, par, num, pr, sk⟩ p, .int .u8 b] w (StepP B w ⟨mo, nx ⟨n, m, g⟩ b, par, num, pr, sk⟩ (prints (nxR ⟨n, m, g⟩ b) ++ ctl b)) := by
  unfold escV
  dsimp only at *
  obtain ⟨D, c, rfl⟩ := ints_form hp
  go_enter Try.func81, Try.ntmps81
  go_upto_region 5 with (
    go_at_call 119
    refine (step_any ⟨n, m, g⟩ b _ hs hb0 hb1).mono ?_
    rintro e w2 ⟨v, rfl, hr, hb2⟩
    obtain ⟨H1, H2⟩ := two_new hb2
    have hz1 := H1.lt
    have hz2 := H2.lt
    obtain ⟨x0, x1, x2, x3, x4, x5, x6, x7, xf⟩ := esc_cells H1
    obtain ⟨y0, y1, y2, y3, y4, y5, y6, y7, yf⟩ := esc_cells H2)
  obtain ⟨u', hu'⟩ : ∃ u', u' = nx ⟨n, m, g⟩ b := ⟨_, rfl⟩
  rw [← hu']
  have HU := Lib.hid hu'
  clear hu'
  refine wp_world (GroundAt w u'.n u'.m u'.g num mo (.slice D par.length c) v pr sk (nxR ⟨n, m, g⟩ b)) ⟨?_, ?_, ?_, ?_⟩ ?_
  · exact (((H1.s1 _).s2 _).s3 _).alloc _
  · exact (((H2.far (by omega) _).far (by omega) _).far (by omega) _).alloc _
  · have hr' : Runes w2 (w.heap.size + 2) v (nxR ⟨n, m, g⟩ b) := own_base hr (by simp)
    refine World.ownsRow.alloc ?_ _
    exact runes_setlo (runes_setlo (runes_setlo hr' (by omega) _) (by omega) _) (by omega) _
  · refine Below.alloc ?_ (by simp; omega) _
    repeat (with_reducible refine below_set ?_ (by omega) _)
    exact (below_alloc2 w _ _).trans (hb2.mono (by simp; omega))
  rintro wq ⟨hQ, hR, hvr, hbq⟩
  have hpq := hp.below hbq (Nat.le_refl _)
  clear H1 H2 x0 x1 x2 x3 x4 x5 x6 x7 xf y0 y1 y2 y3 y4 y5 y6 y7 yf hr hb2 hz1 hz2
  have hz1 := hQ.lt
  have hz2 := hR.lt
  have hQd := hQ.drew
  have hRd := hR.drew
  have hvrd : Runes wq.drew (w.heap.size + 2) v (nxR ⟨n, m, g⟩ b) := hvr
  have hzd1 := hQd.lt
  have hzd2 := hRd.lt
  have hnl := nxR_len ⟨n, m, g⟩ b
  have hpl := prints_len (nxR ⟨n, m, g⟩ b)
  go_region_held3 (fun w' => w'.cell? ⟨w.heap.size, 0, none⟩ = some (.int .i64 mo) ∧ w'.cell? ⟨w.heap.size, 1, none⟩ = some (.int .i64 u'.n) ∧ w'.cell? ⟨w.heap.size, 2, none⟩ = some (.int .i64 u'.m) ∧ w'.cell? ⟨w.heap.size, 3, none⟩ = some (.int .i64 u'.g) ∧ w'.cell? ⟨w.heap.size, 4, none⟩ = some (.slice D par.length c) ∧ w'.cell? ⟨w.heap.size, 5, none⟩ = some (.int .i64 num) ∧ w'.cell? ⟨w.heap.size, 6, none⟩ = some (.bool pr) ∧ w'.cell? ⟨w.heap.size, 7, none⟩ = some (.bool sk))
    (first
      | with_reducible exact esc_S hQd
      | with_reducible exact esc_S hQ3
      | with_reducible exact esc_S hQ4
      | with_reducible exact esc_S hQ5
      | with_reducible exact esc_S (hQ5.far8 (by omega) _ _ _ _ _ _ _ _)
      | fail)
    (first
      | (go_at_call 120
         (with_reducible refine (prints_any _ _ (w.heap.size + 2) wq.drew hvrd hnl).mono ?_)
         rintro e w3 ⟨v3, rfl, ha3, hb3⟩
         have hQ3 := hQd.below hb3 hzd1
         have hR3 := hRd.below hb3 hzd2)
      | (go_at_call 121
         (with_reducible refine (control_any b w3 hb0 hb1).mono ?_)
         rintro e w4 ⟨v4, rfl, ha4, hb4⟩
         have hQ4 := hQ3.below hb4 hQ3.lt
         have hR4 := hR3.below hb4 hR3.lt)
      | (refine step_append_acts _ (by rfl) _ _ (by rfl) wq.drew.heap.size w3.heap.size v3 v4 _ _ (by rfl) (by rfl) (by exact ha3.below hb4 (Nat.le_refl _)) (by exact ha4) (by exact hb3.size) (by exact fun k hk => (acts_lt ha3 k hk).2) (by have := ctl_len b; omega) (by exact Nat.le_trans hb3.size hb4.size) ?_
         intro v5 w5 hap
         have hQ5 := hQ4.below hap.below hzd1
         have hR5 := hR4.below hap.below hzd2
         have hR5l := hR5.lt
         have hb5 : Below w.heap.size w w5 := ((hbq.drew.trans (hb3.mono hbq.size)).trans (hb4.mono (Nat.le_trans hbq.size hb3.size))).trans (hap.below.mono hbq.size)
         obtain ⟨y0, y1, y2, y3, y4, y5, y6, y7, yf⟩ := esc_cells hR5))
  go_wp2
  have hu' := HU.out
  clear HU
  subst hu'
  refine bodyPost_ret (v := .tuple #[escV ⟨mo, nx ⟨n, m, g⟩ b, par, num, pr, sk⟩ (.slice D par.length c), v5]) (by simp [results, Try.results81, go_sem, escV, y0, y1, y2, y3, y4, y5, y6, y7]) rfl ⟨_, v5, rfl, ?_, ?_, ?_⟩
  · exact (hp.below (below_set8 hb5 (Nat.le_succ _) _ _ _ _ _ _ _ _) (Nat.le_refl _))
  · exact (Acts.setlo8 hap.acts hzd2 _ _ _ _ _ _ _ _).base (Nat.le_trans hB hbq.size)
  · exact (below_set8 hb5 (Nat.le_succ _) _ _ _ _ _ _ _ _).mono hB

theorem ground_any (e : E) (b : Int) (p : Value) (B : Nat) (w : World) (hp : Ints w B p e.par) (hs : e.u.Ok) (hB : B ≤ w.heap.size) (hb0 : 0 ≤ b) (hb1 : b ≤ 255) :
    Calls Try.prog 81 #[escV e p, .int .u8 b] w (StepP B w ⟨if b = 27 then 1 else e.mode, nx e.u b, e.par, e.num, e.priv, e.skip⟩ (prints (nxR e.u b) ++ ctl b)) := by
  obtain ⟨mo, ⟨n, m, g⟩, par, num, pr, sk⟩ := e
  by_cases h : b = 27
  · subst h
    exact ground_27 mo n m g num par pr sk p B w hp hs hB
  · simp only [if_neg h]
    exact ground_no mo n m g num b par pr sk p B w hp hs hB hb0 hb1 h
end Go.Proofs.Ytpcpmeihebgncaa.Esca

/-
  What escape of package esca does with the byte behind an escape. Conditions: a byte is 0 to 255.
-/
namespace Go.Proofs.Ytpcpmeihebgncaa.Esca
open Go.RowKit
set_option maxRecDepth 100000

theorem stepP_keep {w w' : World} {B : Nat} {p v : Value} {e' : E} {l : List A} (hp : Ints w B p e'.par) (hB : B ≤ w.heap.size) (ha : Acts w' w.heap.size v l) (hb : Below w.heap.size w w') : StepP B w e' l (.returned (.tuple #[escV e' p, v])) w' :=
  ⟨p, v, rfl, hp.below hb (Nat.le_refl _), ha.base hB, hb.mono hB⟩

set_option maxHeartbeats 1000000 in
theorem escape_91 (mo n m g num : Int) (par : List Int) (pr sk : Bool) (p : Value) (B : Nat) (w : World) (hp : Ints w B p par) (hB : B ≤ w.heap.size) :
    Calls Try.prog 82 #[escV ⟨mo, ⟨n, m, g⟩, par, num, pr, sk⟩ p, .int .u8 91] w (StepP B w ⟨2, ⟨n, m, g⟩, [], -1, false, false⟩ []) := by
  unfold escV
  dsimp only at *
  obtain ⟨D, c, rfl⟩ := ints_form hp
  go_enter Try.func82, Try.ntmps82
  go_wp2
  refine bodyPost_ret (v := .tuple #[escV ⟨2, ⟨n, m, g⟩, [], -1, false, false⟩ (.slice none 0 0), .slice none 0 0]) (by simp [results, Try.results82, go_sem, escV]) rfl (stepP_keep (ints_nil _ _) hB (acts_nil _ _) ?_)
  repeat (with_reducible refine below_set ?_ (by omega) _)
  exact below_alloc2 _ _ _

set_option maxHeartbeats 2000000 in
theorem escape_set (mo n m g num b m' : Int) (par : List Int) (pr sk : Bool) (p : Value) (B : Nat) (w : World) (hp : Ints w B p par) (hB : B ≤ w.heap.size)
    (hb : ((b = 93 ∨ b = 80 ∨ b = 88 ∨ b = 94 ∨ b = 95) ∧ m' = 3) ∨ (b = 27 ∧ m' = 1) ∨ ((b = 24 ∨ b = 26) ∧ m' = 0)) :
    Calls Try.prog 82 #[escV ⟨mo, ⟨n, m, g⟩, par, num, pr, sk⟩ p, .int .u8 b] w (StepP B w ⟨m', ⟨n, m, g⟩, par, num, pr, sk⟩ []) := by
  unfold escV
  dsimp only at *
  obtain ⟨D, c, rfl⟩ := ints_form hp
  rcases hb with ⟨rfl | rfl | rfl | rfl | rfl, rfl⟩ | ⟨rfl, rfl⟩ | ⟨rfl | rfl, rfl⟩
  all_goals
    go_enter Try.func82, Try.ntmps82
    go_wp2
    refine bodyPost_ret (v := .tuple #[escV ⟨_, ⟨n, m, g⟩, par, num, pr, sk⟩ (.slice D par.length c), .slice none 0 0]) (by simp [results, Try.results82, go_sem, escV]) rfl (stepP_keep hp hB (acts_nil _ _) ?_)
    repeat (with_reducible refine below_set ?_ (by omega) _)
    exact below_alloc2 _ _ _

set_option maxHeartbeats 2000000 in
theorem escape_mid (mo n m g num b : Int) (par : List Int) (pr sk : Bool) (p : Value) (B : Nat) (w : World) (hp : Ints w B p par) (hB : B ≤ w.heap.size) (h0 : 32 ≤ b) (h1 : b ≤ 47) :
    Calls Try.prog 82 #[escV ⟨mo, ⟨n, m, g⟩, par, num, pr, sk⟩ p, .int .u8 b] w (StepP B w ⟨4, ⟨n, m, g⟩, par, num, pr, sk⟩ []) := by
  unfold escV
  dsimp only at *
  obtain ⟨D, c, rfl⟩ := ints_form hp
  go_enter Try.func82, Try.ntmps82
  go_wp2
  refine bodyPost_ret (v := .tuple #[escV ⟨_, ⟨n, m, g⟩, par, num, pr, sk⟩ (.slice D par.length c), .slice none 0 0]) (by simp [results, Try.results82, go_sem, escV]) rfl (stepP_keep hp hB (acts_nil _ _) ?_)
  repeat (with_reducible refine below_set ?_ (by omega) _)
  exact below_alloc2 _ _ _

set_option maxHeartbeats 2000000 in
theorem escape_high (mo n m g num b : Int) (par : List Int) (pr sk : Bool) (p : Value) (B : Nat) (w : World) (hp : Ints w B p par) (hB : B ≤ w.heap.size) (h0 : 127 ≤ b) :
    Calls Try.prog 82 #[escV ⟨mo, ⟨n, m, g⟩, par, num, pr, sk⟩ p, .int .u8 b] w (StepP B w ⟨0, ⟨n, m, g⟩, par, num, pr, sk⟩ []) := by
  unfold escV
  dsimp only at *
  obtain ⟨D, c, rfl⟩ := ints_form hp
  go_enter Try.func82, Try.ntmps82
  go_wp2
  refine bodyPost_ret (v := .tuple #[escV ⟨_, ⟨n, m, g⟩, par, num, pr, sk⟩ (.slice D par.length c), .slice none 0 0]) (by simp [results, Try.results82, go_sem, escV]) rfl (stepP_keep hp hB (acts_nil _ _) ?_)
  repeat (with_reducible refine below_set ?_ (by omega) _)
  exact below_alloc2 _ _ _

theorem acts_one3 (w : World) (o o' : Obj) (k r : Int) : Acts (((w.alloc o).alloc o').alloc (.cells #[.int .i64 k, .int .i32 r, .slice none 0 0] 44)) w.heap.size (.slice (some ⟨w.heap.size + 1 + 1, 0, none⟩) 1 1) [⟨k, r, []⟩] := by
  have := acts_one ((w.alloc o).alloc o') w.heap.size k r (by rw [World.size_alloc, World.size_alloc]; omega)
  rwa [World.size_alloc, World.size_alloc] at this
set_option maxHeartbeats 2000000 in
theorem escape_act (mo n m g num b : Int) (par : List Int) (pr sk : Bool) (p : Value) (B : Nat) (w : World) (hp : Ints w B p par) (hB : B ≤ w.heap.size) (h0 : 48 ≤ b) (h1 : b ≤ 126)
    (n1 : ¬ b = 91) (n2 : ¬ b = 93) (n3 : ¬ b = 80) (n4 : ¬ b = 88) (n5 : ¬ b = 94) (n6 : ¬ b = 95) :
    Calls Try.prog 82 #[escV ⟨mo, ⟨n, m, g⟩, par, num, pr, sk⟩ p, .int .u8 b] w (StepP B w ⟨0, ⟨n, m, g⟩, par, num, pr, sk⟩ [⟨3, b, []⟩]) := by
  unfold escV
  dsimp only at *
  obtain ⟨D, c, rfl⟩ := ints_form hp
  go_enter Try.func82, Try.ntmps82
  go_wp2
  refine bodyPost_ret (v := .tuple #[escV ⟨_, ⟨n, m, g⟩, par, num, pr, sk⟩ (.slice D par.length c), .slice (some ⟨w.heap.size + 1 + 1, 0, none⟩) 1 1]) (by simp [results, Try.results82, go_sem, escV]) rfl (stepP_keep hp hB (acts_one3 _ _ _ _ _) (below_alloc3 _ _ _ _))

/-- s lies in block w.heap.size, the answer's place behind it. -/
structure BoxAt (w : World) (a0 a1 a2 a3 a4 a5 a6 a7 : Value) (wq : World) : Prop where
  box : Held wq w.heap.size 32 #[a0, a1, a2, a3, a4, a5, a6, a7]
  ans : Held wq (w.heap.size + 1) 32 #[.int .i64 0, .int .i64 0, .int .i64 0, .int .i64 0, .slice none 0 0, .int .i64 0, .bool false, .bool false]
  below : Below w.heap.size w wq
theorem box_new (w : World) (a0 a1 a2 a3 a4 a5 a6 a7 : Value) : BoxAt w a0 a1 a2 a3 a4 a5 a6 a7 ((w.alloc (.cells #[a0, a1, a2, a3, a4, a5, a6, a7] 32)).alloc (.cells #[.int .i64 0, .int .i64 0, .int .i64 0, .int .i64 0, .slice none 0 0, .int .i64 0, .bool false, .bool false] 32)) :=
  ⟨Held.alloc (Held.new _ _ _) _, Held.new2 _ _ _ _, below_alloc2 _ _ _⟩

set_option maxHeartbeats 2000000 in
theorem escape_ctl (mo n m g num b : Int) (par : List Int) (pr sk : Bool) (p : Value) (B : Nat) (w : World) (hp : Ints w B p par) (hB : B ≤ w.heap.size) (h0 : 0 ≤ b) (h1 : b ≤ 31)
    (n1 : ¬ b = 27) (n2 : ¬ b = 24) (n3 : ¬ b = 26) :
    Calls Try.prog 82 #[escV ⟨mo, ⟨n, m, g⟩, par, num, pr, sk⟩ p, .int .u8 b] w (StepP B w ⟨mo, ⟨n, m, g⟩, par, num, pr, sk⟩ (ctl b)) := by
  unfold escV
  dsimp only at *
  obtain ⟨D, c, rfl⟩ := ints_form hp
  go_enter Try.func82, Try.ntmps82
  go_upto_region 16 with fail
  refine wp_world _ (box_new w _ _ _ _ _ _ _ _) ?_
  rintro wq ⟨hQ, hR, hbq⟩
  have hQd := hQ.drew
  have hRd := hR.drew
  have hzd1 := hQd.lt
  have hzd2 := hRd.lt
  go_region_held3 (fun w' => w'.cell? ⟨w.heap.size, 0, none⟩ = some (.int .i64 mo) ∧ w'.cell? ⟨w.heap.size, 1, none⟩ = some (.int .i64 n) ∧ w'.cell? ⟨w.heap.size, 2, none⟩ = some (.int .i64 m) ∧ w'.cell? ⟨w.heap.size, 3, none⟩ = some (.int .i64 g) ∧ w'.cell? ⟨w.heap.size, 4, none⟩ = some (.slice D par.length c) ∧ w'.cell? ⟨w.heap.size, 5, none⟩ = some (.int .i64 num) ∧ w'.cell? ⟨w.heap.size, 6, none⟩ = some (.bool pr) ∧ w'.cell? ⟨w.heap.size, 7, none⟩ = some (.bool sk))
    (first
      | with_reducible exact esc_S hQd
      | with_reducible exact esc_S hQ4
      | with_reducible exact esc_S (hQ4.far8 (by omega) _ _ _ _ _ _ _ _)
      | fail)
    ((go_at_call 121
      (with_reducible refine (control_any b wq.drew h0 (by omega)).mono ?_)
      rintro e w4 ⟨v4, rfl, ha4, hb4⟩
      have hQ4 := hQd.below hb4 hzd1
      have hR4 := hRd.below hb4 hzd2
      have hR4l := hR4.lt
      have hb5 : Below w.heap.size w w4 := hbq.drew.trans (hb4.mono hbq.size)
      obtain ⟨y0, y1, y2, y3, y4, y5, y6, y7, yf⟩ := esc_cells hR4))
  go_wp2
  refine bodyPost_ret (v := .tuple #[escV ⟨mo, ⟨n, m, g⟩, par, num, pr, sk⟩ (.slice D par.length c), v4]) (by simp [results, Try.results82, go_sem, escV, y0, y1, y2, y3, y4, y5, y6, y7]) rfl
    (stepP_keep hp hB ((Acts.setlo8 ha4 hzd2 _ _ _ _ _ _ _ _).base hbq.size) (below_set8 hb5 (Nat.le_succ _) _ _ _ _ _ _ _ _))

/-- What escape answers. -/
def escE (e : E) (b : Int) : E × List A :=
  if b = 91 then (⟨2, e.u, [], -1, false, false⟩, [])
  else if b = 93 ∨ b = 80 ∨ b = 88 ∨ b = 94 ∨ b = 95 then (⟨3, e.u, e.par, e.num, e.priv, e.skip⟩, [])
  else if b = 27 then (⟨1, e.u, e.par, e.num, e.priv, e.skip⟩, [])
  else if b = 24 ∨ b = 26 then (⟨0, e.u, e.par, e.num, e.priv, e.skip⟩, [])
  else if b ≤ 31 then (e, ctl b)
  else if b ≤ 47 then (⟨4, e.u, e.par, e.num, e.priv, e.skip⟩, [])
  else if b ≤ 126 then (⟨0, e.u, e.par, e.num, e.priv, e.skip⟩, [⟨3, b, []⟩])
  else (⟨0, e.u, e.par, e.num, e.priv, e.skip⟩, [])

theorem escape_any (e : E) (b : Int) (p : Value) (B : Nat) (w : World) (hp : Ints w B p e.par) (hB : B ≤ w.heap.size) (hb0 : 0 ≤ b) :
    Calls Try.prog 82 #[escV e p, .int .u8 b] w (StepP B w (escE e b).1 (escE e b).2) := by
  obtain ⟨mo, ⟨n, m, g⟩, par, num, pr, sk⟩ := e
  dsimp only at hp
  unfold escE
  by_cases c1 : b = 91
  · subst c1
    exact escape_91 mo n m g num par pr sk p B w hp hB
  rw [if_neg c1]
  by_cases c2 : b = 93 ∨ b = 80 ∨ b = 88 ∨ b = 94 ∨ b = 95
  · rw [if_pos c2]
    exact escape_set mo n m g num b 3 par pr sk p B w hp hB (.inl ⟨c2, rfl⟩)
  rw [if_neg c2]
  by_cases c3 : b = 27
  · rw [if_pos c3]
    exact escape_set mo n m g num b 1 par pr sk p B w hp hB (.inr (.inl ⟨c3, rfl⟩))
  rw [if_neg c3]
  by_cases c4 : b = 24 ∨ b = 26
  · rw [if_pos c4]
    exact escape_set mo n m g num b 0 par pr sk p B w hp hB (.inr (.inr ⟨c4, rfl⟩))
  rw [if_neg c4]
  by_cases c5 : b ≤ 31
  · rw [if_pos c5]
    exact escape_ctl mo n m g num b par pr sk p B w hp hB hb0 c5 c3 (by omega) (by omega)
  rw [if_neg c5]
  by_cases c6 : b ≤ 47
  · rw [if_pos c6]
    exact escape_mid mo n m g num b par pr sk p B w hp hB (by omega) c6
  rw [if_neg c6]
  by_cases c7 : b ≤ 126
  · rw [if_pos c7]
    exact escape_act mo n m g num b par pr sk p B w hp hB (by omega) c7 c1 (by omega) (by omega) (by omega) (by omega) (by omega)
  rw [if_neg c7]
  exact escape_high mo n m g num b par pr sk p B w hp hB (by omega)
end Go.Proofs.Ytpcpmeihebgncaa.Esca

/-
  What csi of package esca does with a byte of a control sequence. Conditions: a byte is 0 to 255; a number is at most 65535, and there are at most a thousand.
-/
namespace Go.Proofs.Ytpcpmeihebgncaa.Esca
open Go.RowKit
set_option maxRecDepth 100000

set_option maxHeartbeats 2000000 in
theorem csi_ctl (mo n m g num b : Int) (par : List Int) (pr sk : Bool) (p : Value) (B : Nat) (w : World) (hp : Ints w B p par) (hB : B ≤ w.heap.size) (h0 : 0 ≤ b) (h1 : b ≤ 31)
    (n1 : ¬ b = 27) (n2 : ¬ b = 24) (n3 : ¬ b = 26) :
    Calls Try.prog 83 #[escV ⟨mo, ⟨n, m, g⟩, par, num, pr, sk⟩ p, .int .u8 b] w (StepP B w ⟨mo, ⟨n, m, g⟩, par, num, pr, sk⟩ (ctl b)) := by
  unfold escV
  dsimp only at *
  obtain ⟨D, c, rfl⟩ := ints_form hp
  go_enter Try.func83, Try.ntmps83
  go_upto_region 7 with fail
  refine wp_world _ (box_new w _ _ _ _ _ _ _ _) ?_
  rintro wq ⟨hQ, hR, hbq⟩
  have hQd := hQ.drew
  have hRd := hR.drew
  have hzd1 := hQd.lt
  have hzd2 := hRd.lt
  go_region_held3 (fun w' => w'.cell? ⟨w.heap.size, 0, none⟩ = some (.int .i64 mo) ∧ w'.cell? ⟨w.heap.size, 1, none⟩ = some (.int .i64 n) ∧ w'.cell? ⟨w.heap.size, 2, none⟩ = some (.int .i64 m) ∧ w'.cell? ⟨w.heap.size, 3, none⟩ = some (.int .i64 g) ∧ w'.cell? ⟨w.heap.size, 4, none⟩ = some (.slice D par.length c) ∧ w'.cell? ⟨w.heap.size, 5, none⟩ = some (.int .i64 num) ∧ w'.cell? ⟨w.heap.size, 6, none⟩ = some (.bool pr) ∧ w'.cell? ⟨w.heap.size, 7, none⟩ = some (.bool sk))
    (first
      | with_reducible exact esc_S hQd
      | with_reducible exact esc_S hQ4
      | with_reducible exact esc_S (hQ4.far8 (by omega) _ _ _ _ _ _ _ _)
      | fail)
    ((go_at_call 121
      (with_reducible refine (control_any b wq.drew h0 (by omega)).mono ?_)
      rintro e w4 ⟨v4, rfl, ha4, hb4⟩
      have hQ4 := hQd.below hb4 hzd1
      have hR4 := hRd.below hb4 hzd2
      have hR4l := hR4.lt
      have hb5 : Below w.heap.size w w4 := hbq.drew.trans (hb4.mono hbq.size)
      obtain ⟨y0, y1, y2, y3, y4, y5, y6, y7, yf⟩ := esc_cells hR4))
  go_wp2
  refine bodyPost_ret (v := .tuple #[escV ⟨mo, ⟨n, m, g⟩, par, num, pr, sk⟩ (.slice D par.length c), v4]) (by simp [results, Try.results83, go_sem, escV, y0, y1, y2, y3, y4, y5, y6, y7]) rfl
    (stepP_keep hp hB ((Acts.setlo8 ha4 hzd2 _ _ _ _ _ _ _ _).base hbq.size) (below_set8 hb5 (Nat.le_succ _) _ _ _ _ _ _ _ _))

set_option maxHeartbeats 2000000 in
theorem csi_leave (mo n m g num b m' : Int) (par : List Int) (pr sk : Bool) (p : Value) (B : Nat) (w : World) (hp : Ints w B p par) (hB : B ≤ w.heap.size) (hb : (b = 27 ∧ m' = 1) ∨ ((b = 24 ∨ b = 26) ∧ m' = 0)) :
    Calls Try.prog 83 #[escV ⟨mo, ⟨n, m, g⟩, par, num, pr, sk⟩ p, .int .u8 b] w (StepP B w ⟨m', ⟨n, m, g⟩, [], 0, false, false⟩ []) := by
  unfold escV
  dsimp only at *
  obtain ⟨D, c, rfl⟩ := ints_form hp
  rcases hb with ⟨rfl, rfl⟩ | ⟨rfl | rfl, rfl⟩
  all_goals
    go_enter Try.func83, Try.ntmps83
    go_wp2_with (
      go_at_call 122
      refine (leave_any ⟨mo, ⟨n, m, g⟩, par, num, pr, sk⟩ _ _ B _ (Ints.alloc (Ints.alloc hp _) _)).mono ?_
      rintro e w2 ⟨rfl, hb2⟩
      unfold escV
      dsimp only
      obtain ⟨H1, H2⟩ := two_new hb2
      have hz1 := H1.lt
      have hz2 := H2.lt
      obtain ⟨y0, y1, y2, y3, y4, y5, y6, y7, yf⟩ := esc_cells H2)
    refine bodyPost_ret (v := .tuple #[escV ⟨_, ⟨n, m, g⟩, [], 0, false, false⟩ (.slice none 0 0), .slice none 0 0]) (by simp [results, Try.results83, go_sem, escV, y0, y1, y2, y3, y4, y5, y6, y7]) rfl (stepP_keep (ints_nil _ _) hB (acts_nil _ _) ?_)
    repeat (with_reducible refine below_set ?_ (by omega) _)
    exact (below_alloc2 w _ _).trans (hb2.mono (by simp; omega))

set_option maxHeartbeats 2000000 in
theorem csi_digit (mo n m g num b : Int) (par : List Int) (pr sk : Bool) (p : Value) (B : Nat) (w : World) (hp : Ints w B p par) (hB : B ≤ w.heap.size) (h0 : 48 ≤ b) (h1 : b ≤ 57) (hn : num ≤ 65535) :
    Calls Try.prog 83 #[escV ⟨mo, ⟨n, m, g⟩, par, num, pr, sk⟩ p, .int .u8 b] w (StepP B w ⟨mo, ⟨n, m, g⟩, par, wDigit num (b - 48), pr, sk⟩ []) := by
  unfold escV
  dsimp only at *
  obtain ⟨D, c, rfl⟩ := ints_form hp
  go_enter Try.func83, Try.ntmps83
  go_wp2_with (
    go_at_call 123
    refine (withDigit_any num (b - 48) _ (by omega) (by omega) hn).mono ?_
    rintro e w2 ⟨rfl, rfl⟩)
  refine bodyPost_ret (v := .tuple #[escV ⟨mo, ⟨n, m, g⟩, par, wDigit num (b - 48), pr, sk⟩ (.slice D par.length c), .slice none 0 0]) (by simp [results, Try.results83, go_sem, escV]) rfl (stepP_keep hp hB (acts_nil _ _) ?_)
  repeat (with_reducible refine below_set ?_ (by omega) _)
  exact below_alloc2 _ _ _

set_option maxHeartbeats 2000000 in
theorem csi_high (mo n m g num b : Int) (par : List Int) (pr sk : Bool) (p : Value) (B : Nat) (w : World) (hp : Ints w B p par) (hB : B ≤ w.heap.size) (h0 : 127 ≤ b) :
    Calls Try.prog 83 #[escV ⟨mo, ⟨n, m, g⟩, par, num, pr, sk⟩ p, .int .u8 b] w (StepP B w ⟨mo, ⟨n, m, g⟩, par, num, pr, sk⟩ []) := by
  unfold escV
  dsimp only at *
  obtain ⟨D, c, rfl⟩ := ints_form hp
  go_enter Try.func83, Try.ntmps83
  go_wp2
  refine bodyPost_ret (v := .tuple #[escV ⟨mo, ⟨n, m, g⟩, par, num, pr, sk⟩ (.slice D par.length c), .slice none 0 0]) (by simp [results, Try.results83, go_sem, escV]) rfl (stepP_keep hp hB (acts_nil _ _) ?_)
  repeat (with_reducible refine below_set ?_ (by omega) _)
  exact below_alloc2 _ _ _

set_option maxHeartbeats 2000000 in
theorem csi_skip (mo n m g num b : Int) (par : List Int) (pr sk : Bool) (p : Value) (B : Nat) (w : World) (hp : Ints w B p par) (hB : B ≤ w.heap.size) (h0 : 32 ≤ b) (h1 : b ≤ 62) (h2 : b < 48 ∨ 57 < b) (h3 : ¬ b = 59) :
    Calls Try.prog 83 #[escV ⟨mo, ⟨n, m, g⟩, par, num, pr, sk⟩ p, .int .u8 b] w (StepP B w ⟨mo, ⟨n, m, g⟩, par, num, pr, true⟩ []) := by
  unfold escV
  dsimp only at *
  obtain ⟨D, c, rfl⟩ := ints_form hp
  rcases h2 with h2 | h2
  all_goals
    go_enter Try.func83, Try.ntmps83
    go_wp2
    refine bodyPost_ret (v := .tuple #[escV ⟨mo, ⟨n, m, g⟩, par, num, pr, true⟩ (.slice D par.length c), .slice none 0 0]) (by simp [results, Try.results83, go_sem, escV]) rfl (stepP_keep hp hB (acts_nil _ _) ?_)
    repeat (with_reducible refine below_set ?_ (by omega) _)
    exact below_alloc2 _ _ _

set_option maxHeartbeats 2000000 in
theorem csi_63 (mo n m g num : Int) (par : List Int) (pr sk : Bool) (p : Value) (B : Nat) (w : World) (hp : Ints w B p par) (hB : B ≤ w.heap.size) :
    Calls Try.prog 83 #[escV ⟨mo, ⟨n, m, g⟩, par, num, pr, sk⟩ p, .int .u8 63] w (StepP B w ⟨mo, ⟨n, m, g⟩, par, num, pr || fresh ⟨mo, ⟨n, m, g⟩, par, num, pr, sk⟩, sk || !(fresh ⟨mo, ⟨n, m, g⟩, par, num, pr, sk⟩)⟩ []) := by
  unfold escV
  dsimp only at *
  obtain ⟨D, c, rfl⟩ := ints_form hp
  have hfr : ∃ f, f = fresh ⟨mo, ⟨n, m, g⟩, par, num, pr, sk⟩ := ⟨_, rfl⟩
  obtain ⟨f, hf⟩ := hfr
  rw [← hf]
  have HF := Lib.hid hf
  clear hf
  cases f
  all_goals
    simp only [Bool.or_false, Bool.or_true, Bool.not_false, Bool.not_true]
    go_enter Try.func83, Try.ntmps83
    go_wp2_with (
      go_at_call 125
      refine (isFresh_any ⟨mo, ⟨n, m, g⟩, par, num, pr, sk⟩ _ B _ (Ints.alloc (Ints.alloc hp _) _)).mono ?_
      rintro e w2 ⟨he, hb2⟩
      rw [← HF.out] at he
      subst he
      obtain ⟨H1, H2⟩ := two_new hb2
      have hz1 := H1.lt
      have hz2 := H2.lt
      obtain ⟨x0, x1, x2, x3, x4, x5, x6, x7, xf⟩ := esc_cells H1
      obtain ⟨y0, y1, y2, y3, y4, y5, y6, y7, yf⟩ := esc_cells H2)
    refine bodyPost_ret (v := .tuple #[escV ⟨mo, ⟨n, m, g⟩, par, num, _, _⟩ (.slice D par.length c), .slice none 0 0]) (by simp [results, Try.results83, go_sem, escV, y0, y1, y2, y3, y4, y5, y6, y7]) rfl (stepP_keep hp hB (acts_nil _ _) ?_)
    repeat (with_reducible refine below_set ?_ (by omega) _)
    exact (below_alloc2 w _ _).trans (hb2.mono (by simp; omega))

set_option maxHeartbeats 2000000 in
theorem csi_semi (mo n m g num : Int) (par : List Int) (pr sk : Bool) (p : Value) (B : Nat) (w : World) (hp : Ints w B p par) (hB : B ≤ w.heap.size) (hl : par.length ≤ 1000) :
    Calls Try.prog 83 #[escV ⟨mo, ⟨n, m, g⟩, par, num, pr, sk⟩ p, .int .u8 59] w (StepP B w ⟨mo, ⟨n, m, g⟩, wPar par num, -1, pr, sk⟩ []) := by
  unfold escV
  dsimp only at *
  obtain ⟨D, c, rfl⟩ := ints_form hp
  have hl1 := own_ge_ne hp (Nat.le_refl _)
  have hl2 := own_ge_ne hp (Nat.le_succ w.heap.size)
  go_enter Try.func83, Try.ntmps83
  go_wp2_with (
    go_at_call 124
    refine (withPar_any _ par num B _ (Ints.alloc (Ints.alloc hp _) _) hl (by simp; omega)).mono ?_
    rintro e w2 ⟨v2, rfl, hr2, hb2, hk2, hk3⟩
    obtain ⟨D2, c2, rfl⟩ := ints_form hr2
    have H1 : Held w2 w.heap.size 32 _ := (hk2 w.heap.size (by simp; omega) (Ne.symm hl1)).trans (box_new w _ _ _ _ _ _ _ _).box
    have H2 : Held w2 (w.heap.size + 1) 32 _ := (hk2 (w.heap.size + 1) (by simp) (Ne.symm hl2)).trans (box_new w _ _ _ _ _ _ _ _).ans
    have hz1 := H1.lt
    have hz2 := H2.lt
    obtain ⟨x0, x1, x2, x3, x4, x5, x6, x7, xf⟩ := esc_cells H1
    obtain ⟨y0, y1, y2, y3, y4, y5, y6, y7, yf⟩ := esc_cells H2)
  have hd1 : (Value.slice D2 (wPar par num).length c2).ownBlock ≠ some w.heap.size := fun he => by
    rcases hk3 _ he with h | h
    · exact hl1 h.symm
    · rw [World.size_alloc, World.size_alloc] at h; omega
  have hd2 : (Value.slice D2 (wPar par num).length c2).ownBlock ≠ some (w.heap.size + 1) := fun he => by
    rcases hk3 _ he with h | h
    · exact hl2 h.symm
    · rw [World.size_alloc, World.size_alloc] at h; omega
  refine bodyPost_ret (v := .tuple #[escV ⟨mo, ⟨n, m, g⟩, wPar par num, -1, pr, sk⟩ (.slice D2 (wPar par num).length c2), .slice none 0 0]) (by simp [results, Try.results83, go_sem, escV, y0, y1, y2, y3, y4, y5, y6, y7]) rfl ⟨_, _, rfl, ?_, acts_nil _ _, ?_⟩
  · exact (((((((((hr2.set hd1 _).set hd1 _).set hd2 _).set hd2 _).set hd2 _).set hd2 _).set hd2 _).set hd2 _).set hd2 _).set hd2 _
  · repeat (with_reducible refine below_set ?_ (by omega) _)
    exact ((below_alloc2 w _ _).mono hB).trans hb2

set_option maxHeartbeats 2000000 in
theorem csi_fin (mo n m g num b : Int) (par : List Int) (pr sk : Bool) (p : Value) (B : Nat) (w : World) (hp : Ints w B p par) (hB : B ≤ w.heap.size) (hl : par.length ≤ 1000) (h0 : 64 ≤ b) (h1 : b ≤ 126) :
    Calls Try.prog 83 #[escV ⟨mo, ⟨n, m, g⟩, par, num, pr, sk⟩ p, .int .u8 b] w (StepP B w ⟨0, ⟨n, m, g⟩, [], 0, false, false⟩ (fin ⟨mo, ⟨n, m, g⟩, par, num, pr, sk⟩ b)) := by
  unfold escV
  dsimp only at *
  obtain ⟨D, c, rfl⟩ := ints_form hp
  go_enter Try.func83, Try.ntmps83
  go_upto_region 18 with fail
  refine wp_world _ (box_new w _ _ _ _ _ _ _ _) ?_
  rintro wq ⟨hQ, hR, hbq⟩
  have hpq := hp.below hbq (Nat.le_refl _)
  have hpqd := hpq.drew
  have hQd := hQ.drew
  have hRd := hR.drew
  have hzd1 := hQd.lt
  have hzd2 := hRd.lt
  have hl1 := own_ge_ne hp (Nat.le_refl _)
  have hl2 := own_ge_ne hp (Nat.le_succ w.heap.size)
  go_region_held3 (fun w' => w'.cell? ⟨w.heap.size, 0, none⟩ = some (.int .i64 mo) ∧ w'.cell? ⟨w.heap.size, 1, none⟩ = some (.int .i64 n) ∧ w'.cell? ⟨w.heap.size, 2, none⟩ = some (.int .i64 m) ∧ w'.cell? ⟨w.heap.size, 3, none⟩ = some (.int .i64 g) ∧ w'.cell? ⟨w.heap.size, 4, none⟩ = some (.slice D par.length c) ∧ w'.cell? ⟨w.heap.size, 5, none⟩ = some (.int .i64 num) ∧ w'.cell? ⟨w.heap.size, 6, none⟩ = some (.bool pr) ∧ w'.cell? ⟨w.heap.size, 7, none⟩ = some (.bool sk))
    (first
      | with_reducible exact esc_S hQd
      | with_reducible exact esc_S hQ3
      | with_reducible exact esc_S hQ4
      | with_reducible exact esc_S (hQ4.far8 (by omega) _ _ _ _ _ _ _ _)
      | fail)
    (first
      | (go_at_call 122
         refine (leave_any ⟨mo, ⟨n, m, g⟩, par, num, pr, sk⟩ _ _ B wq.drew hpqd).mono ?_
         rintro e w3 ⟨rfl, hb3⟩
         unfold escV
         dsimp only
         have hQ3 := hQd.below hb3 hzd1
         have hR3 := hRd.below hb3 hzd2
         have hp3 := hpqd.below hb3 (Nat.le_refl _))
      | (go_at_call 126
         refine (final_any ⟨mo, ⟨n, m, g⟩, par, num, pr, sk⟩ b _ B w3 hp3 hl (by exact Nat.le_trans hB (Nat.le_trans hbq.size hb3.size)) (by omega) (by omega)).mono ?_
         rintro e w4 ⟨v4, rfl, ha4, hb4, hk4⟩
         have hQ4 : Held w4 w.heap.size 32 _ := (hk4 _ hQ3.lt (Ne.symm hl1)).1.trans hQ3
         have hR4 : Held w4 (w.heap.size + 1) 32 _ := (hk4 _ hR3.lt (Ne.symm hl2)).1.trans hR3
         have hz4 := hR4.lt
         have hoff := (hk4 _ hR3.lt (Ne.symm hl2)).2
         have hb5 : Below B w w4 := ((hbq.drew.mono hB).trans (hb3.mono (Nat.le_trans hB hbq.size))).trans hb4
         obtain ⟨y0, y1, y2, y3, y4, y5, y6, y7, yf⟩ := esc_cells hR4))
  go_wp2
  refine bodyPost_ret (v := .tuple #[escV ⟨0, ⟨n, m, g⟩, [], 0, false, false⟩ (.slice none 0 0), v4]) (by simp [results, Try.results83, go_sem, escV, y0, y1, y2, y3, y4, y5, y6, y7]) rfl ⟨_, _, rfl, ints_nil _ _, ?_, ?_⟩
  · exact ((((((((hoff.set 0 _).set 1 _).set 2 _).set 3 _).set 4 _).set 5 _).set 6 _).set 7 _).acts
  · exact below_set8 hb5 (by omega) _ _ _ _ _ _ _ _

/-- What csi answers. -/
def csiE (e : E) (b : Int) : E × List A :=
  if b = 27 then (⟨1, e.u, [], 0, false, false⟩, [])
  else if b = 24 ∨ b = 26 then (⟨0, e.u, [], 0, false, false⟩, [])
  else if b ≤ 31 then (e, ctl b)
  else if 48 ≤ b ∧ b ≤ 57 then (⟨e.mode, e.u, e.par, wDigit e.num (b - 48), e.priv, e.skip⟩, [])
  else if b = 59 then (⟨e.mode, e.u, wPar e.par e.num, -1, e.priv, e.skip⟩, [])
  else if b = 63 then (⟨e.mode, e.u, e.par, e.num, e.priv || fresh e, e.skip || !(fresh e)⟩, [])
  else if b ≤ 63 then (⟨e.mode, e.u, e.par, e.num, e.priv, true⟩, [])
  else if b ≤ 126 then (⟨0, e.u, [], 0, false, false⟩, fin e b)
  else (e, [])

theorem csi_any (e : E) (b : Int) (p : Value) (B : Nat) (w : World) (hp : Ints w B p e.par) (hB : B ≤ w.heap.size) (hb0 : 0 ≤ b) (hn : e.num ≤ 65535) (hl : e.par.length ≤ 1000) :
    Calls Try.prog 83 #[escV e p, .int .u8 b] w (StepP B w (csiE e b).1 (csiE e b).2) := by
  obtain ⟨mo, ⟨n, m, g⟩, par, num, pr, sk⟩ := e
  dsimp only at hp hn hl
  unfold csiE
  by_cases c1 : b = 27
  · rw [if_pos c1]
    exact csi_leave mo n m g num b 1 par pr sk p B w hp hB (.inl ⟨c1, rfl⟩)
  rw [if_neg c1]
  by_cases c2 : b = 24 ∨ b = 26
  · rw [if_pos c2]
    exact csi_leave mo n m g num b 0 par pr sk p B w hp hB (.inr ⟨c2, rfl⟩)
  rw [if_neg c2]
  by_cases c3 : b ≤ 31
  · rw [if_pos c3]
    exact csi_ctl mo n m g num b par pr sk p B w hp hB hb0 c3 c1 (by omega) (by omega)
  rw [if_neg c3]
  by_cases c4 : 48 ≤ b ∧ b ≤ 57
  · rw [if_pos c4]
    exact csi_digit mo n m g num b par pr sk p B w hp hB c4.1 c4.2 hn
  rw [if_neg c4]
  by_cases c5 : b = 59
  · subst c5
    exact csi_semi mo n m g num par pr sk p B w hp hB hl
  rw [if_neg c5]
  by_cases c6 : b = 63
  · subst c6
    exact csi_63 mo n m g num par pr sk p B w hp hB
  rw [if_neg c6]
  by_cases c7 : b ≤ 63
  · rw [if_pos c7]
    exact csi_skip mo n m g num b par pr sk p B w hp hB (by omega) (by omega) (by omega) c5
  rw [if_neg c7]
  by_cases c8 : b ≤ 126
  · rw [if_pos c8]
    exact csi_fin mo n m g num b par pr sk p B w hp hB hl (by omega) c8
  rw [if_neg c8]
  exact csi_high mo n m g num b par pr sk p B w hp hB (by omega)
end Go.Proofs.Ytpcpmeihebgncaa.Esca

/-
  Step of package esca, as one plain function of where it is and a byte. Conditions: a byte is 0 to 255; where it is is what steps from nothing make.
-/
namespace Go.Proofs.Ytpcpmeihebgncaa.Esca
open Go.RowKit
set_option maxRecDepth 100000

/-- What Step answers. -/
def nxE (e : E) (b : Int) : E × List A :=
  if e.mode = 0 then (⟨if b = 27 then 1 else e.mode, nx e.u b, e.par, e.num, e.priv, e.skip⟩, prints (nxR e.u b) ++ ctl b)
  else if e.mode = 1 then escE e b
  else if e.mode = 2 then csiE e b
  else if e.mode = 3 then (⟨inStr b, e.u, e.par, e.num, e.priv, e.skip⟩, [])
  else if e.mode = 5 then (⟨inEn b, e.u, e.par, e.num, e.priv, e.skip⟩, [])
  else if e.mode = 4 then (⟨inSk b, e.u, e.par, e.num, e.priv, e.skip⟩, [])
  else (e, [])

set_option maxHeartbeats 2000000 in
theorem step_call (e : E) (b : Int) (f : Nat) (hf : (f = 81 ∧ e.mode = 0) ∨ (f = 82 ∧ e.mode = 1) ∨ (f = 83 ∧ e.mode = 2)) (e' : E) (l : List A) (p : Value) (B : Nat) (w : World) (hp : Ints w B p e.par) (hl : e.par.length ≤ 1000)
    (h : ∀ (q : Value) (C : Nat) (w : World), Ints w C q e.par → C ≤ w.heap.size → Calls Try.prog f #[escV e q, .int .u8 b] w (StepP C w e' l)) :
    Calls Try.prog 41 #[escV e p, .int .u8 b] w (StepP w.heap.size w e' l) := by
  have HH := Lib.hid h
  clear h
  obtain ⟨mo, ⟨n, m, g⟩, par, num, pr, sk⟩ := e
  dsimp only at hf hp hl
  have hp2 : ∀ o o', Ints ((w.alloc o).alloc o') B p par := fun o o' => (hp.alloc o).alloc o'
  obtain ⟨D, c, rfl⟩ := ints_form hp
  have HI : Hid (∀ w, Ints w B (.slice D par.length c) par → Calls Try.prog 80 #[escV ⟨mo, ⟨n, m, g⟩, par, num, pr, sk⟩ (.slice D par.length c)] w (EscPost w.heap.size w ⟨mo, ⟨n, m, g⟩, par, num, pr, sk⟩)) := fun w hp => own_any ⟨mo, ⟨n, m, g⟩, par, num, pr, sk⟩ (.slice D par.length c) B w hp hl
  unfold escV
  dsimp only
  rcases hf with ⟨rfl, rfl⟩ | ⟨rfl, rfl⟩ | ⟨rfl, rfl⟩
  all_goals
    go_enter Try.func41, Try.ntmps41
    go_wp2_with (first
      | (go_at_call 80
         refine (HI.out _ (by exact hp2 _ _)).mono ?_
         rintro x w2 ⟨p2, rfl, hr2, hb2⟩
         unfold escV
         dsimp only at hr2 ⊢
         obtain ⟨D2, c2, rfl⟩ := ints_form hr2
         obtain ⟨H1, H2⟩ := two_new hb2
         have hz1 := H1.lt
         have hz2 := H2.lt
         have hr2' : Ints w2 (w.heap.size + 2) (.slice D2 par.length c2) par := hr2.base (by simp)
         have hb2' : Below w.heap.size w w2 := (below_alloc2 w _ _).trans (hb2.mono (by simp; omega))
         obtain ⟨x0, x1, x2, x3, x4, x5, x6, x7, xf⟩ := esc_cells H1
         obtain ⟨y0, y1, y2, y3, y4, y5, y6, y7, yf⟩ := esc_cells H2)
      | (first | go_at_call 81 | go_at_call 82 | go_at_call 83
         refine (HH.out (.slice D2 par.length c2) (w.heap.size + 2) _ (by exact Ints.setlo8 hr2' (by omega) _ _ _ _ _ _ _ _) (by simp; omega)).mono ?_
         rintro x w3 ⟨p3, v3, rfl, hr3, ha3, hb3⟩
         unfold escV
         dsimp only
         obtain ⟨D3, c3, rfl⟩ := ints_form hr3
         have H3 : Held w3 (w.heap.size + 1) 32 _ := Held.below (Held.far8 H2 (by omega) _ _ _ _ _ _ _ _) hb3 (by omega)
         have hz3 := H3.lt
         have hb3' : Below w.heap.size w w3 := (below_set8 hb2' (Nat.le_refl _) _ _ _ _ _ _ _ _).trans (hb3.mono (by omega))
         obtain ⟨z0, z1, z2, z3, z4, z5, z6, z7, zf⟩ := esc_cells H3))
    refine bodyPost_ret (v := .tuple #[escV e' (.slice D3 e'.par.length c3), v3]) (by simp [results, Try.results41, go_sem, escV, z0, z1, z2, z3, z4, z5, z6, z7]) rfl ⟨_, _, rfl, ?_, ?_, ?_⟩
    · exact (Ints.setlo8 hr3 (by omega) _ _ _ _ _ _ _ _).base (by omega)
    · exact (Acts.setlo8 ha3 (by omega) _ _ _ _ _ _ _ _).base (by omega)
    · exact below_set8 hb3' (by omega) _ _ _ _ _ _ _ _

set_option maxHeartbeats 2000000 in
theorem step_set (n m g num b m' mo : Int) (par : List Int) (pr sk : Bool) (hm : (mo = 3 ∧ m' = inStr b) ∨ (mo = 5 ∧ m' = inEn b) ∨ (mo = 4 ∧ m' = inSk b)) (p : Value) (B : Nat) (w : World) (hp : Ints w B p par) (hl : par.length ≤ 1000) :
    Calls Try.prog 41 #[escV ⟨mo, ⟨n, m, g⟩, par, num, pr, sk⟩ p, .int .u8 b] w (StepP w.heap.size w ⟨m', ⟨n, m, g⟩, par, num, pr, sk⟩ []) := by
  have hp2 : ∀ o o', Ints ((w.alloc o).alloc o') B p par := fun o o' => (hp.alloc o).alloc o'
  obtain ⟨D, c, rfl⟩ := ints_form hp
  have HI : Hid (∀ w, Ints w B (.slice D par.length c) par → Calls Try.prog 80 #[escV ⟨mo, ⟨n, m, g⟩, par, num, pr, sk⟩ (.slice D par.length c)] w (EscPost w.heap.size w ⟨mo, ⟨n, m, g⟩, par, num, pr, sk⟩)) := fun w hp => own_any ⟨mo, ⟨n, m, g⟩, par, num, pr, sk⟩ (.slice D par.length c) B w hp hl
  unfold escV
  dsimp only
  rcases hm with ⟨rfl, hm'⟩ | ⟨rfl, hm'⟩ | ⟨rfl, hm'⟩
  all_goals
    have HM := Lib.hid hm'
    clear hm'
    go_enter Try.func41, Try.ntmps41
    go_wp2_with (first
      | (go_at_call 80
         refine (HI.out _ (by exact hp2 _ _)).mono ?_
         rintro x w2 ⟨p2, rfl, hr2, hb2⟩
         unfold escV
         dsimp only at hr2 ⊢
         obtain ⟨D2, c2, rfl⟩ := ints_form hr2
         obtain ⟨H1, H2⟩ := two_new hb2
         have hz1 := H1.lt
         have hz2 := H2.lt
         have hr2' : Ints w2 (w.heap.size + 2) (.slice D2 par.length c2) par := hr2.base (by simp)
         have hb2' : Below w.heap.size w w2 := (below_alloc2 w _ _).trans (hb2.mono (by simp; omega))
         obtain ⟨x0, x1, x2, x3, x4, x5, x6, x7, xf⟩ := esc_cells H1
         obtain ⟨y0, y1, y2, y3, y4, y5, y6, y7, yf⟩ := esc_cells H2)
      | (go_at_call 84; refine (inString_any b _).mono ?_; rintro x w3 ⟨he, rfl⟩; rw [← HM.out] at he; subst he)
      | (go_at_call 85; refine (inEnd_any b _).mono ?_; rintro x w3 ⟨he, rfl⟩; rw [← HM.out] at he; subst he)
      | (go_at_call 86; refine (inSkip_any b _).mono ?_; rintro x w3 ⟨he, rfl⟩; rw [← HM.out] at he; subst he))
    refine bodyPost_ret (v := .tuple #[escV ⟨m', ⟨n, m, g⟩, par, num, pr, sk⟩ (.slice D2 par.length c2), .slice none 0 0]) (by simp [results, Try.results41, go_sem, escV, y0, y1, y2, y3, y4, y5, y6, y7]) rfl ⟨_, _, rfl, ?_, acts_nil _ _, ?_⟩
    · refine Ints.base (B := w.heap.size + 2) ?_ (by omega)
      repeat (with_reducible refine Ints.setlo ?_ (by omega) _)
      exact hr2'
    · repeat (with_reducible refine below_set ?_ (by omega) _)
      exact hb2'

/-- What steps from nothing make. -/
structure E.Ok (e : E) : Prop where
  u : e.u.Ok
  mode0 : 0 ≤ e.mode
  mode5 : e.mode ≤ 5
  num : e.num ≤ 65535
  par : e.par.length ≤ 16
def E.zero : E := ⟨0, U.zero, [], 0, false, false⟩
theorem E.zero_ok : E.zero.Ok := ⟨U.zero_ok, by decide, by decide, by decide, by decide⟩

theorem wPar_len (par : List Int) (n : Int) (h : par.length ≤ 16) : (wPar par n).length ≤ 16 := by
  unfold wPar
  split
  · exact h
  · simp; omega
theorem inStr_ok (b : Int) : 0 ≤ inStr b ∧ inStr b ≤ 5 := by unfold inStr; repeat' split
                                                             all_goals omega
theorem inEn_ok (b : Int) : 0 ≤ inEn b ∧ inEn b ≤ 5 := by unfold inEn; repeat' split
                                                          all_goals omega
theorem inSk_ok (b : Int) : 0 ≤ inSk b ∧ inSk b ≤ 5 := by unfold inSk; repeat' split
                                                          all_goals omega
theorem wDigit_le (n d : Int) (h1 : d ≤ 9) : wDigit n d ≤ 65535 := by unfold wDigit; split <;> omega

theorem nxE_ok (e : E) (b : Int) (he : e.Ok) : (nxE e b).1.Ok := by
  obtain ⟨h1, h2, h3, h4, h5⟩ := he
  unfold nxE
  repeat' split
  · exact ⟨nx_ok _ _ h1, by dsimp only; omega, by dsimp only; omega, h4, h5⟩
  · exact ⟨nx_ok _ _ h1, h2, h3, h4, h5⟩
  · unfold escE
    repeat' split
    all_goals first | exact ⟨h1, by dsimp only; omega, by dsimp only; omega, by dsimp only; omega, by dsimp only; simp⟩ | exact ⟨h1, by dsimp only; omega, by dsimp only; omega, h4, h5⟩ | exact ⟨h1, h2, h3, h4, h5⟩
  · unfold csiE
    repeat' split
    all_goals first | exact ⟨h1, by dsimp only; omega, by dsimp only; omega, by dsimp only; omega, by dsimp only; simp⟩ | exact ⟨h1, h2, h3, h4, h5⟩ | exact ⟨h1, h2, h3, wDigit_le _ _ (by omega), h5⟩ | exact ⟨h1, h2, h3, by dsimp only; omega, wPar_len _ _ h5⟩
  · exact ⟨h1, (inStr_ok b).1, (inStr_ok b).2, h4, h5⟩
  · exact ⟨h1, (inEn_ok b).1, (inEn_ok b).2, h4, h5⟩
  · exact ⟨h1, (inSk_ok b).1, (inSk_ok b).2, h4, h5⟩
  · exact ⟨h1, h2, h3, h4, h5⟩
theorem nxE_len (e : E) (b : Int) : (nxE e b).2.length ≤ 3 := by
  have h1 := prints_len (nxR e.u b)
  have h2 := nxR_len e.u b
  have h3 := ctl_len b
  have h4 : (fin e b).length ≤ 1 := by unfold fin; split <;> simp
  unfold nxE
  repeat' split
  · simp only [List.length_append]; omega
  · simp only [List.length_append]; omega
  · unfold escE
    repeat' split
    all_goals first | exact Nat.zero_le _ | exact Nat.le_trans h3 (by decide) | (simp; done)
  · unfold csiE
    repeat' split
    all_goals first | exact Nat.zero_le _ | exact Nat.le_trans h3 (by decide) | exact Nat.le_trans h4 (by decide)
  all_goals exact Nat.zero_le _

theorem stepE_any (e : E) (b : Int) (p : Value) (B : Nat) (w : World) (hp : Ints w B p e.par) (he : e.Ok) (hb0 : 0 ≤ b) (hb1 : b ≤ 255) :
    Calls Try.prog 41 #[escV e p, .int .u8 b] w (StepP w.heap.size w (nxE e b).1 (nxE e b).2) := by
  obtain ⟨h1, h2, h3, h4, h5⟩ := he
  have hl : e.par.length ≤ 1000 := by omega
  unfold nxE
  by_cases c0 : e.mode = 0
  · rw [if_pos c0]
    exact step_call e b 81 (.inl ⟨rfl, c0⟩) _ _ p B w hp hl fun q C w hq hC => ground_any e b q C w hq h1 hC hb0 hb1
  rw [if_neg c0]
  by_cases c1 : e.mode = 1
  · rw [if_pos c1]
    exact step_call e b 82 (.inr (.inl ⟨rfl, c1⟩)) _ _ p B w hp hl fun q C w hq hC => escape_any e b q C w hq hC hb0
  rw [if_neg c1]
  by_cases c2 : e.mode = 2
  · rw [if_pos c2]
    exact step_call e b 83 (.inr (.inr ⟨rfl, c2⟩)) _ _ p B w hp hl fun q C w hq hC => csi_any e b q C w hq hC hb0 h4 hl
  rw [if_neg c2]
  obtain ⟨mo, ⟨n, m, g⟩, par, num, pr, sk⟩ := e
  dsimp only at *
  by_cases c3 : mo = 3
  · rw [if_pos c3]
    exact step_set n m g num b _ mo par pr sk (.inl ⟨c3, rfl⟩) p B w hp hl
  rw [if_neg c3]
  by_cases c4 : mo = 5
  · rw [if_pos c4]
    exact step_set n m g num b _ mo par pr sk (.inr (.inl ⟨c4, rfl⟩)) p B w hp hl
  rw [if_neg c4]
  rw [if_pos (by omega)]
  exact step_set n m g num b _ mo par pr sk (.inr (.inr ⟨by omega, rfl⟩)) p B w hp hl
end Go.Proofs.Ytpcpmeihebgncaa.Esca

/-
  Feed of package esca: what a row of bytes comes to, byte by byte. Conditions: bytes are 0 to 255, and at most 300000; where it is is what steps from nothing make.
-/
namespace Go.Proofs.Ytpcpmeihebgncaa.Esca
open Go.RowKit
set_option maxRecDepth 100000

def feedE (e : E) : List Int → E
  | [] => e
  | b :: bs => feedE (nxE e b).1 bs
def feedA (e : E) : List Int → List A
  | [] => []
  | b :: bs => (nxE e b).2 ++ feedA (nxE e b).1 bs
theorem feedE_app (e : E) (cs bs : List Int) : feedE e (cs ++ bs) = feedE (feedE e cs) bs := by
  induction cs generalizing e with
  | nil => rfl
  | cons a l ih => exact ih _
theorem feedA_app (e : E) (cs bs : List Int) : feedA e (cs ++ bs) = feedA e cs ++ feedA (feedE e cs) bs := by
  induction cs generalizing e with
  | nil => simp [feedA, feedE]
  | cons a l ih => simp [feedA, feedE, ih, List.append_assoc]
theorem feedE_ok (e : E) (bs : List Int) (h : e.Ok) : (feedE e bs).Ok := by
  induction bs generalizing e with
  | nil => exact h
  | cons a l ih => exact ih _ (nxE_ok e a h)
theorem feedA_len (e : E) (bs : List Int) : (feedA e bs).length ≤ 3 * bs.length := by
  induction bs generalizing e with
  | nil => simp [feedA]
  | cons a l ih =>
    have h1 := ih (nxE e a).1
    have h2 := nxE_len e a
    simp only [feedA, List.length_append, List.length_cons]
    omega

/-- A slice value v that reads as the bytes bs. -/
def ReadB (w : World) (v : Value) (bs : List Int) : Prop := ∃ D c, v = .slice D bs.length c ∧ ∀ k : Nat, k < bs.length → ∃ (b off : Nat) (z : Int), D = some ⟨b, off, none⟩ ∧ b < w.heap.size ∧ bs[k]? = some z ∧ w.cell? ⟨b, off + k, none⟩ = some (.int .u8 z) ∧ 0 ≤ z ∧ z ≤ 255

theorem Ints.moved {w w' : World} {B : Nat} {v : Value} {l : List Int} {row : Option Nat} (h : Ints w B v l) (hk : ∀ k, k < w.heap.size → some k ≠ row → w'.heap[k]? = w.heap[k]?) (hne : ∀ k, v.ownBlock = some k → some k ≠ row) : Ints w' B v l := by
  refine ⟨h.1, ?_⟩
  rcases h.2 with hn | ⟨g, cap, cur, rfl, hb, hgg, rest⟩
  · exact .inl hn
  · refine .inr ⟨g, cap, cur, rfl, hb, ?_, rest⟩
    rw [hk g (Array.getElem?_eq_some_iff.1 hgg).1 (hne g rfl)]
    exact hgg

end Go.Proofs.Ytpcpmeihebgncaa.Esca
