/-
  What the builtin copy does to a row of cells of the call's own, from whatever row that reads as cells. Conditions: the row is known whole; the place lies within it.
-/
import Derived.Test.YtpcpmeihebgncaaPlain
namespace Go.Proofs.Ytpcpmeihebgncaa
open Go.RowKit
set_option maxRecDepth 100000

section
variable {P : Program}

theorem run_copy_wide (w : World) (dT sT ty elem : TypeId) (sz g o dLen dCap : Nat) (a : Addr) (sLen sCap : Nat) (cur : Array Value) (t : TypeId) (cs : List Value)
    (hu : P.underlying dT = some (.slice elem)) (hs : (P.info? elem).map (·.size) = some sz)
    (hg : w.heap[g]? = some (.cells cur t (0, 0))) (hn : cs.length = Nat.min sLen dLen * sz)
    (hsrc : ∀ j v, cs[j]? = some v → w.cell? (a.add j) = some v) (hfit : o + cs.length ≤ cur.size) (h1 : ∀ v ∈ cs, v.oneCell' = true) :
    (Builtin.copy_ #[dT, sT] ty #[.slice (some ⟨g, o, none⟩) dLen dCap, .slice (some a) sLen sCap]).run P w =
      .ok (goInt (Nat.min sLen dLen)) (w.setRow g (cur.toList.take o ++ cs ++ cur.toList.drop (o + cs.length)).toArray) := by
  have hl := run_loadCells_list (P := P) w a cs hsrc
  have hst := run_storeCells_at P g o t cs 0 cur w hg (by simpa using hfit) h1
  rw [hn] at hl
  cases hq : P.info? elem with
  | none => simp [hq] at hs
  | some i =>
    have hi : i.size = sz := by simpa [hq] using hs
    simp [Builtin.copy_, run_underlying hu, Builtin.lenOf, Builtin.firstCells, sizeOf, typeInfo, hq, hi, hl, hst]

theorem run_copy_wide_none (w : World) (dT sT ty elem : TypeId) (sz : Nat) (d a : Option Addr) (dLen dCap sLen sCap : Nat) (hu : P.underlying dT = some (.slice elem)) (hs : (P.info? elem).map (·.size) = some sz) (hn : Nat.min sLen dLen = 0) :
    (Builtin.copy_ #[dT, sT] ty #[.slice d dLen dCap, .slice a sLen sCap]).run P w = .ok (goInt 0) w := by
  cases hq : P.info? elem with
  | none => simp [hq] at hs
  | some i =>
    have hl : ∀ (x : Addr), (loadCells x 0).run P w = .ok #[] w := fun x => by simpa using run_loadCells_list (P := P) w x [] (by simp)
    cases d <;> cases a <;> simp [Builtin.copy_, run_underlying hu, Builtin.lenOf, Builtin.firstCells, sizeOf, typeInfo, hq, hn, storeCells, hl]

/-- What a slice type of cells is. -/
def CellT (P : Program) : Prop := P.underlying 46 = some (.slice 48) ∧ (P.info? 48).map (·.size) = some 2

theorem run_copyC (hT : CellT P) (w : World) (ty : TypeId) (dp sp : Option Addr) (dLen dCap sCap : Nat) (g off : Nat) (L l : List C) (hg : Row w g L) (hr : ReadC w sp l)
    (hpos : 0 < dLen → 0 < l.length → dp = some ⟨g, off * 2, none⟩) (hfit : off + min l.length dLen ≤ L.length) :
    ∃ w', (Builtin.copy_ #[46, 46] ty #[.slice dp dLen dCap, .slice sp l.length sCap]).run P w = .ok (goInt (Nat.min l.length dLen)) w' ∧ Row w' g (splice L off (l.take dLen)) ∧
      ∀ B w0, Below B w0 w → B ≤ g → Below B w0 w' := by
  obtain ⟨hu, hs⟩ := hT
  by_cases h0 : Nat.min l.length dLen = 0
  · refine ⟨w, by rw [run_copy_wide_none (P := P) w 46 46 ty 48 2 dp sp dLen dCap l.length sCap hu hs h0, h0]; rfl, ?_, fun _ _ h _ => h⟩
    have e : l.take dLen = [] := List.eq_nil_of_length_eq_zero (by rw [List.length_take, Nat.min_comm]; exact h0)
    rw [e]
    simpa [splice] using hg
  · have hm : Nat.min l.length dLen = min l.length dLen := rfl
    obtain rfl := hpos (by omega) (by omega)
    have hlen : (l.take dLen).length = min l.length dLen := by rw [List.length_take, Nat.min_comm]
    obtain ⟨ad, rfl, hcell⟩ := read_flat (hr.take dLen) (by omega)
    have hcl : (cvs (l.take dLen)).length = Nat.min l.length dLen * 2 := by rw [cvs_len, hlen]
    refine ⟨_, run_copy_wide (P := P) w 46 46 ty 48 2 g (off * 2) dLen dCap ad l.length sCap (cvs L).toArray 48 (cvs (l.take dLen)) hu hs hg hcl hcell (by rw [hcl]; simp only [List.size_toArray, cvs_len]; omega) (cvs_one _), ?_, fun B w0 hb hB => below_setRow hb hB _⟩
    have := setRow_heap w g (cvs L).toArray (splice (cvs L) (off * 2) (cvs (l.take dLen))).toArray 48 (0, 0) hg
    unfold Row Held
    rw [← cvs_splice]
    simpa [splice] using this

theorem wp_copyC (hT : CellT P) {w : World} {o : Oper} {a : Act} {K : Act → World → Prop} {Q : Exit → Act → World → Prop} (d s : Operand)
    (ho : o.op = .call { callee := .builtin .copy, args := #[d, s], argTypes := #[46, 46] }) (dp sp : Option Addr) (dLen dCap sLen sCap : Nat) (hd : a.eval d = .slice dp dLen dCap) (hs : a.eval s = .slice sp sLen sCap)
    (g off : Nat) (L l : List C) (hg : Row w g L) (hr : ReadC w sp l) (hl : sLen = l.length)
    (hpos : 0 < dLen → 0 < l.length → dp = some ⟨g, off * 2, none⟩) (hfit : off + min l.length dLen ≤ L.length) (B : Nat) (w0 : World) (hb : Below B w0 w) (hBg : B ≤ g)
    (h : ∀ w', Hid (Row w' g (splice L off (l.take dLen))) → Below B w0 w' → K (a.put o.dst (goInt (Nat.min sLen dLen))) w') : o.wp P a w K Q := by
  subst hl
  obtain ⟨w', hrun, h1, h2⟩ := run_copyC hT w o.type dp sp dLen dCap sCap g off L l hg hr hpos hfit
  unfold Oper.wp execOp
  simp only [ho, resolve, invoke, builtin, Sem.run_bind, Sem.run_pure, Result.andThen_ok, List.map_toArray, List.map_cons, List.map_nil, hd, hs, hrun]
  exact h w' h1 (h2 B w0 hb hBg)

theorem wpList_copyC (hT : CellT P) {w : World} {ops : Array Oper} {rest : List Oper} {o : Oper} {a : Act} {Q : Exit → Act → World → Prop} (hgd : o.guard = none) (d s : Operand)
    (ho : o.op = .call { callee := .builtin .copy, args := #[d, s], argTypes := #[46, 46] }) (dp sp : Option Addr) (dLen dCap sLen sCap : Nat) (hd : a.eval d = .slice dp dLen dCap) (hs : a.eval s = .slice sp sLen sCap)
    (g off : Nat) (L l : List C) (hg : Row w g L) (hr : ReadC w sp l) (hl : sLen = l.length)
    (hpos : 0 < dLen → 0 < l.length → dp = some ⟨g, off * 2, none⟩) (hfit : off + min l.length dLen ≤ L.length) (B : Nat) (w0 : World) (hb : Below B w0 w) (hBg : B ≤ g)
    (h : ∀ w', Hid (Row w' g (splice L off (l.take dLen))) → Below B w0 w' → wpList P ops Q rest (a.put o.dst (goInt (Nat.min sLen dLen))) w') : wpList P ops Q (o :: rest) a w :=
  wpList_plain hgd fun _ hK => wp_copyC hT d s ho dp sp dLen dCap sLen sCap hd hs g off L l hg hr hl hpos hfit B w0 hb hBg fun w' h1 h2 => hK _ _ (h w' h1 h2)

theorem step_copyC (hT : CellT P) {ops : Array Oper} {o : Oper} {a : Act} {w : World} {K : Act → World → Prop} {Q : Exit → Act → World → Prop} {E : Prop} (hgd : o.guard = none) (d s : Operand)
    (ho : o.op = .call { callee := .builtin .copy, args := #[d, s], argTypes := #[46, 46] }) (dp sp : Option Addr) (dLen dCap sLen sCap : Nat) (hd : a.eval d = .slice dp dLen dCap) (hs : a.eval s = .slice sp sLen sCap)
    (g off : Nat) (L l : List C) (hg : Row w g L) (hr : ReadC w sp l) (hl : sLen = l.length)
    (hpos : 0 < dLen → 0 < l.length → dp = some ⟨g, off * 2, none⟩) (hfit : off + min l.length dLen ≤ L.length) (B : Nat) (w0 : World) (hb : Below B w0 w) (hBg : B ≤ g)
    (h : ∀ w', Hid (Row w' g (splice L off (l.take dLen))) → Below B w0 w' → K (a.put o.dst (goInt (Nat.min sLen dLen))) w') :
    if Region.wanted o (yielded ops a.tmps) = true then Oper.wp P o a w K Q else E := by
  rw [if_pos (by simp [Region.wanted, hgd])]
  exact wp_copyC hT d s ho dp sp dLen dCap sLen sCap hd hs g off L l hg hr hl hpos hfit B w0 hb hBg h
end
end Go.Proofs.Ytpcpmeihebgncaa
