/-
  A region that draws its order, by what holds whichever of its operations have come up: one step for each operation, whatever the order.
-/
import Derived.Test.YtgpjphecgcfikaaStrs
import Derived.RegionTactic
import Derived.Eval
namespace Go.Proofs.Ytgpjphecgcfikaa
open Go.RowKit

theorem count_set (l : List Bool) (i : Nat) (h : l[i]? = some false) : (l.set i true).count false + 1 = l.count false := by
  induction l generalizing i with
  | nil => simp at h
  | cons b l ih =>
    cases i with
    | zero =>
      simp only [List.getElem?_cons_zero, Option.some.injEq] at h
      subst h
      simp
    | succ i =>
      simp only [List.getElem?_cons_succ] at h
      have := ih i h
      simp only [List.set_cons_succ, List.count_cons]
      omega
theorem getD_some {listed : Array Bool} {i : Nat} (h : listed.getD i true = false) : listed.toList[i]? = some false := by
  have : listed[i]? = some false := by
    rw [Array.getD_eq_getD_getElem?] at h
    cases hh : listed[i]? with
    | none => simp [hh] at h
    | some b => simp [hh] at h; rw [h]
  simpa using this

section
variable {P : Program} {ops : Array Oper} {Q : Exit → Act → World → Prop}
/-- Operation i may come up. -/
def MayCome (ops : Array Oper) (listed : Array Bool) (i : Nat) (o : Oper) : Prop := ops[i]? = some o ∧ listed.getD i true = false ∧ ∀ e ∈ o.after, Region.binds .any e = true → listed.getD e.on false = true
theorem wpAny_inv (I : Array Bool → Act → World → Prop)
    (hstep : ∀ listed a w, I listed a w → ∀ i o, MayCome ops listed i o → wpOp P ops Q i (fun a' w' => I (listed.setIfInBounds i true) a' w') a w)
    (hend : ∀ listed a w, I listed a w → (∀ i o, ¬ MayCome ops listed i o) → Q .normal a w) :
    ∀ (fuel : Nat) (listed : Array Bool) (a : Act) (w : World), listed.toList.count false ≤ fuel → I listed a w → wpAny P .any ops Q fuel listed a w := by
  have none_ready : ∀ listed, (∀ i o, ¬ MayCome ops listed i o) → Region.ready .any ops listed = [] := by
    intro listed h
    cases hr : Region.ready .any ops listed with
    | nil => rfl
    | cons j rs =>
      have hj : j ∈ Region.ready .any ops listed := by rw [hr]; exact List.mem_cons_self
      obtain ⟨h1, o, h2, h3⟩ := mem_ready.1 hj
      exact absurd ⟨h2, h1, h3⟩ (h j o)
  have ready_none : ∀ listed, Region.ready .any ops listed = [] → ∀ i o, ¬ MayCome ops listed i o := by
    intro listed h i o ⟨h1, h2, h3⟩
    have : i ∈ Region.ready .any ops listed := mem_ready.2 ⟨h2, o, h1, h3⟩
    rw [h] at this
    cases this
  intro fuel
  induction fuel with
  | zero =>
    intro listed a w hc hI
    have hno : ∀ i o, ¬ MayCome ops listed i o := by
      intro i o ⟨_, h2, _⟩
      have h3 := count_set listed.toList i (getD_some h2)
      omega
    exact ⟨none_ready listed hno, hend listed a w hI hno⟩
  | succ fuel ih =>
    intro listed a w hc hI
    refine ⟨fun h => hend listed a w hI (ready_none listed h), fun i hi => ?_⟩
    obtain ⟨h1, o, h2, h3⟩ := mem_ready.1 hi
    refine wpOp_mono (fun a' w' h' => ih _ a' w' ?_ h') (hstep listed a w hI i o ⟨h2, h1, h3⟩)
    have h4 := count_set listed.toList i (getD_some h1)
    have h5 : (listed.setIfInBounds i true).toList = listed.toList.set i true := by simp
    rw [h5]
    omega
theorem wp_region_inv {id : Nat} {a : Act} {w : World} (hm : P.follows .mixedOrders = true) (I : Array Bool → Act → World → Prop)
    (h0 : I (Array.replicate ops.size false) a w.drew)
    (hstep : ∀ listed a w, I listed a w → ∀ i o, MayCome ops listed i o → wpOp P ops Q i (fun a' w' => I (listed.setIfInBounds i true) a' w') a w)
    (hend : ∀ listed a w, I listed a w → (∀ i o, ¬ MayCome ops listed i o) → Q .normal a w) : (Code.region id ops true).wp P Q a w := by
  refine wp_region_any hm (wpAny_inv I hstep hend ops.size _ a _ ?_ h0)
  simp
end

theorem wpOp_val {P : Program} {ops : Array Oper} {Q : Exit → Act → World → Prop} {i : Nat} {o : Oper} {K : Act → World → Prop} {a : Act} {w w' : World} {v : Value} (ho : ops[i]? = some o) (hg : o.guard = none)
    (hr : (execOp a.eval o).run P w = .ok (.value v) w') (hk : K (a.put o.dst v) w') : wpOp P ops Q i K a w := by
  refine wpOp_step ho fun K' hK => ?_
  rw [if_pos (by simp [Region.wanted, hg])]
  unfold Oper.wp
  rw [hr]
  exact hK _ _ hk
theorem wpOp_skip {P : Program} {ops : Array Oper} {Q : Exit → Act → World → Prop} {i : Nat} {o : Oper} {K : Act → World → Prop} {a : Act} {w w' : World} (ho : ops[i]? = some o) (hg : o.guard = none) (hd : o.dst = none)
    (hr : (execOp a.eval o).run P w = .ok .skip w') (hk : K a w') : wpOp P ops Q i K a w := by
  refine wpOp_step ho fun K' hK => ?_
  rw [if_pos (by simp [Region.wanted, hg])]
  unfold Oper.wp
  rw [hr]
  show K' (a.put o.dst undef) w'
  rw [hd]
  exact hK _ _ hk
theorem wpOp_call {P : Program} {ops : Array Oper} {Q : Exit → Act → World → Prop} {i : Nat} {o : Oper} {K : Act → World → Prop} {a : Act} {w : World} {fn : FuncId} {args : Array Value} (ho : ops[i]? = some o) (hg : o.guard = none)
    (hr : (execOp a.eval o).run P w = .ok (.enter fn args) w) (hk : Calls P fn args w fun x w' => ∃ v, x = .returned v ∧ K (a.put o.dst v) w') : wpOp P ops Q i K a w := by
  refine wpOp_step ho fun K' hK => ?_
  rw [if_pos (by simp [Region.wanted, hg])]
  unfold Oper.wp
  rw [hr]
  refine hk.mono ?_
  rintro x w' ⟨v, rfl, h⟩
  exact hK _ _ h

/-! ### slots that are put one behind the other -/
def putL (a : Act) : List Nat → (Nat → Value) → Act
  | [], _ => a
  | d :: ds, f => putL (a.put (some d) (f d)) ds f
def upd (f : Nat → Value) (d : Nat) (v : Value) : Nat → Value := fun e => if e = d then v else f e
theorem putL_size (ds : List Nat) (f : Nat → Value) : ∀ a : Act, (putL a ds f).tmps.size = a.tmps.size := by
  induction ds with
  | nil => intro a; rfl
  | cons d ds ih => intro a; show (putL (a.put (some d) (f d)) ds f).tmps.size = _; rw [ih]; simp [Act.put]
theorem eval_put (a : Act) (d e : Nat) (v : Value) (hd : d < a.tmps.size) : (a.put (some d) v).eval (.tmp e) = if e = d then v else a.eval (.tmp e) := by
  simp only [Act.put, Act.eval, Array.getD_eq_getD_getElem?, Array.getElem?_setIfInBounds]
  by_cases h : e = d
  · subst h; simp [hd]
  · simp [h, Ne.symm h]
theorem putL_eval_out (ds : List Nat) (f : Nat → Value) (e : Nat) (h : e ∉ ds) : ∀ a : Act, (∀ d ∈ ds, d < a.tmps.size) → (putL a ds f).eval (.tmp e) = a.eval (.tmp e) := by
  induction ds with
  | nil => intro a _; rfl
  | cons d ds ih =>
    intro a hb
    simp only [List.mem_cons, not_or] at h
    show (putL (a.put (some d) (f d)) ds f).eval (.tmp e) = _
    rw [ih h.2 _ (by intro x hx; simp only [Act.put, Array.size_setIfInBounds]; exact hb x (List.mem_cons_of_mem _ hx)), eval_put a d e _ (hb d List.mem_cons_self), if_neg h.1]
theorem putL_eval_in (ds : List Nat) (f : Nat → Value) (e : Nat) (h : e ∈ ds) : ∀ a : Act, (∀ d ∈ ds, d < a.tmps.size) → (putL a ds f).eval (.tmp e) = f e := by
  induction ds with
  | nil => cases h
  | cons d ds ih =>
    intro a hb
    show (putL (a.put (some d) (f d)) ds f).eval (.tmp e) = _
    have hb' : ∀ x ∈ ds, x < (a.put (some d) (f d)).tmps.size := by intro x hx; simp only [Act.put, Array.size_setIfInBounds]; exact hb x (List.mem_cons_of_mem _ hx)
    by_cases he : e ∈ ds
    · exact ih he _ hb'
    · rw [putL_eval_out ds f e he _ hb', eval_put a d e _ (hb d List.mem_cons_self)]
      rcases List.mem_cons.1 h with rfl | h
      · rw [if_pos rfl]
      · exact absurd h he
theorem put_put (a : Act) (d : Nat) (u v : Value) : (a.put (some d) u).put (some d) v = a.put (some d) v := by
  simp only [Act.put, Act.mk.injEq, and_true]
  apply Array.ext_getElem?
  intro i
  simp only [Array.getElem?_setIfInBounds, Array.size_setIfInBounds]
  split <;> simp_all
theorem put_swap (a : Act) (d e : Nat) (u v : Value) (h : d ≠ e) : (a.put (some d) u).put (some e) v = (a.put (some e) v).put (some d) u := by
  simp only [Act.put, Act.mk.injEq, and_true]
  apply Array.ext_getElem?
  intro i
  simp only [Array.getElem?_setIfInBounds, Array.size_setIfInBounds]
  by_cases h1 : d = i <;> by_cases h2 : e = i <;> simp_all
theorem putL_put_out (ds : List Nat) (f : Nat → Value) (d : Nat) (v : Value) (h : d ∉ ds) : ∀ a : Act, (putL a ds f).put (some d) v = putL (a.put (some d) v) ds f := by
  induction ds with
  | nil => intro a; rfl
  | cons e ds ih =>
    intro a
    simp only [List.mem_cons, not_or] at h
    show (putL (a.put (some e) (f e)) ds f).put (some d) v = putL ((a.put (some d) v).put (some e) (f e)) ds f
    rw [ih h.2, put_swap a e d _ _ (Ne.symm h.1)]
theorem putL_congr (ds : List Nat) (f g : Nat → Value) (h : ∀ d ∈ ds, f d = g d) : ∀ a : Act, putL a ds f = putL a ds g := by
  induction ds with
  | nil => intro a; rfl
  | cons d ds ih =>
    intro a
    show putL (a.put (some d) (f d)) ds f = putL (a.put (some d) (g d)) ds g
    rw [h d List.mem_cons_self]
    exact ih (fun x hx => h x (List.mem_cons_of_mem _ hx)) _
theorem putL_put (ds : List Nat) (f : Nat → Value) (d : Nat) (v : Value) (hn : ds.Nodup) (h : d ∈ ds) : ∀ a : Act, (putL a ds f).put (some d) v = putL a ds (upd f d v) := by
  induction ds with
  | nil => cases h
  | cons e ds ih =>
    intro a
    obtain ⟨h1, h2⟩ := List.nodup_cons.1 hn
    show (putL (a.put (some e) (f e)) ds f).put (some d) v = putL (a.put (some e) (upd f d v e)) ds (upd f d v)
    by_cases hde : d = e
    · subst hde
      rw [putL_put_out ds f d v h1, put_put]
      have e1 : upd f d v d = v := by simp [upd]
      rw [e1]
      exact putL_congr ds _ _ (fun x hx => by simp only [upd]; rw [if_neg]; intro hx2; subst hx2; exact h1 hx) _
    · have hd : d ∈ ds := (List.mem_cons.1 h).resolve_left hde
      have e1 : upd f d v e = f e := by simp [upd, Ne.symm hde]
      rw [ih h2 hd, e1]
theorem putL_self (ds : List Nat) (a : Act) (hb : ∀ d ∈ ds, d < a.tmps.size) : putL a ds (fun d => a.eval (.tmp d)) = a := by
  have key : ∀ (ds : List Nat) (b : Act), b = a → (∀ d ∈ ds, d < a.tmps.size) → putL b ds (fun d => a.eval (.tmp d)) = a := by
    intro ds
    induction ds with
    | nil => intro b hb _; exact hb
    | cons d ds ih =>
      intro b hb hlt
      refine ih _ ?_ (fun x hx => hlt x (List.mem_cons_of_mem _ hx))
      subst hb
      cases b with
      | mk t df =>
        simp only [Act.put, Act.eval, Act.mk.injEq, and_true]
        apply Array.ext_getElem?
        intro i
        have hd := hlt d List.mem_cons_self
        simp only [Array.getElem?_setIfInBounds]
        by_cases h : d = i
        · subst h
          rw [if_pos rfl]
          simp at hd
          simp [hd]
        · simp [h]
  exact key ds a rfl hb
theorem wp_act {P : Program} {c : Code} {Q : Exit → Act → World → Prop} {a : Act} {w : World} (R : Act → Prop) (h : R a) (k : ∀ a0, R a0 → a0 = a → Code.wp P c Q a0 w) : Code.wp P c Q a w := k a h rfl
theorem wp_region_slots {P : Program} {ops : Array Oper} {Q : Exit → Act → World → Prop} {id : Nat} {a : Act} {w : World} (hm : P.follows .mixedOrders = true) (F : Array Bool → (Nat → Value) → World → Prop) (ds : List Nat) (hb : ∀ d ∈ ds, d < a.tmps.size)
    (h0 : F (Array.replicate ops.size false) (fun d => a.eval (.tmp d)) w.drew)
    (hstep : ∀ L f w, F L f w → ∀ i o, MayCome ops L i o → wpOp P ops Q i (fun a' w' => ∃ f', a' = putL a ds f' ∧ F (L.setIfInBounds i true) f' w') (putL a ds f) w)
    (hend : ∀ L f w, F L f w → (∀ i o, ¬ MayCome ops L i o) → Q .normal (putL a ds f) w) : (Code.region id ops true).wp P Q a w :=
  wp_region_inv hm (fun L a' w => ∃ f, a' = putL a ds f ∧ F L f w) ⟨_, (putL_self ds a hb).symm, h0⟩
    (fun L a' w hI i o hmc => by obtain ⟨f, rfl, hF⟩ := hI; exact hstep L f w hF i o hmc)
    (fun L a' w hI hno => by obtain ⟨f, rfl, hF⟩ := hI; exact hend L f w hF hno)
end Go.Proofs.Ytgpjphecgcfikaa
