/-
  What endOf of tree answers, of any row of nodes, and of a tree. Conditions: rows of at most a thousand nodes.
-/
import Derived.Test.YtojgmofpgefonaaA2
namespace Go.Proofs.Ytojgmofpgefonaa
open Go.RowKit
set_option linter.unusedSimpArgs false

theorem NB.new (w : World) (p d f a b : Int) : NB (w.alloc (.cells #[.int .i64 p, .int .i64 d, .int .i64 f, .int .i64 a, .int .i64 b] 23)) w.heap.size ⟨p, d, f, a, b⟩ := Held.new _ _ _
theorem below_new (w : World) (o : Obj) : Below w.heap.size w (w.alloc o) := (Below.refl _ _).alloc (Nat.le_refl _) _

set_option maxHeartbeats 1000000 in
theorem endOf_any (k : Nat) : ∀ (l : List N) (D : Option Addr) (c i B : Nat) (w : World), TabAt B w D (EN.flat l) → l.length ≤ 1000 → l.length < i + k → i ≤ 1000 →
    Calls Try.prog 28 #[.slice D l.length c, .int .i64 i] w (New (endV (endF k l i)) w) := by
  induction k with
  | zero =>
    intro l D c i B w h hl hk hi
    have hi' : (i : Int) ≥ (l.length : Int) := by omega
    go_enter Try.func28, Try.ntmps28
    go_wp2_with fail
    exact bodyPost_ret (v := .tuple #[.int .i64 0, .bool false]) (by simp [results, Try.results28, go_sem]) rfl ⟨rfl, Below.refl _ _⟩
  | succ k ih =>
    intro l D c i B w h hl hk hi
    by_cases hge : l.length ≤ i
    · have hi' : (i : Int) ≥ (l.length : Int) := by omega
      have e : endF (k + 1) l i = none := by unfold endF; rw [List.getElem?_eq_none hge]
      rw [e]
      go_enter Try.func28, Try.ntmps28
      go_wp2_with fail
      exact bodyPost_ret (v := .tuple #[.int .i64 0, .bool false]) (by simp [results, Try.results28, go_sem]) rfl ⟨rfl, Below.refl _ _⟩
    · have hlt : i < l.length := by omega
      have hi' : ¬ (i : Int) ≥ (l.length : Int) := by omega
      have hi2 : (i : Int) < (l.length : Int) := by omega
      obtain ⟨n, hn⟩ : ∃ n, l[i]? = some n := ⟨_, List.getElem?_eq_getElem hlt⟩
      obtain ⟨b, off, rfl, h1, h2, h3, c0, c1, c2, c3, c4⟩ := node_at h i _ hn
      have IH := Lib.hid (fun w' j c hb hj hj2 => ih l _ c j B w' (h.below (C := w.heap.size) hb (Nat.le_refl _)) hl hj hj2)
      have e : endF (k + 1) l i = if isLeafF n = true then some (i + 1)
        else if isForkF n = true ∧ n.a = ((i + 1 : Nat) : Int) then
          match endF k l (i + 1) with
          | none => none
          | some e => if n.b = (e : Int) then endF k l e else none
        else none := by
        conv => lhs; unfold endF
        rw [hn]
        rfl
      have EG := Lib.hid (fun e h => endF_gt (k := k) (l := l) (i := i + 1) (e := e) h)
      rw [e]
      clear e ih h hn
      have HL := Lib.hid (isLeaf_any n)
      have HF := Lib.hid (isFork_any n)
      obtain ⟨p, d, f, a, bb⟩ := n
      dsimp only at c0 c1 c2 c3 c4
      unfold nv at HL HF
      dsimp only at HL HF ⊢
      generalize isLeafF ⟨p, d, f, a, bb⟩ = il at *
      generalize isForkF ⟨p, d, f, a, bb⟩ = ik at *
      have M0 := Lib.hid (NB.new w p d f a bb)
      have B0 := Lib.hid (below_new w (.cells #[.int .i64 p, .int .i64 d, .int .i64 f, .int .i64 a, .int .i64 bb] 23))
      cases il with
      | true =>
        rw [if_pos rfl]
        go_enter Try.func28, Try.ntmps28
        go_wp2_with fail
        refine (HL.out _).mono ?_
        rintro e w2 ⟨rfl, hb⟩
        have hb2 := B0.out.trans (hb.mono (by simp))
        go_wp2_with fail
        exact bodyPost_ret (v := endV (some (i + 1))) (by simp [results, Try.results28, go_sem, endV]) rfl ⟨rfl, hb2⟩
      | false =>
        rw [if_neg (by simp)]
        by_cases hc : ik = true ∧ a = ((i + 1 : Nat) : Int)
        · rw [if_pos hc]
          obtain ⟨rfl, rfl⟩ := hc
          have I1 := Lib.hid (fun w' hb => IH.out w' (i + 1) c hb (by omega) (by omega))
          have I2 := Lib.hid (fun w' e hb he hl => IH.out w' e c hb (by have := (EG.out e he).1; omega) hl)
          have hai : ((i + 1 : Nat) : Int) = (i : Int) + 1 := by omega
          rw [hai] at I1
          cases he : endF k l (i + 1) with
          | none =>
            rw [he] at I1
            dsimp only
            unfold endV at I1
            simp only [Option.getD_none, Option.isSome_none, Int.natCast_zero] at I1
            clear I2 EG IH he
            go_enter Try.func28, Try.ntmps28
            go_wp2_with fail
            refine (HL.out _).mono ?_
            rintro e w2 ⟨rfl, hb⟩
            have m2 := NB.below M0.out hb (by simp)
            have hb2 := B0.out.trans (hb.mono (by simp))
            clear c0 c1 c2 c3 c4
            obtain ⟨n0, n1, n2, n3, n4⟩ := m2.cells
            dsimp only at n0 n1 n2 n3 n4
            go_wp2_with fail
            refine (HF.out _).mono ?_
            rintro e w3 ⟨rfl, hb3⟩
            have hs := Held.lt m2
            have m3 := NB.below m2 hb3 hs
            have hb4 := hb2.trans (hb3.mono hb2.size)
            clear n0 n1 n2 n3 n4
            obtain ⟨n0, n1, n2, n3, n4⟩ := m3.cells
            dsimp only at n0 n1 n2 n3 n4
            go_wp2_with fail
            refine (I1.out _ hb4).mono ?_
            rintro e w4 ⟨rfl, hb5⟩
            have hb6 := hb4.trans (hb5.mono hb4.size)
            go_wp2_with fail
            exact bodyPost_ret (v := endV none) (by simp [results, Try.results28, go_sem, endV]) rfl ⟨rfl, hb6⟩
          | some e =>
            rw [he] at I1
            dsimp only
            unfold endV at I1
            simp only [Option.getD_some, Option.isSome_some] at I1
            have hel := EG.out e he
            have J2 := Lib.hid (fun w' hb => I2.out w' e hb he (by omega))
            clear I2 EG IH he
            by_cases hbe : bb = (e : Int)
            · rw [if_pos hbe]
              subst hbe
              generalize endF k l e = oo at *
              unfold endV at J2 ⊢
              go_enter Try.func28, Try.ntmps28
              go_wp2_with fail
              refine (HL.out _).mono ?_
              rintro x w2 ⟨rfl, hb⟩
              have m2 := NB.below M0.out hb (by simp)
              have hb2 := B0.out.trans (hb.mono (by simp))
              clear c0 c1 c2 c3 c4
              obtain ⟨n0, n1, n2, n3, n4⟩ := m2.cells
              dsimp only at n0 n1 n2 n3 n4
              go_wp2_with fail
              refine (HF.out _).mono ?_
              rintro x w3 ⟨rfl, hb3⟩
              have hs := Held.lt m2
              have m3 := NB.below m2 hb3 hs
              have hb4 := hb2.trans (hb3.mono hb2.size)
              clear n0 n1 n2 n3 n4
              obtain ⟨n0, n1, n2, n3, n4⟩ := m3.cells
              dsimp only at n0 n1 n2 n3 n4
              go_wp2_with fail
              refine (I1.out _ hb4).mono ?_
              rintro x w4 ⟨rfl, hb5⟩
              have hs3 := Held.lt m3
              have m4 := NB.below m3 hb5 hs3
              have hb6 := hb4.trans (hb5.mono hb4.size)
              clear n0 n1 n2 n3 n4
              obtain ⟨n0, n1, n2, n3, n4⟩ := m4.cells
              dsimp only at n0 n1 n2 n3 n4
              go_wp2_with fail
              refine (J2.out _ hb6).mono ?_
              rintro x w5 ⟨rfl, hb7⟩
              have hb8 := hb6.trans (hb7.mono hb6.size)
              go_wp2_with fail
              exact bodyPost_ret (v := endV oo) (by simp [results, Try.results28, go_sem, endV]) rfl ⟨rfl, hb8⟩
            · rw [if_neg hbe]
              clear J2
              go_enter Try.func28, Try.ntmps28
              go_wp2_with fail
              refine (HL.out _).mono ?_
              rintro x w2 ⟨rfl, hb⟩
              have m2 := NB.below M0.out hb (by simp)
              have hb2 := B0.out.trans (hb.mono (by simp))
              clear c0 c1 c2 c3 c4
              obtain ⟨n0, n1, n2, n3, n4⟩ := m2.cells
              dsimp only at n0 n1 n2 n3 n4
              go_wp2_with fail
              refine (HF.out _).mono ?_
              rintro x w3 ⟨rfl, hb3⟩
              have hs := Held.lt m2
              have m3 := NB.below m2 hb3 hs
              have hb4 := hb2.trans (hb3.mono hb2.size)
              clear n0 n1 n2 n3 n4
              obtain ⟨n0, n1, n2, n3, n4⟩ := m3.cells
              dsimp only at n0 n1 n2 n3 n4
              go_wp2_with fail
              refine (I1.out _ hb4).mono ?_
              rintro x w4 ⟨rfl, hb5⟩
              have hs3 := Held.lt m3
              have m4 := NB.below m3 hb5 hs3
              have hb6 := hb4.trans (hb5.mono hb4.size)
              clear n0 n1 n2 n3 n4
              obtain ⟨n0, n1, n2, n3, n4⟩ := m4.cells
              dsimp only at n0 n1 n2 n3 n4
              have hbe2 : (bb != (e : Int)) = true := by simpa using hbe
              go_wp2_with fail
              exact bodyPost_ret (v := endV none) (by simp [results, Try.results28, go_sem, endV]) rfl ⟨rfl, hb6⟩
        · rw [if_neg hc]

          have hc2 : (!ik || (a != (i : Int) + 1)) = true := by
            rw [Bool.or_eq_true]
            cases ik with
            | false => exact .inl rfl
            | true => right; simp at hc ⊢; omega
          cases ik with
          | false =>
            go_enter Try.func28, Try.ntmps28
            go_wp2_with fail
            refine (HL.out _).mono ?_
            rintro x w2 ⟨rfl, hb⟩
            have m2 := NB.below M0.out hb (by simp)
            have hb2 := B0.out.trans (hb.mono (by simp))
            clear c0 c1 c2 c3 c4
            obtain ⟨n0, n1, n2, n3, n4⟩ := m2.cells
            dsimp only at n0 n1 n2 n3 n4
            go_wp2_with fail
            refine (HF.out _).mono ?_
            rintro x w3 ⟨rfl, hb3⟩
            have hb4 := hb2.trans (hb3.mono hb2.size)
            go_wp2_with fail
            exact bodyPost_ret (v := endV none) (by simp [results, Try.results28, go_sem, endV]) rfl ⟨rfl, hb4⟩
          | true =>
            have hc3 : (a != (i : Int) + 1) = true := by simpa using hc2
            go_enter Try.func28, Try.ntmps28
            go_wp2_with fail
            refine (HL.out _).mono ?_
            rintro x w2 ⟨rfl, hb⟩
            have m2 := NB.below M0.out hb (by simp)
            have hb2 := B0.out.trans (hb.mono (by simp))
            clear c0 c1 c2 c3 c4
            obtain ⟨n0, n1, n2, n3, n4⟩ := m2.cells
            dsimp only at n0 n1 n2 n3 n4
            go_wp2_with fail
            refine (HF.out _).mono ?_
            rintro x w3 ⟨rfl, hb3⟩
            have hs := Held.lt m2
            have m3 := NB.below m2 hb3 hs
            have hb4 := hb2.trans (hb3.mono hb2.size)
            clear n0 n1 n2 n3 n4
            obtain ⟨n0, n1, n2, n3, n4⟩ := m3.cells
            dsimp only at n0 n1 n2 n3 n4
            go_wp2_with fail
            exact bodyPost_ret (v := endV none) (by simp [results, Try.results28, go_sem, endV]) rfl ⟨rfl, hb4⟩

theorem endF_tree (t : T) : ∀ (k : Nat) (l : List N) (i : Nat), t.At l i → t.ok → t.size ≤ k → endF k l i = some (i + t.size) := by
  induction t with
  | leaf p =>
    intro k l i ha ho hk
    obtain ⟨k, rfl⟩ : ∃ j, k = j + 1 := ⟨k - 1, by simp [T.size] at hk; omega⟩
    have ha' : l[i]? = some (leafN p) := ha
    have hp : 0 < p := ho
    unfold endF
    simp [ha', isLeafF, leafN, hp, T.size]
  | fork d f x y hx hy =>
    intro k l i ha ho hk
    obtain ⟨k, rfl⟩ : ∃ j, k = j + 1 := ⟨k - 1, by simp [T.size] at hk; omega⟩
    simp only [T.size] at hk
    have e1 := hx k l (i + 1) ha.2.1 ho.2.2.2.1 (by omega)
    have e2 := hy k l (i + 1 + x.size) ha.2.2 ho.2.2.2.2 (by omega)
    have hd : (d = 1 ∨ d = 2) := ho.1
    have f1 := ho.2.1
    have f2 := ho.2.2.1
    unfold endF
    rw [ha.1]
    have il : isLeafF (T.forkN d f i x) = false := by unfold isLeafF T.forkN; rfl
    have ik : isForkF (T.forkN d f i x) = true := by rcases hd with rfl | rfl <;> simp [isForkF, T.forkN, f1, f2]
    dsimp only
    rw [if_neg (by rw [il]; simp), if_pos ⟨ik, rfl⟩, e1]
    dsimp only
    rw [if_pos (by rfl), e2]
    simp only [T.size, Option.some.injEq]
    omega
end Go.Proofs.Ytojgmofpgefonaa
