/-
  Feed of package esca: what a row of bytes comes to, byte by byte. Conditions: bytes are 0 to 255, and at most 300000; where it is is what steps from nothing make.
-/
import Derived.Test.YtgpjphecgcfikaaStepE
import Derived.Deep.DeepCutAuto
namespace Go.Proofs.Ytgpjphecgcfikaa
open Go.RowKit

def feedE (e : E) : List Int → E
  | [] => e
  | b :: bs => feedE (nxE e b).1 bs
def feedA (e : E) : List Int → List A
  | [] => []
  | b :: bs => (nxE e b).2 ++ feedA (nxE e b).1 bs
theorem feedE_app (e : E) (cs bs : List Int) : feedE e (cs ++ bs) = feedE (feedE e cs) bs := by
  induction cs generalizing e with
  | nil => rfl
  | cons a l ih => exact ih _
theorem feedA_app (e : E) (cs bs : List Int) : feedA e (cs ++ bs) = feedA e cs ++ feedA (feedE e cs) bs := by
  induction cs generalizing e with
  | nil => simp [feedA, feedE]
  | cons a l ih => simp [feedA, feedE, ih, List.append_assoc]
theorem feedE_ok (e : E) (bs : List Int) (h : e.Ok) : (feedE e bs).Ok := by
  induction bs generalizing e with
  | nil => exact h
  | cons a l ih => exact ih _ (nxE_ok e a h)
theorem feedA_len (e : E) (bs : List Int) : (feedA e bs).length ≤ 3 * bs.length := by
  induction bs generalizing e with
  | nil => simp [feedA]
  | cons a l ih =>
    have h1 := ih (nxE e a).1
    have h2 := nxE_len e a
    simp only [feedA, List.length_append, List.length_cons]
    omega

/-- A slice value v that reads as the bytes bs. -/
def ReadB (w : World) (v : Value) (bs : List Int) : Prop := ∃ D c, v = .slice D bs.length c ∧ ∀ k : Nat, k < bs.length → ∃ (b off : Nat) (z : Int), D = some ⟨b, off, none⟩ ∧ b < w.heap.size ∧ bs[k]? = some z ∧ w.cell? ⟨b, off + k, none⟩ = some (.int .u8 z) ∧ 0 ≤ z ∧ z ≤ 255

/-- Behind k bytes: s lies in block w.heap.size, the actions that came in all. -/
structure FeedAt (w : World) (e : E) (bs : List Int) (k : Nat) (all p : Value) (wr : World) : Prop where
  le : k ≤ bs.length
  box : Held wr w.heap.size 33 (escC (feedE e (bs.take k)) p)
  ans : Held wr (w.heap.size + 1) 33 #[.int .i64 0, .int .i64 0, .int .i64 0, .int .i64 0, .slice none 0 0, .int .i64 0, .bool false, .bool false]
  par : Ints wr (w.heap.size + 2) p (feedE e (bs.take k)).par
  acts : Acts wr (w.heap.size + 2) all (feedA e (bs.take k))
  below : Below w.heap.size w wr
def FeedRel (w : World) (e : E) (bs : List Int) (all i : Value) (wr : World) : Prop := ∃ (k : Nat) (p : Value), i = .int .i64 k ∧ FeedAt w e bs k all p wr

theorem Ints.moved {w w' : World} {B : Nat} {v : Value} {l : List Int} {row : Option Nat} (h : Ints w B v l) (hk : ∀ k, k < w.heap.size → some k ≠ row → w'.heap[k]? = w.heap[k]?) (hne : ∀ k, v.ownBlock = some k → some k ≠ row) : Ints w' B v l := by
  refine ⟨h.1, ?_⟩
  rcases h.2 with hn | ⟨g, cap, cur, rfl, hb, hgg, rest⟩
  · exact .inl hn
  · refine .inr ⟨g, cap, cur, rfl, hb, ?_, rest⟩
    rw [hk g (Array.getElem?_eq_some_iff.1 hgg).1 (hne g rfl)]
    exact hgg

/-- Ahead of the append of a round. -/
structure FedAt (w : World) (C : Nat) (s' : E) (l l' : List A) (p all v : Value) (wq : World) : Prop where
  box : Held wq w.heap.size 33 (escC s' p)
  ans : Held wq (w.heap.size + 1) 33 #[.int .i64 0, .int .i64 0, .int .i64 0, .int .i64 0, .slice none 0 0, .int .i64 0, .bool false, .bool false]
  par : Ints wq C p s'.par
  acts : Acts wq (w.heap.size + 2) all l
  more : Acts wq C v l'
  below : Below w.heap.size w wq

set_option maxHeartbeats 2000000 in
theorem feed_any (e : E) (bs : List Int) (p v : Value) (B : Nat) (w : World) (hp : Ints w B p e.par) (he : e.Ok) (hv : ReadB w v bs) (hn : bs.length ≤ 300000) :
    Calls Try.prog 11 #[escV e p, v] w (StepP w.heap.size w (feedE e bs) (feedA e bs)) := by
  obtain ⟨V, cv, rfl, hv⟩ := hv
  have HV := Lib.hid hv
  clear hv
  have hpl : e.par.length ≤ 1000 := by have := he.par; omega
  have hp2 : ∀ o o', Ints ((w.alloc o).alloc o') B p e.par := fun o o' => (hp.alloc o).alloc o'
  obtain ⟨D, c, rfl⟩ := ints_form hp
  have HI : Hid (∀ w, Ints w B (.slice D e.par.length c) e.par → Calls Try.prog 17 #[escV e (.slice D e.par.length c)] w (EscPost w.heap.size w e)) := fun w hp => own_any e (.slice D e.par.length c) B w hp hpl
  have HE := Lib.hid he
  clear he
  unfold escV
  go_enter Try.func11, Try.ntmps11
  go_wp2_with (
    go_at_call 17
    refine (HI.out _ (by exact hp2 _ _)).mono ?_
    rintro x w2 ⟨p2, rfl, hr2, hb2⟩
    unfold escV
    obtain ⟨D2, c2, rfl⟩ := ints_form hr2
    obtain ⟨H1, H2⟩ := two_new hb2
    have hz1 := H1.lt
    have hz2 := H2.lt
    have hr2' : Ints w2 (w.heap.size + 2) (.slice D2 e.par.length c2) e.par := hr2.base (by simp)
    have hb2' : Below w.heap.size w w2 := (below_alloc2 w _ _).trans (hb2.mono (by simp; omega))
    obtain ⟨x0, x1, x2, x3, x4, x5, x6, x7, xf⟩ := esc_cells H1)
  go_loopw [6, 15] (FeedRel w e bs) (fun _ i _ => bs.length - (intOf i).toNat)
  case atStart =>
    refine ⟨0, .slice D2 e.par.length c2, rfl, Nat.zero_le _, ?_, ?_, ?_, acts_nil _ _, ?_⟩
    · exact Held.set8 H1 _ _ _ _ _ _ _ _
    · exact Held.far8 H2 (by omega) _ _ _ _ _ _ _ _
    · exact Ints.setlo8 hr2' (by omega) _ _ _ _ _ _ _ _
    · exact below_set8 hb2' (Nat.le_refl _) _ _ _ _ _ _ _ _
  case round =>
    clear x0 x1 x2 x3 x4 x5 x6 x7 xf H1 H2 hr2 hr2' hb2 hb2' hz1 hz2
    obtain ⟨k, q, rfl, hle, hQ, hR, hq, hac, hbr⟩ := hrel
    have hz := hbr.size
    have hz1 := hQ.lt
    have hz2 := hR.lt
    by_cases hlt : k < bs.length
    · have hki : (k : Int) < (bs.length : Int) := by omega
      obtain ⟨vb, vo, z, rfl, hvb, hzk, hcell, hz0, hz255⟩ := HV.out k hlt
      have hcell' : wr.cell? ⟨vb, vo + k, none⟩ = some (.int .u8 z) := (hbr.cell (p := ⟨vb, vo + k, none⟩) hvb).trans hcell
      clear hcell
      have hlen := feedA_len e (bs.take k)
      have hlt' := List.length_take_le k bs
      have hok := feedE_ok e (bs.take k) HE.out
      have hsnE : Hid (feedE e (bs.take (k + 1)) = (nxE (feedE e (bs.take k)) z).1) := by
        show feedE e (bs.take (k + 1)) = _
        rw [List.take_add_one, hzk, feedE_app]
        rfl
      have hsnA : Hid (feedA e (bs.take (k + 1)) = feedA e (bs.take k) ++ (nxE (feedE e (bs.take k)) z).2) := by
        show feedA e (bs.take (k + 1)) = _
        rw [List.take_add_one, hzk, feedA_app]
        simp [feedA]
      obtain ⟨s, hs⟩ : ∃ s, s = feedE e (bs.take k) := ⟨_, rfl⟩
      obtain ⟨l, hl⟩ : ∃ l, l = feedA e (bs.take k) := ⟨_, rfl⟩
      rw [← hs] at hQ hq hok hsnE hsnA
      rw [← hl] at hac hlen hsnA
      clear hs hl
      have HS : Hid (∀ q C w, Ints w C q s.par → Calls Try.prog 18 #[escV s q, .int .u8 z] w (StepP w.heap.size w (nxE s z).1 (nxE s z).2)) := fun q C w h => stepE_any s z q C w h hok hz0 hz255
      have hl' := nxE_len s z
      obtain ⟨s', hs'⟩ : ∃ s', s' = (nxE s z).1 := ⟨_, rfl⟩
      obtain ⟨l', hl''⟩ : ∃ l', l' = (nxE s z).2 := ⟨_, rfl⟩
      rw [← hs'] at hsnE HS
      rw [← hl''] at hsnA hl' HS
      clear hs' hl'' hok
      obtain ⟨Dq, cq, rfl⟩ := ints_form hq
      unfold escC at hQ
      obtain ⟨x0, x1, x2, x3, x4, x5, x6, x7, xf⟩ := esc_cells hQ
      go_upto_region 6 with fail
      go_upto_region 7 with (
        go_at_call 18
        refine (HS.out _ (w.heap.size + 2) _ (by exact hq)).mono ?_
        rintro x w3 ⟨p3, v3, rfl, hr3, ha3, hb3⟩
        unfold escV
        obtain ⟨D3, c3, rfl⟩ := ints_form hr3
        have hQ3 := hQ.below hb3 hz1
        have hR3 := hR.below hb3 hz2
        have hz3 := hQ3.lt
        have hz4 := hb3.size
        obtain ⟨y0, y1, y2, y3, y4, y5, y6, y7, yf⟩ := esc_cells hQ3)
      go_upto_region 8 with fail
      refine wp_world (FedAt w wr.heap.size s' l l' (.slice D3 s'.par.length c3) u6 v3) ⟨?_, ?_, ?_, ?_, ?_, ?_⟩ ?_
      · exact (Held.set8 hQ3 _ _ _ _ _ _ _ _).alloc _
      · exact (Held.far8 hR3 (by omega) _ _ _ _ _ _ _ _).alloc _
      · exact (Ints.setlo8 hr3 hz1 _ _ _ _ _ _ _ _).alloc _
      · exact (Acts.setlo8 (hac.below hb3 (Nat.le_refl _)) (by omega) _ _ _ _ _ _ _ _).alloc _
      · exact (Acts.setlo8 ha3 hz1 _ _ _ _ _ _ _ _).alloc _
      · exact (below_set8 (hbr.trans (hb3.mono hz)) (Nat.le_refl _) _ _ _ _ _ _ _ _).alloc (by simp; omega) _
      rintro wq ⟨hQ4, hR4, hq4, hac4, ha4, hbq⟩
      have hold : ∀ k, u6.ownBlock = some k → k < wr.heap.size := fun k hk => (acts_lt hac k hk).2
      clear x0 x1 x2 x3 x4 x5 x6 x7 xf y0 y1 y2 y3 y4 y5 y6 y7 yf hQ3 hR3 hr3 ha3 hb3
      have hzq := hQ4.lt
      have hzq2 := hR4.lt
      go_wp2_with (
        refine wpList_append_acts _ (by rfl) _ _ (by rfl) (w.heap.size + 2) wr.heap.size u6 v3 l l' (by rfl) (by rfl) (by exact hac4) (by exact ha4) (by omega) (by exact hold) (by omega) (by omega) ?_
        intro v5 w5 hap)
      go_roundw
      case rel =>
        refine ⟨k + 1, .slice D3 s'.par.length c3, by go_num, by omega, ?_, ?_, ?_, ?_, ?_⟩
        · rw [hsnE.out]
          exact hQ4.below hap.below (by omega)
        · exact hR4.below hap.below (by omega)
        · rw [hsnE.out]
          refine Ints.base (B := wr.heap.size) ?_ (by omega)
          refine hq4.moved hap.block fun j hj he => ?_
          have h1 := (World.ownsRow.lt hq4 j hj).1
          have h2 := hold j he.symm
          omega
        · rw [hsnA.out]
          exact hap.acts
        · exact hbq.trans (hap.below.mono (by omega))
      case measure => simp [intOf]; omega
    · have ek : k = bs.length := by omega
      subst ek
      rw [List.take_length] at hQ hq hac
      obtain ⟨s', hs'⟩ : ∃ s', s' = feedE e bs := ⟨_, rfl⟩
      obtain ⟨l', hl'⟩ : ∃ l', l' = feedA e bs := ⟨_, rfl⟩
      have HS1 := Lib.hid hs'
      have HS2 := Lib.hid hl'
      rw [← hs'] at hQ hq
      rw [← hl'] at hac
      clear hs' hl'
      obtain ⟨Dq, cq, rfl⟩ := ints_form hq
      unfold escC at hQ
      obtain ⟨x0, x1, x2, x3, x4, x5, x6, x7, xf⟩ := esc_cells hQ
      obtain ⟨y0, y1, y2, y3, y4, y5, y6, y7, yf⟩ := esc_cells hR
      go_wp2_with fail
      have e1 := HS1.out
      have e2 := HS2.out
      clear HS1 HS2
      rw [← e1, ← e2]
      refine bodyPost_ret (v := .tuple #[escV s' (.slice Dq s'.par.length cq), u6]) (by simp [results, Try.results11, go_sem, escV, y0, y1, y2, y3, y4, y5, y6, y7]) rfl ⟨_, _, rfl, ?_, ?_, ?_⟩
      · exact (Ints.setlo8 hq (by omega) _ _ _ _ _ _ _ _).base (by omega)
      · exact (Acts.setlo8 hac (by omega) _ _ _ _ _ _ _ _).base (by omega)
      · exact below_set8 hbr (by omega) _ _ _ _ _ _ _ _
end Go.Proofs.Ytgpjphecgcfikaa
