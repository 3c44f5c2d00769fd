/-
  The walk of RowsForms. Conditions: none.
-/
import Derived.Test.YtpmioibgbknphaaTab
namespace Go.Proofs.Ytpmioibgbknphaa
open Go.RowKit

def FormsRel (w1 : World) (l : List C) (s i : Value) (wr : World) : Prop := ∃ j : Nat, i = .int .i64 j ∧ j ≤ l.length ∧ s = .string (text (l.take j)) ∧ Below w1.heap.size w1 wr
/-- The table is laid; what stands at its place k. -/
def TabRel (w : World) (k : Nat) (v : Value) (w' : World) : Prop :=
  ∃ (T g n : Nat) (l : List C) (s : ByteArray), v = .slice (some ⟨T, 0, none⟩) 20 20 ∧ w'.cell? ⟨T, k * 2, none⟩ = some (.slice (some ⟨g, 0, none⟩) n n) ∧ w'.cell? ⟨T, k * 2 + 1, none⟩ = some (.string s) ∧ Row w' g l ∧ l.length = n ∧ n ≤ 7 ∧ text l = s ∧
    (∀ c ∈ l, 32 ≤ c.r ∧ c.r ≤ 126) ∧ Below w.heap.size w w'
theorem tab_rel {w w' : World} {k : Nat} {tab : Array Value} {rows : List (Nat × List C)} (T : Nat) (hT : Held w' T 26 tab) (hs : St w w' rows) (ha : At tab rows k) : TabRel w k (.slice (some ⟨T, 0, none⟩) 20 20) w' := by
  obtain ⟨g, n, l, s, e0, e1, hm, hln, hn7, htx, hsm⟩ := ha
  exact ⟨T, g, n, l, s, rfl, (hT.cell _).trans e0, (hT.cell _).trans e1, hs.all _ hm, hln, hn7, htx, hsm, hs.below⟩

set_option maxRecDepth 100000 in
set_option maxHeartbeats 4000000 in
theorem forms_walk (which : Int) (w : World) : Calls Try.prog 3 #[.int .i64 which] w (TrueBelow w) := by
  have s0 : St w (w.alloc (.cells (cvs abcde).toArray 23)) [] := ⟨row_new _ _, fun _ h => absurd h List.not_mem_nil, (Below.refl _ _).alloc (Nat.le_refl _) _⟩
  have hA := i64_and255 which
  obtain ⟨X, eX, X0, X1⟩ : ∃ X : Int, X = which % 256 ∧ 0 ≤ X ∧ X ≤ 255 := ⟨_, rfl, by omega, by omega⟩
  rw [← eX] at hA
  clear eX
  obtain ⟨k, ek, hk⟩ : ∃ k : Nat, X % 20 = k ∧ k < 20 := ⟨(X % 20).toNat, by omega, by omega⟩
  go_enter Try.func3, Try.ntmps3
  go_upto_region 2 with fail
  go_cut [4] (TabRel w k)
  case first =>
    go_wp2_with fail
    refine ((insert_any _ 5 abcde 0 2 _ s0.r.read (by decide) (by decide)).mono (RowPost.lit 5 fm0 rfl)).mono ?_
    rintro e w1 ⟨g0, rfl, -, hr0, hb0⟩
    have s1 := s0.next hr0 hb0
    clear s0 hr0 hb0
    go_wp2_with fail
    refine ((insert_any _ 5 abcde 4 3 _ s1.r.read (by decide) (by decide)).mono (RowPost.lit 5 fm1 rfl)).mono ?_
    rintro e w2 ⟨g1, rfl, -, hr1, hb1⟩
    have s2 := s1.next hr1 hb1
    clear s1 hr1 hb1
    go_wp2_with fail
    refine ((insert_any _ 5 abcde 2 0 _ s2.r.read (by decide) (by decide)).mono (RowPost.lit 5 fm2 rfl)).mono ?_
    rintro e w3 ⟨g2, rfl, -, hr2, hb2⟩
    have s3 := s2.next hr2 hb2
    clear s2 hr2 hb2
    go_wp2_with fail
    refine ((insert_any _ 5 abcde 2 (-1) _ s3.r.read (by decide) (by decide)).mono (RowPost.lit 5 fm3 rfl)).mono ?_
    rintro e w4 ⟨g3, rfl, -, hr3, hb3⟩
    have s4 := s3.next hr3 hb3
    clear s3 hr3 hb3
    go_wp2_with fail
    refine ((insert_any _ 5 abcde 5 1 _ s4.r.read (by decide) (by decide)).mono (RowPost.lit 5 fm4 rfl)).mono ?_
    rintro e w5 ⟨g4, rfl, -, hr4, hb4⟩
    have s5 := s4.next hr4 hb4
    clear s4 hr4 hb4
    go_wp2_with fail
    refine ((insert_any _ 5 abcde (-1) 1 _ s5.r.read (by decide) (by decide)).mono (RowPost.lit 5 fm5 rfl)).mono ?_
    rintro e w6 ⟨g5, rfl, -, hr5, hb5⟩
    have s6 := s5.next hr5 hb5
    clear s5 hr5 hb5
    go_wp2_with fail
    refine ((insert_any _ 5 abcde 1 99 _ s6.r.read (by decide) (by decide)).mono (RowPost.lit 5 fm6 rfl)).mono ?_
    rintro e w7 ⟨g6, rfl, -, hr6, hb6⟩
    have s7 := s6.next hr6 hb6
    clear s6 hr6 hb6
    go_wp2_with fail
    refine ((delete_any _ 5 abcde 0 2 _ s7.r.read (by decide) (by decide)).mono (RowPost.lit 5 fm7 rfl)).mono ?_
    rintro e w8 ⟨g7, rfl, -, hr7, hb7⟩
    have s8 := s7.next hr7 hb7
    clear s7 hr7 hb7
    go_wp2_with fail
    refine ((delete_any _ 5 abcde 4 1 _ s8.r.read (by decide) (by decide)).mono (RowPost.lit 5 fm8 rfl)).mono ?_
    rintro e w9 ⟨g8, rfl, -, hr8, hb8⟩
    have s9 := s8.next hr8 hb8
    clear s8 hr8 hb8
    go_wp2_with fail
    refine ((delete_any _ 5 abcde 1 99 _ s9.r.read (by decide) (by decide)).mono (RowPost.lit 5 fm9 rfl)).mono ?_
    rintro e w10 ⟨g9, rfl, -, hr9, hb9⟩
    have s10 := s9.next hr9 hb9
    clear s9 hr9 hb9
    go_wp2_with fail
    refine ((delete_any _ 5 abcde 5 1 _ s10.r.read (by decide) (by decide)).mono (RowPost.lit 5 fm10 rfl)).mono ?_
    rintro e w11 ⟨g10, rfl, -, hr10, hb10⟩
    have s11 := s10.next hr10 hb10
    clear s10 hr10 hb10
    go_wp2_with fail
    refine ((clear_any _ 5 abcde 1 3 _ s11.r.read (by decide)).mono (RowPost.lit 5 fm11 rfl)).mono ?_
    rintro e w12 ⟨g11, rfl, -, hr11, hb11⟩
    have s12 := s11.next hr11 hb11
    clear s11 hr11 hb11
    go_wp2_with fail
    refine ((clear_any _ 5 abcde 3 1 _ s12.r.read (by decide)).mono (RowPost.lit 5 fm12 rfl)).mono ?_
    rintro e w13 ⟨g12, rfl, -, hr12, hb12⟩
    have s13 := s12.next hr12 hb12
    clear s12 hr12 hb12
    go_wp2_with fail
    refine ((clear_any _ 5 abcde (-9) 99 _ s13.r.read (by decide)).mono (RowPost.lit 5 fm13 rfl)).mono ?_
    rintro e w14 ⟨g13, rfl, -, hr13, hb13⟩
    have s14 := s13.next hr13 hb13
    clear s13 hr13 hb13
    go_wp2_with fail
    refine ((fit_any _ 5 abcde 3 _ s14.r.read).mono (RowPost.lit 3 fm14 rfl)).mono ?_
    rintro e w15 ⟨g14, rfl, -, hr14, hb14⟩
    have s15 := s14.next hr14 hb14
    clear s14 hr14 hb14
    go_wp2_with fail
    refine ((fit_any _ 5 abcde 7 _ s15.r.read).mono (RowPost.lit 7 fm15 rfl)).mono ?_
    rintro e w16 ⟨g15, rfl, -, hr15, hb15⟩
    have s16 := s15.next hr15 hb15
    clear s15 hr15 hb15
    go_wp2_with fail
    refine ((fit_any _ 5 abcde (-1) _ s16.r.read).mono (RowPost.lit 0 fm16 rfl)).mono ?_
    rintro e w17 ⟨g16, rfl, -, hr16, hb16⟩
    have s17 := s16.next hr16 hb16
    clear s16 hr16 hb16
    go_wp2_with fail
    refine ((put_any _ 5 abcde 0 ⟨122, 0⟩ _ s17.r.read (by decide)).mono (RowPost.lit 5 fm17 rfl)).mono ?_
    rintro e w18 ⟨g17, rfl, -, hr17, hb17⟩
    have s18 := s17.next hr17 hb17
    clear s17 hr17 hb17
    go_wp2_with fail
    refine ((put_any _ 5 abcde 9 ⟨122, 0⟩ _ s18.r.read (by decide)).mono (RowPost.lit 5 fm18 rfl)).mono ?_
    rintro e w19 ⟨g18, rfl, -, hr18, hb18⟩
    have s19 := s18.next hr18 hb18
    clear s18 hr18 hb18
    go_wp2_with fail
    refine ((blankR_any 2 _).mono (RowPost.lit 2 fm19 rfl)).mono ?_
    rintro e w20 ⟨g19, rfl, -, hr19, hb19⟩
    have s20 := s19.next hr19 hb19
    clear s19 hr19 hb19
    have s21 := s20.alloc (.cells (tabV g0 g1 g2 g3 g4 g5 g6 g7 g8 g9 g10 g11 g12 g13 g14 g15 g16 g17 g18 g19) 26)
    have hT : Held (w20.alloc (.cells (tabV g0 g1 g2 g3 g4 g5 g6 g7 g8 g9 g10 g11 g12 g13 g14 g15 g16 g17 g18 g19) 26)) w20.heap.size 26 (tabV g0 g1 g2 g3 g4 g5 g6 g7 g8 g9 g10 g11 g12 g13 g14 g15 g16 g17 g18 g19) := Held.new _ _ _
    have hR := Lib.hid (tab_rel _ hT s21 (tab_at g0 g1 g2 g3 g4 g5 g6 g7 g8 g9 g10 g11 g12 g13 g14 g15 g16 g17 g18 g19 k hk))
    clear s20 s21 hT
    go_wp2_with fail
    go_meet
    exact hR.out
  case rest =>
    obtain ⟨T, g, n, l, s, rfl, x0, x1, hrow, hln, hn7, htx, hsm, hb⟩ := hcut
    clear s0
    subst hln htx
    have HB : Hid (∀ wr, Below (wc.alloc (.cells #[.slice (some ⟨g, 0, none⟩) l.length l.length, .string (text l)] 26)).heap.size (wc.alloc (.cells #[.slice (some ⟨g, 0, none⟩) l.length l.length, .string (text l)] 26)) wr → Row wr g l ∧ Held wr wc.heap.size 26 #[.slice (some ⟨g, 0, none⟩) l.length l.length, .string (text l)]) :=
      fun wr h => ⟨(hrow.alloc _).below h (by have := hrow.lt; simp; omega), (Held.new _ _ _).below h (by simp)⟩
    have HS := Lib.hid hsm
    clear hsm hrow
    have hki : (k : Int) < 20 := by omega
    go_wp2_with fail
    go_loopw [6, 88] (FormsRel (wc.alloc (.cells #[.slice (some ⟨g, 0, none⟩) l.length l.length, .string (text l)] 26)) l) (fun _ i _ => l.length - (intOf i).toNat)
    case atStart => exact ⟨0, rfl, Nat.zero_le _, rfl, Below.refl _ _⟩
    case round =>
      obtain ⟨j, rfl, hjl, rfl, hbr⟩ := hrel
      obtain ⟨hrow, hbox⟩ := HB.out _ hbr
      by_cases hlt : j < l.length
      · have hji : (j : Int) < (l.length : Int) := by omega
        obtain ⟨c0, c1⟩ := hrow.cells j hlt
        have HN := Lib.hid (text_next l j hlt HS.out)
        have hts : (text (l.take j)).size ≤ 7 := by rw [text_size, List.length_take]; omega
        have hes := encode_size_le l[j].r
        generalize text (l.take j) = t at HN hts ⊢
        generalize l[j].r = cr at c0 HN hes
        generalize l[j].a = ca at c1
        clear hbox hrow
        go_wp2_with fail
        go_roundw
        case rel => exact ⟨j + 1, by go_num, by omega, by rw [HN.out], hbr.alloc hbr.size _⟩
        case measure => simp [intOf]; omega
      · have ej : j = l.length := by omega
        subst ej
        rw [List.take_length]
        have x5 := hbox.cell 1
        clear hrow hbox
        go_wp2_with fail
        refine (awake_any _).mono ?_
        rintro e w2 ⟨rfl, hb2⟩
        go_wp2_with fail
        go_ret
        exact ⟨rfl, below_next (hb.trans ((((Below.refl _ wc).alloc (Nat.le_refl _) _).trans (hbr.mono (by simp))).mono hb.size)) hb2⟩
end Go.Proofs.Ytpmioibgbknphaa
