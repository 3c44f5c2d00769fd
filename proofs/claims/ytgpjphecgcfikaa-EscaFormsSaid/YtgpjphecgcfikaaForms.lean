/-
  The walk of EscaForms: for every number the call answers true and writes nothing that was there.
-/
import Derived.Test.YtgpjphecgcfikaaTab
import Derived.Test.YtgpjphecgcfikaaConv
namespace Go.Proofs.Ytgpjphecgcfikaa
open Go.RowKit

/-- The table lies at v: each of its rows has its bytes, and the actions that they come to. -/
def TabRel (w : World) (v : Value) (wx : World) : Prop := ∃ T : Nat, v = .slice (some ⟨T, 0, none⟩) 30 30 ∧ T < wx.heap.size ∧ Below w.heap.size w wx ∧
  ∀ k : Nat, k < 30 → ∃ (b : ByteArray) (u : Value) (l : List A), wx.cell? ⟨T, k * 2, none⟩ = some (.string b) ∧ wx.cell? ⟨T, k * 2 + 1, none⟩ = some u ∧ Acts wx w.heap.size u l ∧ Good b l

theorem tabRel_mk {w wl : World} {o : Obj} {cs : Array Value} {L : List (Value × List A)} (s : St w (wl.alloc o) L)
    (h : ∀ k : Nat, k < 30 → ∃ (b : ByteArray) (u : Value) (l : List A), cs[k * 2]? = some (.string b) ∧ cs[k * 2 + 1]? = some u ∧ (u = .slice none 0 0 ∧ l = [] ∨ (u, l) ∈ L) ∧ Good b l) :
    TabRel w (.slice (some ⟨wl.heap.size + 1, 0, none⟩) 30 30) ((wl.alloc o).alloc (.cells cs 28)) := by
  have H := Held.new2 wl o 28 cs
  refine ⟨_, rfl, H.lt, (s.alloc _).below, fun k hk => ?_⟩
  obtain ⟨b, u, l, h1, h2, h3, h4⟩ := h k hk
  refine ⟨b, u, l, (H.cell _).trans h1, (H.cell _).trans h2, ?_, h4⟩
  rcases h3 with ⟨rfl, rfl⟩ | h3
  · exact acts_nil _ _
  · exact (s.alloc _).rows (u, l) h3

set_option maxRecDepth 100000 in
set_option maxHeartbeats 4000000 in
theorem forms_walk (a0 : Int) (w : World) :
    Calls Try.prog 3 #[.int .i64 a0] w (TrueBelow w) := by
  obtain ⟨q, hq, q0, q1⟩ : ∃ q : Nat, bits .and .i64 a0 255 = (q : Int) ∧ 0 ≤ q ∧ q ≤ 255 := ⟨(a0 % 256).toNat, by rw [i64_and255]; omega, by omega, by omega⟩
  have hk1 : ((q : Int).tmod 30) < 30 := by rw [Int.tmod_eq_emod_of_nonneg (by omega)]; omega
  have hk0 : 0 ≤ ((q : Int).tmod 30) := by rw [Int.tmod_eq_emod_of_nonneg (by omega)]; omega
  go_enter Try.func3, Try.ntmps3
  go_upto_region 4 with fail
  go_cut [6] (TabRel w)
  case first =>
    have s0 : St w w [] := st_nil w
    go_wp2_with fail
    refine (p_o _ _).mono ?_
    rintro x w1 ⟨rfl, hb1⟩
    have s1 := St.call s0 hb1
    clear s0
    clear hb1
    have a12 := acts_lit1 (w := w1) (B := w.heap.size) 1 97 (ints_nil _ _) s1.size
    have s2 := St.row s1 a12
    clear s1
    clear a12
    go_wp2_with fail
    refine (k_o _ _).mono ?_
    rintro x w2 ⟨rfl, hb2⟩
    have s3 := St.call s2 hb2
    clear s2
    clear hb2
    go_wp2_with fail
    refine (k_o _ _).mono ?_
    rintro x w3 ⟨rfl, hb3⟩
    have s4 := St.call s3 hb3
    clear s3
    clear hb3
    go_wp2_with fail
    refine (k_o _ _).mono ?_
    rintro x w4 ⟨rfl, hb4⟩
    have s5 := St.call s4 hb4
    clear s4
    clear hb4
    have a21 := acts_lit3 (w := w4) (B := w.heap.size) 2 7 2 8 2 13 (ints_nil _ _) (ints_nil _ _) (ints_nil _ _) s5.size
    have s6 := St.row s5 a21
    clear s5
    clear a21
    go_wp2_with fail
    refine (c_o _ _ _ _ _).mono ?_
    rintro x w5 ⟨rfl, hb5⟩
    have s7 := St.call s6 hb5
    clear s6
    clear hb5
    have a25 := acts_lit1 (w := w5) (B := w.heap.size) 4 65 (ints_nil _ _) s7.size
    have s8 := St.row s7 a25
    clear s7
    clear a25
    have i28 := ints_lit (w5.alloc (.cells #[.int .i64 4, .int .i32 65, .slice none 0 0] 24)) w.heap.size [0] 1 rfl s8.size (by decide)
    simp only [World.size_alloc] at i28
    have s9 := St.alloc s8 (.cells #[.int .i64 0] 3)
    clear s8
    go_wp2_with fail
    refine (c_o _ _ _ _ _).mono ?_
    rintro x w6 ⟨rfl, hb6⟩
    have s10 := St.call s9 hb6
    clear s9
    replace i28 := Ints.below i28 hb6 (Nat.le_refl _)
    clear hb6
    have a30 := acts_lit1 (w := w6) (B := w.heap.size) 4 65 i28 s10.size
    clear i28
    have s11 := St.row s10 a30
    clear s10
    clear a30
    have i33 := ints_lit (w6.alloc (.cells #[.int .i64 4, .int .i32 65, .slice (some ⟨w5.heap.size + 1, 0, none⟩) 1 1] 24)) w.heap.size [(-1), (-1)] 2 rfl s11.size (by decide)
    simp only [World.size_alloc] at i33
    have s12 := St.alloc s11 (.cells #[.int .i64 (-1), .int .i64 (-1)] 3)
    clear s11
    go_wp2_with fail
    refine (c_o _ _ _ _ _).mono ?_
    rintro x w7 ⟨rfl, hb7⟩
    have s13 := St.call s12 hb7
    clear s12
    replace i33 := Ints.below i33 hb7 (Nat.le_refl _)
    clear hb7
    have a35 := acts_lit1 (w := w7) (B := w.heap.size) 4 65 i33 s13.size
    clear i33
    have s14 := St.row s13 a35
    clear s13
    clear a35
    have i38 := ints_lit (w7.alloc (.cells #[.int .i64 4, .int .i32 65, .slice (some ⟨w6.heap.size + 1, 0, none⟩) 2 2] 24)) w.heap.size [(-1), (-1), (-1)] 3 rfl s14.size (by decide)
    simp only [World.size_alloc] at i38
    have s15 := St.alloc s14 (.cells #[.int .i64 (-1), .int .i64 (-1), .int .i64 (-1)] 3)
    clear s14
    go_wp2_with fail
    refine (c_o _ _ _ _ _).mono ?_
    rintro x w8 ⟨rfl, hb8⟩
    have s16 := St.call s15 hb8
    clear s15
    replace i38 := Ints.below i38 hb8 (Nat.le_refl _)
    clear hb8
    have a40 := acts_lit1 (w := w8) (B := w.heap.size) 4 65 i38 s16.size
    clear i38
    have s17 := St.row s16 a40
    clear s16
    clear a40
    have i43 := ints_lit (w8.alloc (.cells #[.int .i64 4, .int .i32 65, .slice (some ⟨w7.heap.size + 1, 0, none⟩) 3 3] 24)) w.heap.size [1, (-1)] 2 rfl s17.size (by decide)
    simp only [World.size_alloc] at i43
    have s18 := St.alloc s17 (.cells #[.int .i64 1, .int .i64 (-1)] 3)
    clear s17
    go_wp2_with fail
    refine (c_o _ _ _ _ _).mono ?_
    rintro x w9 ⟨rfl, hb9⟩
    have s19 := St.call s18 hb9
    clear s18
    replace i43 := Ints.below i43 hb9 (Nat.le_refl _)
    clear hb9
    have a45 := acts_lit1 (w := w9) (B := w.heap.size) 4 65 i43 s19.size
    clear i43
    have s20 := St.row s19 a45
    clear s19
    clear a45
    have i48 := ints_lit (w9.alloc (.cells #[.int .i64 4, .int .i32 65, .slice (some ⟨w8.heap.size + 1, 0, none⟩) 2 2] 24)) w.heap.size [1, 2] 2 rfl s20.size (by decide)
    simp only [World.size_alloc] at i48
    have s21 := St.alloc s20 (.cells #[.int .i64 1, .int .i64 2] 3)
    clear s20
    go_wp2_with fail
    refine (c_o _ _ _ _ _).mono ?_
    rintro x w10 ⟨rfl, hb10⟩
    have s22 := St.call s21 hb10
    clear s21
    replace i48 := Ints.below i48 hb10 (Nat.le_refl _)
    clear hb10
    have a50 := acts_lit1 (w := w10) (B := w.heap.size) 4 65 i48 s22.size
    clear i48
    have s23 := St.row s22 a50
    clear s22
    clear a50
    have i53 := ints_lit (w10.alloc (.cells #[.int .i64 4, .int .i32 65, .slice (some ⟨w9.heap.size + 1, 0, none⟩) 2 2] 24)) w.heap.size [65535] 1 rfl s23.size (by decide)
    simp only [World.size_alloc] at i53
    have s24 := St.alloc s23 (.cells #[.int .i64 65535] 3)
    clear s23
    go_wp2_with fail
    refine (c_o _ _ _ _ _).mono ?_
    rintro x w11 ⟨rfl, hb11⟩
    have s25 := St.call s24 hb11
    clear s24
    replace i53 := Ints.below i53 hb11 (Nat.le_refl _)
    clear hb11
    have a55 := acts_lit1 (w := w11) (B := w.heap.size) 4 65 i53 s25.size
    clear i53
    have s26 := St.row s25 a55
    clear s25
    clear a55
    have a61 := acts_lit1 (w := (w11.alloc (.cells #[.int .i64 4, .int .i32 65, .slice (some ⟨w10.heap.size + 1, 0, none⟩) 1 1] 24))) (B := w.heap.size) 5 65 (ints_nil _ _) s26.size
    simp only [World.size_alloc] at a61
    have s27 := St.row s26 a61
    clear s26
    clear a61
    have i63 := ints_lit ((w11.alloc (.cells #[.int .i64 4, .int .i32 65, .slice (some ⟨w10.heap.size + 1, 0, none⟩) 1 1] 24)).alloc (.cells #[.int .i64 5, .int .i32 65, .slice none 0 0] 24)) w.heap.size [1, 2] 2 rfl s27.size (by decide)
    simp only [World.size_alloc] at i63
    have s28 := St.alloc s27 (.cells #[.int .i64 1, .int .i64 2] 3)
    clear s27
    have a65 := acts_lit1 (w := (((w11.alloc (.cells #[.int .i64 4, .int .i32 65, .slice (some ⟨w10.heap.size + 1, 0, none⟩) 1 1] 24)).alloc (.cells #[.int .i64 5, .int .i32 65, .slice none 0 0] 24)).alloc (.cells #[.int .i64 1, .int .i64 2] 3))) (B := w.heap.size) 5 104 i63 s28.size
    simp only [World.size_alloc] at a65
    clear i63
    have s29 := St.row s28 a65
    clear s28
    clear a65
    go_wp2_with fail
    refine (k_o _ _).mono ?_
    rintro x w12 ⟨rfl, hb12⟩
    have s30 := St.call s29 hb12
    clear s29
    clear hb12
    have i71 := ints_lit w12 w.heap.size [1] 1 rfl s30.size (by decide)
    have s31 := St.alloc s30 (.cells #[.int .i64 1] 3)
    clear s30
    go_wp2_with fail
    refine (c_o _ _ _ _ _).mono ?_
    rintro x w13 ⟨rfl, hb13⟩
    have s32 := St.call s31 hb13
    clear s31
    replace i71 := Ints.below i71 hb13 (Nat.le_refl _)
    clear hb13
    have a73 := acts_lit2 (w := w13) (B := w.heap.size) 2 8 4 65 (ints_nil _ _) i71 s32.size
    clear i71
    have s33 := St.row s32 a73
    clear s32
    clear a73
    go_wp2_with fail
    refine (p_o _ _).mono ?_
    rintro x w14 ⟨rfl, hb14⟩
    have s34 := St.call s33 hb14
    clear s33
    clear hb14
    have a77 := acts_lit1 (w := w14) (B := w.heap.size) 1 65 (ints_nil _ _) s34.size
    have s35 := St.row s34 a77
    clear s34
    clear a77
    have i80 := ints_lit (w14.alloc (.cells #[.int .i64 1, .int .i32 65, .slice none 0 0] 24)) w.heap.size [2] 1 rfl s35.size (by decide)
    simp only [World.size_alloc] at i80
    have s36 := St.alloc s35 (.cells #[.int .i64 2] 3)
    clear s35
    go_wp2_with fail
    refine (c_o _ _ _ _ _).mono ?_
    rintro x w15 ⟨rfl, hb15⟩
    have s37 := St.call s36 hb15
    clear s36
    replace i80 := Ints.below i80 hb15 (Nat.le_refl _)
    clear hb15
    have a82 := acts_lit1 (w := w15) (B := w.heap.size) 4 65 i80 s37.size
    clear i80
    have s38 := St.row s37 a82
    clear s37
    clear a82
    have a85 := acts_lit1 (w := (w15.alloc (.cells #[.int .i64 4, .int .i32 65, .slice (some ⟨w14.heap.size + 1, 0, none⟩) 1 1] 24))) (B := w.heap.size) 3 55 (ints_nil _ _) s38.size
    simp only [World.size_alloc] at a85
    have s39 := St.row s38 a85
    clear s38
    clear a85
    go_wp2_with fail
    refine (p_o _ _).mono ?_
    rintro x w16 ⟨rfl, hb16⟩
    have s40 := St.call s39 hb16
    clear s39
    clear hb16
    have a89 := acts_lit1 (w := w16) (B := w.heap.size) 1 97 (ints_nil _ _) s40.size
    have s41 := St.row s40 a89
    clear s40
    clear a89
    go_wp2_with fail
    refine (k_o _ _).mono ?_
    rintro x w17 ⟨rfl, hb17⟩
    have s42 := St.call s41 hb17
    clear s41
    clear hb17
    have a94 := acts_lit2 (w := w17) (B := w.heap.size) 2 7 3 99 (ints_nil _ _) (ints_nil _ _) s42.size
    have s43 := St.row s42 a94
    clear s42
    clear a94
    have a97 := acts_lit1 (w := (w17.alloc (.cells #[.int .i64 2, .int .i32 7, .slice none 0 0, .int .i64 3, .int .i32 99, .slice none 0 0] 24))) (B := w.heap.size) 3 99 (ints_nil _ _) s43.size
    simp only [World.size_alloc] at a97
    have s44 := St.row s43 a97
    clear s43
    clear a97
    go_wp2_with fail
    refine (p_o _ _).mono ?_
    rintro x w18 ⟨rfl, hb18⟩
    have s45 := St.call s44 hb18
    clear s44
    clear hb18
    have a101 := acts_lit1 (w := w18) (B := w.heap.size) 1 100 (ints_nil _ _) s45.size
    have s46 := St.row s45 a101
    clear s45
    clear a101
    go_wp2_with fail
    refine (p_o _ _).mono ?_
    rintro x w19 ⟨rfl, hb19⟩
    have s47 := St.call s46 hb19
    clear s46
    clear hb19
    have a105 := acts_lit1 (w := w19) (B := w.heap.size) 1 100 (ints_nil _ _) s47.size
    have s48 := St.row s47 a105
    clear s47
    clear a105
    go_wp2_with fail
    refine (p_o _ _).mono ?_
    rintro x w20 ⟨rfl, hb20⟩
    have s49 := St.call s48 hb20
    clear s48
    clear hb20
    have a109 := acts_lit1 (w := w20) (B := w.heap.size) 1 101 (ints_nil _ _) s49.size
    have s50 := St.row s49 a109
    clear s49
    clear a109
    go_wp2_with fail
    refine (p_o _ _).mono ?_
    rintro x w21 ⟨rfl, hb21⟩
    have s51 := St.call s50 hb21
    clear s50
    clear hb21
    have a113 := acts_lit1 (w := w21) (B := w.heap.size) 1 97 (ints_nil _ _) s51.size
    have s52 := St.row s51 a113
    clear s51
    clear a113
    go_wp2_with fail
    refine (p_o _ _).mono ?_
    rintro x w22 ⟨rfl, hb22⟩
    have s53 := St.call s52 hb22
    clear s52
    clear hb22
    go_wp2_with fail
    refine (c_o _ _ _ _ _).mono ?_
    rintro x w23 ⟨rfl, hb23⟩
    have s54 := St.call s53 hb23
    clear s53
    clear hb23
    have a120 := acts_lit2 (w := w23) (B := w.heap.size) 1 65533 4 65 (ints_nil _ _) (ints_nil _ _) s54.size
    have s55 := St.row s54 a120
    clear s54
    clear a120
    go_wp2_with fail
    refine (c_o _ _ _ _ _).mono ?_
    rintro x w24 ⟨rfl, hb24⟩
    have s56 := St.call s55 hb24
    clear s55
    clear hb24
    have a124 := acts_lit1 (w := w24) (B := w.heap.size) 4 65 (ints_nil _ _) s56.size
    have s57 := St.row s56 a124
    clear s56
    clear a124
    go_wp2_with fail
    go_meet
    refine tabRel_mk s57 ?_
    intro k hk
    have hk30 : k = 0 ∨ k = 1 ∨ k = 2 ∨ k = 3 ∨ k = 4 ∨ k = 5 ∨ k = 6 ∨ k = 7 ∨ k = 8 ∨ k = 9 ∨ k = 10 ∨ k = 11 ∨ k = 12 ∨ k = 13 ∨ k = 14 ∨ k = 15 ∨ k = 16 ∨ k = 17 ∨ k = 18 ∨ k = 19 ∨ k = 20 ∨ k = 21 ∨ k = 22 ∨ k = 23 ∨ k = 24 ∨ k = 25 ∨ k = 26 ∨ k = 27 ∨ k = 28 ∨ k = 29 := by omega
    rcases hk30 with rfl | rfl | rfl | rfl | rfl | rfl | rfl | rfl | rfl | rfl | rfl | rfl | rfl | rfl | rfl | rfl | rfl | rfl | rfl | rfl | rfl | rfl | rfl | rfl | rfl | rfl | rfl | rfl | rfl | rfl
    · exact ⟨_, _, _, rfl, rfl, .inr (List.mem_of_getElem? (i := 23) rfl), good0⟩
    · exact ⟨_, _, [], rfl, rfl, .inl ⟨rfl, rfl⟩, good1⟩
    · exact ⟨_, _, _, rfl, rfl, .inr (List.mem_of_getElem? (i := 22) rfl), good2⟩
    · exact ⟨_, _, _, rfl, rfl, .inr (List.mem_of_getElem? (i := 21) rfl), good3⟩
    · exact ⟨_, _, _, rfl, rfl, .inr (List.mem_of_getElem? (i := 20) rfl), good4⟩
    · exact ⟨_, _, _, rfl, rfl, .inr (List.mem_of_getElem? (i := 19) rfl), good5⟩
    · exact ⟨_, _, _, rfl, rfl, .inr (List.mem_of_getElem? (i := 18) rfl), good6⟩
    · exact ⟨_, _, _, rfl, rfl, .inr (List.mem_of_getElem? (i := 17) rfl), good7⟩
    · exact ⟨_, _, _, rfl, rfl, .inr (List.mem_of_getElem? (i := 16) rfl), good8⟩
    · exact ⟨_, _, _, rfl, rfl, .inr (List.mem_of_getElem? (i := 15) rfl), good9⟩
    · exact ⟨_, _, [], rfl, rfl, .inl ⟨rfl, rfl⟩, good10⟩
    · exact ⟨_, _, [], rfl, rfl, .inl ⟨rfl, rfl⟩, good11⟩
    · exact ⟨_, _, [], rfl, rfl, .inl ⟨rfl, rfl⟩, good12⟩
    · exact ⟨_, _, _, rfl, rfl, .inr (List.mem_of_getElem? (i := 14) rfl), good13⟩
    · exact ⟨_, _, _, rfl, rfl, .inr (List.mem_of_getElem? (i := 13) rfl), good14⟩
    · exact ⟨_, _, [], rfl, rfl, .inl ⟨rfl, rfl⟩, good15⟩
    · exact ⟨_, _, _, rfl, rfl, .inr (List.mem_of_getElem? (i := 12) rfl), good16⟩
    · exact ⟨_, _, _, rfl, rfl, .inr (List.mem_of_getElem? (i := 11) rfl), good17⟩
    · exact ⟨_, _, _, rfl, rfl, .inr (List.mem_of_getElem? (i := 10) rfl), good18⟩
    · exact ⟨_, _, _, rfl, rfl, .inr (List.mem_of_getElem? (i := 9) rfl), good19⟩
    · exact ⟨_, _, _, rfl, rfl, .inr (List.mem_of_getElem? (i := 8) rfl), good20⟩
    · exact ⟨_, _, _, rfl, rfl, .inr (List.mem_of_getElem? (i := 7) rfl), good21⟩
    · exact ⟨_, _, _, rfl, rfl, .inr (List.mem_of_getElem? (i := 6) rfl), good22⟩
    · exact ⟨_, _, _, rfl, rfl, .inr (List.mem_of_getElem? (i := 5) rfl), good23⟩
    · exact ⟨_, _, _, rfl, rfl, .inr (List.mem_of_getElem? (i := 4) rfl), good24⟩
    · exact ⟨_, _, _, rfl, rfl, .inr (List.mem_of_getElem? (i := 3) rfl), good25⟩
    · exact ⟨_, _, _, rfl, rfl, .inr (List.mem_of_getElem? (i := 2) rfl), good26⟩
    · exact ⟨_, _, [], rfl, rfl, .inl ⟨rfl, rfl⟩, good27⟩
    · exact ⟨_, _, _, rfl, rfl, .inr (List.mem_of_getElem? (i := 1) rfl), good28⟩
    · exact ⟨_, _, _, rfl, rfl, .inr (List.mem_of_getElem? (i := 0) rfl), good29⟩
  case rest =>
    obtain ⟨T, rfl, hT, hbx, htab⟩ := hcut
    obtain ⟨b, u, l, hb, hu, hac, hg⟩ := htab (q % 30) (by omega)
    have HG := Lib.hid hg
    clear hg htab
    obtain ⟨D, c, rfl⟩ := acts_form hac
    obtain ⟨cap, W2, hcv, hrd, hbw⟩ := conv_bytes (wc.alloc (.cells #[.string b, .slice D l.length c] 28)) b
    have H2 : Held W2 wc.heap.size 28 _ := Held.below (Held.new wc 28 _) hbw (by simp)
    have hz2 := H2.lt
    have ha2 := (hac.alloc (.cells #[.string b, .slice D l.length c] 28)).below hbw (Nat.le_refl _)
    have hb2 : Below w.heap.size w W2 := (hbx.alloc hbx.size _).trans (hbw.mono (by have := hbx.size; simp; omega))
    rw [World.size_alloc] at hcv hrd
    go_wp2_with fail
    obtain ⟨g1, g2, g3, g4⟩ := HG.out
    have hlen : (bytesOf b).length ≤ 300000 := by rw [bytesOf_len]; omega
    refine (feed0 (bytesOf b) _ _ rfl g3 _ _ (by exact hrd) hlen).mono ?_
    rintro e w3 ⟨p3, v3, rfl, hp3, ha3, hb3⟩
    obtain ⟨s', hs'⟩ : ∃ s', s' = feedE E.zero (bytesOf b) := ⟨_, rfl⟩
    rw [← hs'] at hp3 g2 ⊢
    have hl3 : l.length ≤ 1000000 := by
      rw [← g3]
      have h1 := feedA_len E.zero (bytesOf b)
      omega
    clear hs' g3
    obtain ⟨D3, c3, rfl⟩ := ints_form hp3
    obtain ⟨mo, ⟨sn, sm, sg⟩, par, num, pr, sk⟩ := s'
    dsimp only at g2 hp3
    subst g2
    unfold escV
    dsimp only
    have H3 := H2.below hb3 H2.lt
    have hz3 := H3.lt
    have x0 : w3.cell? ⟨wc.heap.size, 0, none⟩ = some (.string b) := (H3.cell 0).trans rfl
    have x1 : w3.cell? ⟨wc.heap.size, 1, none⟩ = some (.slice D l.length c) := (H3.cell 1).trans rfl
    have ha4 := ha2.below hb3 (Nat.le_refl _)
    go_wp2_with fail
    refine (sameActions_any _ _ l _ _ _ (by exact ha3.alloc _) (by exact ha4.alloc _) hl3 g4).mono ?_
    rintro e w5 ⟨rfl, m5, rfl⟩
    go_wp2_with fail
    refine (awake_any _).mono ?_
    rintro e w6 ⟨rfl, hb6⟩
    go_wp2_with fail
    go_ret
    have hb3' : Below w.heap.size w w3 := hb2.trans (hb3.mono hb2.size)
    exact ⟨rfl, (below_drewN (hb3'.alloc hb3'.size _) m5).trans (hb6.mono (by have := hb3'.size; simp; omega))⟩
end Go.Proofs.Ytgpjphecgcfikaa
