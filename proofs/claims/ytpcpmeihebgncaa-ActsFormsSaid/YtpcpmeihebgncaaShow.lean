/-
  What show answers: what bytes make of a screen of five by three, row by row, with the cursor. Conditions: at most a thousand bytes.
-/
import Derived.Test.YtpcpmeihebgncaaB7
import Derived.Test.YtpcpmeihebgncaaB9
import Derived.Test.YtpcpmeihebgncaaNew
import Derived.Test.YtpcpmeihebgncaaB3
import Derived.Laws.Runes
import Derived.BigQuiet
namespace Go.Proofs.Ytpcpmeihebgncaa
open Go.RowKit
set_option maxRecDepth 100000
set_option linter.unusedSimpArgs false

/-- A string's bytes. -/
def strB (s : ByteArray) : List Int := s.data.toList.map fun b => (b.toNat : Int)
theorem strB_len (s : ByteArray) : (strB s).length = s.size := by simp [strB]
theorem strB_at (s : ByteArray) (k : Nat) (h : k < s.size) : (strB s)[k]? = some ((s[k]'h).toNat : Int) := by
  have h' : k < s.data.toList.length := by simpa using h
  simp only [strB, List.getElem?_map, List.getElem?_eq_getElem h', Option.map_some]
  rfl
theorem strB_pos (s : ByteArray) : ∀ b ∈ strB s, 0 ≤ b := by
  intro b h
  obtain ⟨x, _, rfl⟩ := List.mem_map.1 h
  omega
theorem feedP_cl : ∀ (bs : List Int) (q : PM), q.e.Ok → q.e.Cl → (∀ b ∈ bs, 0 ≤ b) → (feedP q bs).e.Cl
  | [], _, _, h, _ => h
  | b :: bs, q, ho, h, hb => feedP_cl bs (feed1 q b) (Esca.nxE_ok q.e b ho) (Esca.nxE_cl q.e b ho h (hb b (by simp))) fun x hx => hb x (by simp [hx])

/-- What a cell shows as. -/
def showC (c : C) : ByteArray := Utf8.encode (if c.r = 32 then 46 else c.r)
def showR (acc : ByteArray) (l : List C) : ByteArray := l.foldl (fun a c => a ++ showC c) acc
def showL (L : List (List C)) : Nat → ByteArray
  | 0 => ⟨#[]⟩
  | k + 1 => showR (if 0 < k then showL L k ++ ⟨#[47]⟩ else showL L k) (L.getD k [])
theorem cat_ok (a b : ByteArray) (h : a.size + b.size ≤ 1000000) (w : World) : (Op.stringOp .add a b).run Try.prog w = .ok (.string (a ++ b)) w := by
  unfold Op.stringOp
  dsimp only
  rw [if_neg (by have : IntKind.i64.max = 9223372036854775807 := by decide
                 rw [this]; omega)]
  rfl
theorem encode_le (r : Int) : (Utf8.encode r).size ≤ 4 := by
  unfold Utf8.encode
  dsimp only
  repeat' split
  all_goals first | decide | (show Array.size _ ≤ 4; simp)
theorem showC_le (c : C) : (showC c).size ≤ 4 := encode_le _
theorem showR_le : ∀ (l : List C) (acc : ByteArray), (showR acc l).size ≤ acc.size + 4 * l.length
  | [], acc => by simp [showR]
  | c :: l, acc => by
    have h := showR_le l (acc ++ showC c)
    have h2 := showC_le c
    have e : showR acc (c :: l) = showR (acc ++ showC c) l := rfl
    rw [e, List.length_cons]
    rw [ByteArray.size_append] at h
    omega
theorem showR_take (acc : ByteArray) (l : List C) (k : Nat) (h : k < l.length) : showR acc (l.take (k + 1)) = showR acc (l.take k) ++ showC l[k] := by
  unfold showR
  rw [List.take_add_one, List.getElem?_eq_getElem h, List.foldl_append]
  rfl
theorem showL_le (L : List (List C)) (hL : ∀ l ∈ L, l.length = 5) : ∀ k, (showL L k).size ≤ 21 * k
  | 0 => Nat.le_refl _
  | k + 1 => by
    have h := showL_le L hL k
    have hl : (L.getD k []).length ≤ 5 := by
      rw [List.getD_eq_getElem?_getD]
      cases hk : L[k]? with
      | none => simp
      | some l => exact Nat.le_of_eq (hL l (List.mem_of_getElem? hk))
    unfold showL
    refine Nat.le_trans (showR_le _ _) ?_
    split
    · rw [ByteArray.size_append]
      have : (⟨#[47]⟩ : ByteArray).size = 1 := rfl
      omega
    · omega
/-- A screen whose rows lie below its variable, or above both variables. -/
def HScr (b0 : Nat) (wr : World) (D E : Option Addr) (n c m d : Nat) (L Bk : List (List C)) : Prop :=
  (∃ w1 : World, w1.heap.size = b0 ∧ Scr 0 w1 D E n c m d L Bk ∧ Below b0 w1 wr) ∨ Scr (b0 + 2) wr D E n c m d L Bk
theorem HScr.get {b0 : Nat} {wr : World} {D E : Option Addr} {n c m d : Nat} {L Bk : List (List C)} (h : HScr b0 wr D E n c m d L Bk) : Scr 0 wr D E n c m d L Bk := by
  rcases h with ⟨w1, e, hs, hb⟩ | h
  · exact hs.below hb (Nat.le_of_eq e)
  · exact h.weak (Nat.zero_le _)
theorem HScr.next {b0 : Nat} {wr wy : World} {D E : Option Addr} {n c m d : Nat} {L Bk : List (List C)} (h : HScr b0 wr D E n c m d L Bk) (hb : Below wr.heap.size wr wy) : HScr b0 wy D E n c m d L Bk := by
  rcases h with ⟨w1, e, hs, hb1⟩ | h
  · exact .inl ⟨w1, e, hs, hb1.trans (hb.mono (by rw [← e]; exact hb1.size))⟩
  · exact .inr (h.below hb (Nat.le_refl _))
theorem HScr.put {b0 : Nat} {wr : World} {D E : Option Addr} {n c m d : Nat} {L Bk : List (List C)} (h : HScr b0 wr D E n c m d L Bk) {k : Nat} (h0 : b0 ≤ k) (h1 : k < b0 + 2) (cs : Array Value) : HScr b0 (wr.setRow k cs) D E n c m d L Bk := by
  rcases h with ⟨w1, e, hs, hb1⟩ | h
  · exact .inl ⟨w1, e, hs, below_setRow hb1 h0 _⟩
  · exact .inr (h.put h1 _)

/-- Behind some bytes: the screen so far, where in an escape. -/
structure HS (w : World) (b0 : Nat) (q : PM) (F D E : Option Addr) (f qq n c m d : Nat) (wr : World) : Prop where
  box : Box wr b0 q.s.p (.slice D n c) (.slice E m d)
  esc : EBox wr (b0 + 1) q.e (.slice F f qq)
  par : Esca.Ints wr (b0 + 2) (.slice F f qq) q.e.par
  scr : HScr b0 wr D E n c m d q.s.L q.s.B
  below : Below w.heap.size w wr
  lo : w.heap.size ≤ b0
theorem HS.next {w : World} {b0 : Nat} {q : PM} {F D E : Option Addr} {f qq n c m d : Nat} {wr wy : World} (h : HS w b0 q F D E f qq n c m d wr) (hb : Below wr.heap.size wr wy) : HS w b0 q F D E f qq n c m d wy :=
  ⟨h.box.below hb h.box.lt, Held.below h.esc hb (Held.lt h.esc), h.par.below hb (Nat.le_refl _), h.scr.next hb, h.below.trans (hb.mono h.below.size), h.lo⟩
def HRel (w : World) (b0 : Nat) (q0 : PM) (bs : List Int) (i : Value) (wr : World) : Prop := ∃ (k : Nat) (F D E : Option Addr) (f qq n c m d : Nat), i = .int .i64 (k : Int) ∧ k ≤ bs.length ∧ HS w b0 (feedP q0 (bs.take k)) F D E f qq n c m d wr
def HARel (w : World) (b0 : Nat) (e : Esca.E) (s0 : WS) (l : List Esca.A) (v : Value) (i : Value) (wr : World) : Prop := ∃ (j : Nat) (F D E : Option Addr) (f qq n c m d : Nat), i = .int .i64 (j : Int) ∧ j ≤ l.length ∧ HS w b0 ⟨e, actsF s0 (l.take j)⟩ F D E f qq n c m d wr ∧ Esca.Acts wr (b0 + 2) v l

def TRel (w : World) (b0 : Nat) (q : PM) (F D E : Option Addr) (f qq n c m d : Nat) (v16 v52 : Value) (wr : World) : Prop := ∃ y : Nat, v52 = .int .i64 (y : Int) ∧ y ≤ 3 ∧ v16 = .string (showL q.s.L y) ∧ HS w b0 q F D E f qq n c m d wr
def TRowRel (w : World) (b0 : Nat) (q : PM) (F D E : Option Addr) (f qq n c m d : Nat) (acc : ByteArray) (l : List C) (wo : World) (v16 v65 : Value) (wr : World) : Prop := ∃ x : Nat, v65 = .int .i64 (x : Int) ∧ x ≤ 5 ∧ v16 = .string (showR acc (l.take x)) ∧ HS w b0 q F D E f qq n c m d wr ∧ Below wo.heap.size wo wr

/-- Behind Step: what it made, in a variable of its own. -/
structure HI (w : World) (b0 : Nat) (q : PM) (F D E : Option Addr) (f qq n c m d g : Nat) (e1 : Esca.E) (F3 : Option Addr) (q3 : Nat) (AD : Option Addr) (ac : Nat) (l1 : List Esca.A) (wr : World) : Prop where
  st : HS w b0 q F D E f qq n c m d wr
  box : EBox wr g e1 (.slice F3 e1.par.length q3)
  par : Esca.Ints wr (b0 + 2) (.slice F3 e1.par.length q3) e1.par
  acts : Esca.Acts wr (b0 + 2) (.slice AD l1.length ac) l1

def ShowPost (w : World) (t : ByteArray) (x y : Int) (e : Ending) (w' : World) : Prop := e = .returned (.tuple #[.string t, .int .i64 x, .int .i64 y]) ∧ Below w.heap.size w w'

theorem HI.make {w : World} {b0 : Nat} {q : PM} {F D E : Option Addr} {f qq n c m d g : Nat} {e1 e0 : Esca.E} {P0 : Value} {F3 : Option Addr} {q3 : Nat} {AD : Option Addr} {ac : Nat} {l1 : List Esca.A} {wr w4 : World}
    (st : HS w b0 q F D E f qq n c m d wr) (hb : Below wr.heap.size wr w4) (hx : EBox w4 g e0 P0) (hr : wr.heap.size ≤ g)
    (hp : Esca.Ints w4 (b0 + 2) (.slice F3 e1.par.length q3) e1.par) (ha : Esca.Acts w4 (b0 + 2) (.slice AD l1.length ac) l1) :
    HI w b0 q F D E f qq n c m d g e1 F3 q3 AD ac l1 (w4.setRow g (Esca.escC e1 (.slice F3 e1.par.length q3))) :=
  ⟨st.next (below_setRow hb hr _), setRow_heap w4 g _ _ 32 (0, 0) hx, Esca.ints_box hp hx _, Esca.acts_box ha hx _⟩

set_option maxHeartbeats 8000000 in
theorem show_any (s : ByteArray) (w : World) (hn : s.size ≤ 1000) :
    Calls Try.prog 9 #[.int .i64 5, .int .i64 3, .string s] w (ShowPost w (showL (feedP (newP 5 3) (strB s)).s.L 3) (feedP (newP 5 3) (strB s)).s.p.x (feedP (newP 5 3) (strB s)).s.p.y) := by
  have HN : Hid (Calls Try.prog 25 #[.int .i64 5, .int .i64 3] w (GridPost w (newNm 5 3) (blankL 5 3) [])) := Lib.hid (rnew_any 5 3 w)
  have HK := Lib.hid (newP_ok 5 3 (by decide) (by decide) (by decide) (by decide))
  have HL := Lib.hid (strB_len s)
  obtain ⟨q0, hq0⟩ : ∃ q0 : PM, q0 = newP 5 3 := ⟨_, rfl⟩
  have HQ0 := Lib.hid hq0
  rw [← hq0] at HK ⊢
  clear hq0
  go_enter Try.func9, Try.ntmps9
  go_upto_region 2 with (first
   | (with_reducible refine wpList_storeB (x := .tmp 9) (y := .tmp 22) (p := newNm 5 3) (D := D0) (E := E0) (n := n0) (c := c0) (m := m0) (d := d0) ?_ ?_ ?_ ?_ ?_ ?_
      · with_reducible rfl
      · rfl
      · rfl
      · rfl
      · rfl)
   | (go_at_call 25
      refine HN.out.mono ?_
      clear HN
      rintro e w1 ⟨D0, E0, n0, c0, m0, d0, rfl, s1, b1⟩))
  have h1z := b1.size
  go_upto_region 3 with (first
    | (with_reducible refine wpList_storeE' (x := .tmp 10) (y := .tmp 23) (e := Esca.E.zero) (F := none) (f := 0) (q := 0) ?_ ?_ ?_ ?_ ?_ ?_
       · with_reducible rfl
       · rfl
       · rfl
       · rfl
       · rfl))
  refine wp_world (fun wq => HS w w1.heap.size q0 none D0 E0 0 0 n0 c0 m0 d0 wq) ?_ ?_
  · have hx := (Box.new w1 (newNm 5 3) (.slice D0 n0 c0) (.slice E0 m0 d0)).alloc (.cells (Esca.escC Esca.E.zero (.slice none 0 0)) 32)
    have hy := Held.new (w1.alloc (.cells (gcs (newNm 5 3) (.slice D0 n0 c0) (.slice E0 m0 d0)) 35)) 32 (Esca.escC Esca.E.zero (.slice none 0 0))
    rw [World.size_alloc] at hy
    have hb := ((Below.refl w1.heap.size w1).alloc (Nat.le_refl _) (.cells (gcs (newNm 5 3) (.slice D0 n0 c0) (.slice E0 m0 d0)) 35)).alloc (by simp) (.cells (Esca.escC Esca.E.zero (.slice none 0 0)) 32)
    rw [HQ0.out]
    exact ⟨hx, hy, Esca.ints_nil _ _, .inl ⟨w1, rfl, s1.weak (Nat.zero_le _), hb⟩, b1.trans (hb.mono h1z), h1z⟩
  clear s1 b1 h1z
  intro w2 st0
  generalize w1.heap.size = b0 at *
  clear w1
  go_wp2_with fail
  go_loopw [11] (HRel w b0 q0 (strB s)) (fun i _ => (strB s).length - (intOf i).toNat)
  case atStart => exact ⟨0, _, _, _, _, _, _, _, _, _, rfl, Nat.zero_le _, st0⟩
  case round =>
    clear st0
    obtain ⟨k, F, D, E, f, qq, n, c, m, d, rfl, hkl, st⟩ := hrel
    by_cases hlt : k < s.size
    · have hki : (k : Int) < (s.size : Int) := by omega
      have hk1 := strB_at s k hlt
      obtain ⟨z, hz⟩ : ∃ z : Int, z = ((s[k]'hlt).toNat : Int) := ⟨_, rfl⟩
      have hz0 : 0 ≤ z := by omega
      have hz255 : z ≤ 255 := by have := (s[k]'hlt).toNat_lt; omega
      have HIX : Hid (∀ wx, (Instr.index 9 (.string s) (.int .i64 (k : Int))).run Try.prog wx = .ok (.int .u8 z) wx) := Lib.hid (by
        intro wx
        rw [run_index_string wx 9 s .i64 (k : Int) Try.underlying9, dif_pos ⟨by omega, by omega⟩, hz]
        rfl)
      rw [← hz] at hk1
      have hzn : ((s[k]'hlt).toNat : Int) = z := hz.symm
      clear hz
      have HN := Lib.hid (feedP_take q0 (strB s) k z hk1)
      have HQ := Lib.hid (HK.out.feedP ((strB s).take k))
      have hcl : (feedP q0 ((strB s).take k)).e.Cl := feedP_cl _ q0 HK.out.e (by rw [HQ0.out]; exact Esca.E.zero_cl) fun b hb => strB_pos s b (List.mem_of_mem_take hb)
      have HCL := Lib.hid hcl
      generalize feedP q0 ((strB s).take k) = q at *
      have HT : Hid (∀ wx, Below wr.drew.heap.size wr.drew wx → Calls Try.prog 17 #[Esca.escV q.e (.slice F f qq), .int .u8 z] wx (Esca.RStepP (b0 + 2) wx (Esca.nxE q.e z).1 (Esca.nxE q.e z).2)) := Lib.hid fun wx hb => Esca.rstep_any q.e F f qq z (b0 + 2) wx ((st.next (Below.refl _ _).drew).par.below hb (Nat.le_refl _)) (Nat.le_trans (Held.lt (st.next (Below.refl _ _).drew).esc) hb.size) HQ.out.e HCL.out hz0 hz255
      clear hcl HCL
      have HLN := Lib.hid (Esca.nxE_len q.e z)
      have HE : Hid (feed1 q z = ⟨(Esca.nxE q.e z).1, actsF q.s (Esca.nxE q.e z).2⟩) := Lib.hid rfl
      have HOK : Hid (∀ j, Wk 5 3 (actsF q.s ((Esca.nxE q.e z).2.take j))) := fun j => (actsF_ok ((Esca.nxE q.e z).2.take j) q.s HQ.out.k HQ.out.w).1
      have HPL : Hid (∀ a ∈ (Esca.nxE q.e z).2, a.par.length ≤ 1000000) := fun a ha => by have := Esca.nxE_par q.e z HQ.out.e a ha; omega
      generalize (Esca.nxE q.e z).1 = e1 at *
      generalize (Esca.nxE q.e z).2 = l1 at *
      clear hk1
      go_upto_region 6 with fail
      go_cut [12, 13] (fun v12 v13 wx => ∃ g F3 q3 AD ac, v12 = .pointer (some ⟨g, 0, none⟩) ∧ v13 = .slice AD l1.length ac ∧ HI w b0 q F D E f qq n c m d g e1 F3 q3 AD ac l1 wx)
      case first =>
        have std := st.next (Below.refl _ _).drew
        refine wp_region_held_drew (S := fun w' => EBox w' (b0 + 1) q.e (.slice F f qq)) (by kernel_rfl) (by exact std.esc) (fun hH0 => ?_)
        refine wpAnyH_take (i := 0) (oi := _) (v := Esca.escV q.e (.slice F f qq)) rfl (by kernel_rfl) (by kernel_rfl) (by kernel_rfl) (fun _ _ _ h => h) (Esca.yields_loadE (by rfl) rfl (by rfl) (fun _ h => h)) hH0 ?_
        change wpAnyH _ _ _ _ _ _ _ (Act.put _ (some 31) (Esca.escV q.e (.slice F f qq))) _
        simp only [Act.put, List.setIfInBounds_toArray, List.set_cons_zero, List.set_cons_succ]
        refine wpAnyH_take (i := 1) (oi := _) (v := .string s) rfl (by kernel_rfl) (by kernel_rfl) (by kernel_rfl) (fun _ _ _ h => h) (Or.inl ⟨by rfl, ?_⟩) hH0 ?_
        · intro wv hSw
          try dsimp only at hSw
          go_simp
        change wpAnyH _ _ _ _ _ _ _ (Act.put _ (some 32) (.string s)) _
        simp only [Act.put, List.setIfInBounds_toArray, List.set_cons_zero, List.set_cons_succ]
        refine wpAnyH_take (i := 2) (oi := _) (v := .int .i64 (k : Int)) rfl (by kernel_rfl) (by kernel_rfl) (by kernel_rfl) (fun _ _ _ h => h) (Or.inl ⟨by rfl, ?_⟩) hH0 ?_
        · intro wv hSw
          try dsimp only at hSw
          go_simp
        change wpAnyH _ _ _ _ _ _ _ (Act.put _ (some 33) (.int .i64 (k : Int))) _
        simp only [Act.put, List.setIfInBounds_toArray, List.set_cons_zero, List.set_cons_succ]
        refine wpAnyH_take (i := 3) (oi := _) (v := .int .u8 z) rfl (by kernel_rfl) (by kernel_rfl) (by kernel_rfl) (fun _ _ _ h => h) (Or.inl ⟨by rfl, ?_⟩) hH0 ?_
        · intro wv hSw
          try dsimp only at hSw
          go_simp
        change wpAnyH _ _ _ _ _ _ _ (Act.put _ (some 34) (.int .u8 z)) _
        simp only [Act.put, List.setIfInBounds_toArray, List.set_cons_zero, List.set_cons_succ]
        refine wpAnyH_ready (rs := [4, 8]) (by kernel_rfl) (by simp) ?_
        refine AllReadyH.cons (o := _) rfl (fun K hK => ?_) (AllReadyH.cons (o := _) rfl (fun K hK => ?_) AllReadyH.nil)
        · skip
          go_simp
          refine (HT.out wr.drew (Below.refl wr.drew.heap.size wr.drew)).mono ?_
          rintro x w3 ⟨F3, f3, q3, v3, rfl, i3, a3, b3⟩
          obtain rfl := Esca.ints_len i3
          obtain ⟨AD, ac, rfl⟩ := Esca.acts_form a3
          have bd3 := (Below.refl wr.drew.heap.size wr.drew).trans (b3.mono (Below.refl wr.drew.heap.size wr.drew).size)
          have hs3 := bd3.size
          refine hK.out _ _ (by exact Held.below std.esc bd3 (Held.lt std.esc)) (fun hH1 => ?_)
          clear hK K
          try simp only [Act.put, List.setIfInBounds_toArray, List.set_cons_zero, List.set_cons_succ]
          refine wpAnyH_take (i := 5) (oi := _) (v := .tuple #[Esca.escV e1 (.slice F3 e1.par.length q3), .slice AD l1.length ac]) rfl (by kernel_rfl) (by kernel_rfl) (by kernel_rfl) (fun _ _ _ h => h) (Or.inl ⟨by rfl, ?_⟩) hH1 ?_
          · intro wv hSw
            try dsimp only at hSw
            go_simp
          change wpAnyH _ _ _ _ _ _ _ (Act.put _ (some 30) (.tuple #[Esca.escV e1 (.slice F3 e1.par.length q3), .slice AD l1.length ac])) _
          simp only [Act.put, List.setIfInBounds_toArray, List.set_cons_zero, List.set_cons_succ]
          refine wpAnyH_take (i := 6) (oi := _) (v := Esca.escV e1 (.slice F3 e1.par.length q3)) rfl (by kernel_rfl) (by kernel_rfl) (by kernel_rfl) (fun _ _ _ h => h) (Or.inl ⟨by rfl, ?_⟩) hH1 ?_
          · intro wv hSw
            try dsimp only at hSw
            go_simp
          change wpAnyH _ _ _ _ _ _ _ (Act.put _ (some 36) (Esca.escV e1 (.slice F3 e1.par.length q3))) _
          simp only [Act.put, List.setIfInBounds_toArray, List.set_cons_zero, List.set_cons_succ]
          refine wpAnyH_take (i := 7) (oi := _) (v := .slice AD l1.length ac) rfl (by kernel_rfl) (by kernel_rfl) (by kernel_rfl) (fun _ _ _ h => h) (Or.inl ⟨by rfl, ?_⟩) hH1 ?_
          · intro wv hSw
            try dsimp only at hSw
            go_simp
          change wpAnyH _ _ _ _ _ _ _ (Act.put _ (some 37) (.slice AD l1.length ac)) _
          simp only [Act.put, List.setIfInBounds_toArray, List.set_cons_zero, List.set_cons_succ]
          refine wpAnyH_ready (rs := [8]) (by kernel_rfl) (by simp) ?_
          refine AllReadyH.cons (o := _) rfl (fun K hK => ?_) AllReadyH.nil
          go_simp
          have bd4 := bd3.alloc bd3.size (.cells (Esca.escC Esca.E.zero nilV) 32)
          refine hK.out _ _ (by exact Held.below std.esc bd4 (Held.lt std.esc)) (fun hH2 => ?_)
          clear hK K
          try simp only [Act.put, List.setIfInBounds_toArray, List.set_cons_zero, List.set_cons_succ]
          refine wpAnyH_ready (rs := [9]) (by kernel_rfl) (by simp) ?_
          refine AllReadyH.cons (o := _) rfl (fun K hK => ?_) AllReadyH.nil
          rw [if_pos (by rfl)]
          have hbx : EBox (w3.alloc (.cells (Esca.escC Esca.E.zero nilV) 32)) w3.heap.size Esca.E.zero nilV := Held.new _ _ _
          refine Esca.wp_storeEo hbx (x := .tmp 12) (y := .tmp 36) (e' := e1) (F := F3) (f := e1.par.length) (q := q3) rfl rfl rfl ?_
          have hb1 := Held.lt std.esc
          have hg : b0 + 1 < w3.heap.size := Nat.lt_of_lt_of_le hb1 bd3.size
          have fin : HI w b0 q F D E f qq n c m d w3.heap.size e1 F3 q3 AD ac l1 ((w3.alloc (.cells (Esca.escC Esca.E.zero nilV) 32)).setRow w3.heap.size (Esca.escC e1 (.slice F3 e1.par.length q3))) := HI.make std bd4 hbx bd3.size (i3.alloc _) (a3.alloc _)
          refine hK.out _ _ (by exact fin.st.esc) (fun hH3 => ?_)
          clear hK K
          try simp only [Act.put, List.setIfInBounds_toArray, List.set_cons_zero, List.set_cons_succ]
          refine wpAnyH_take (i := 10) (oi := _) (v := .slice AD l1.length ac) rfl (by kernel_rfl) (by kernel_rfl) (by kernel_rfl) (fun _ _ _ h => h) (Or.inl ⟨by rfl, ?_⟩) hH3 ?_
          · intro wv hSw
            try dsimp only at hSw
            go_simp
          change wpAnyH _ _ _ _ _ _ _ (Act.put _ (some 13) (.slice AD l1.length ac)) _
          simp only [Act.put, List.setIfInBounds_toArray, List.set_cons_zero, List.set_cons_succ]
          refine wpAnyH_done (by kernel_rfl) ?_ _
          go_wp2_with fail
          go_meet
          exact ⟨_, _, _, _, _, rfl, rfl, fin⟩
        · go_simp
          have bd4 : Below wr.drew.heap.size wr.drew (wr.drew.alloc (.cells (Esca.escC Esca.E.zero nilV) 32)) := (Below.refl _ _).alloc (Nat.le_refl _) _
          refine hK.out _ _ (by exact Held.below std.esc bd4 (Held.lt std.esc)) (fun hH1 => ?_)
          clear hK K
          try simp only [Act.put, List.setIfInBounds_toArray, List.set_cons_zero, List.set_cons_succ]
          refine wpAnyH_ready (rs := [4]) (by kernel_rfl) (by simp) ?_
          refine AllReadyH.cons (o := _) rfl (fun K hK => ?_) AllReadyH.nil
          go_simp
          refine (HT.out (wr.drew.alloc (.cells (Esca.escC Esca.E.zero nilV) 32)) (bd4)).mono ?_
          rintro x w3 ⟨F3, f3, q3, v3, rfl, i3, a3, b3⟩
          obtain rfl := Esca.ints_len i3
          obtain ⟨AD, ac, rfl⟩ := Esca.acts_form a3
          have bd3 := (bd4).trans (b3.mono (bd4).size)
          have hs3 := bd3.size
          refine hK.out _ _ (by exact Held.below std.esc bd3 (Held.lt std.esc)) (fun hH2 => ?_)
          clear hK K
          try simp only [Act.put, List.setIfInBounds_toArray, List.set_cons_zero, List.set_cons_succ]
          refine wpAnyH_take (i := 5) (oi := _) (v := .tuple #[Esca.escV e1 (.slice F3 e1.par.length q3), .slice AD l1.length ac]) rfl (by kernel_rfl) (by kernel_rfl) (by kernel_rfl) (fun _ _ _ h => h) (Or.inl ⟨by rfl, ?_⟩) hH2 ?_
          · intro wv hSw
            try dsimp only at hSw
            go_simp
          change wpAnyH _ _ _ _ _ _ _ (Act.put _ (some 30) (.tuple #[Esca.escV e1 (.slice F3 e1.par.length q3), .slice AD l1.length ac])) _
          simp only [Act.put, List.setIfInBounds_toArray, List.set_cons_zero, List.set_cons_succ]
          refine wpAnyH_take (i := 6) (oi := _) (v := Esca.escV e1 (.slice F3 e1.par.length q3)) rfl (by kernel_rfl) (by kernel_rfl) (by kernel_rfl) (fun _ _ _ h => h) (Or.inl ⟨by rfl, ?_⟩) hH2 ?_
          · intro wv hSw
            try dsimp only at hSw
            go_simp
          change wpAnyH _ _ _ _ _ _ _ (Act.put _ (some 36) (Esca.escV e1 (.slice F3 e1.par.length q3))) _
          simp only [Act.put, List.setIfInBounds_toArray, List.set_cons_zero, List.set_cons_succ]
          refine wpAnyH_take (i := 7) (oi := _) (v := .slice AD l1.length ac) rfl (by kernel_rfl) (by kernel_rfl) (by kernel_rfl) (fun _ _ _ h => h) (Or.inl ⟨by rfl, ?_⟩) hH2 ?_
          · intro wv hSw
            try dsimp only at hSw
            go_simp
          change wpAnyH _ _ _ _ _ _ _ (Act.put _ (some 37) (.slice AD l1.length ac)) _
          simp only [Act.put, List.setIfInBounds_toArray, List.set_cons_zero, List.set_cons_succ]
          refine wpAnyH_ready (rs := [9]) (by kernel_rfl) (by simp) ?_
          refine AllReadyH.cons (o := _) rfl (fun K hK => ?_) AllReadyH.nil
          rw [if_pos (by rfl)]
          have hbx : EBox w3 wr.drew.heap.size Esca.E.zero nilV := Held.below (Held.new wr.drew 32 (Esca.escC Esca.E.zero nilV)) b3 (by simp)
          refine Esca.wp_storeEo hbx (x := .tmp 12) (y := .tmp 36) (e' := e1) (F := F3) (f := e1.par.length) (q := q3) rfl rfl rfl ?_
          have hb1 := Held.lt std.esc
          have fin : HI w b0 q F D E f qq n c m d wr.drew.heap.size e1 F3 q3 AD ac l1 (w3.setRow wr.drew.heap.size (Esca.escC e1 (.slice F3 e1.par.length q3))) := HI.make std bd3 hbx (Nat.le_refl _) i3 a3
          refine hK.out _ _ (by exact fin.st.esc) (fun hH3 => ?_)
          clear hK K
          try simp only [Act.put, List.setIfInBounds_toArray, List.set_cons_zero, List.set_cons_succ]
          refine wpAnyH_take (i := 10) (oi := _) (v := .slice AD l1.length ac) rfl (by kernel_rfl) (by kernel_rfl) (by kernel_rfl) (fun _ _ _ h => h) (Or.inl ⟨by rfl, ?_⟩) hH3 ?_
          · intro wv hSw
            try dsimp only at hSw
            go_simp
          change wpAnyH _ _ _ _ _ _ _ (Act.put _ (some 13) (.slice AD l1.length ac)) _
          simp only [Act.put, List.setIfInBounds_toArray, List.set_cons_zero, List.set_cons_succ]
          refine wpAnyH_done (by kernel_rfl) ?_ _
          go_wp2_with fail
          go_meet
          exact ⟨_, _, _, _, _, rfl, rfl, fin⟩
      case rest =>
        obtain ⟨g, F3, q3, AD, ac, rfl, rfl, hi⟩ := hcut
        clear st HT
        have hzl : l1.length ≤ 3 := HLN.out
        have xe := hi.box
        have x4 := hi.st.esc
        go_upto_region 8 with (first
          | (with_reducible refine wpList_loadE' xe (x := .tmp 12) ?_ ?_ ?_ ?_
             · with_reducible rfl
             · rfl
             · rfl)
          | (with_reducible refine Esca.wpList_storeEo x4 (x := .tmp 10) (y := .tmp 38) (e' := e1) (F := F3) (f := e1.par.length) (q := q3) ?_ ?_ ?_ ?_ ?_
             · with_reducible rfl
             · rfl
             · rfl
             · rfl))
        refine wp_world (fun wq => HS w b0 ⟨e1, q.s⟩ F3 D E e1.par.length q3 n c m d wq ∧ Esca.Acts wq (b0 + 2) (.slice AD l1.length ac) l1) ⟨⟨(setRow_other _ _ _ _ (by omega)).trans hi.st.box, setRow_heap wc (b0 + 1) _ _ 32 (0, 0) x4, Esca.ints_box hi.par x4 _, hi.st.scr.put (by omega) (by omega) _, below_setRow hi.st.below (by have := hi.st.lo; omega) _, hi.st.lo⟩, Esca.acts_box hi.acts x4 _⟩ ?_
        clear x4 xe hi
        rintro w5 ⟨st5, a5⟩
        go_wp2_with fail
        go_loopw [41] (HARel w b0 e1 q.s l1 (.slice AD l1.length ac)) (fun i _ => l1.length - (intOf i).toNat)
        case atStart => exact ⟨0, _, _, _, _, _, _, _, _, _, rfl, Nat.zero_le _, st5, a5⟩
        case round =>
          clear st5 a5
          obtain ⟨j, F, D, E, f, qq, n, c, m, d, rfl, hjl, st, a6⟩ := hrel
          by_cases hlt : j < l1.length
          · have hji : (j : Int) < (l1.length : Int) := by omega
            obtain ⟨AD', ac', eA, hA⟩ := a6.read
            cases eA
            obtain ⟨ab, ⟨ak, ar, ap⟩, P, rfl, hzj, y0, y1, y2, iP⟩ := hA j hlt
            clear hA
            dsimp only at y0 y1 y2 iP
            have HN2 := Lib.hid (actsF_take q.s l1 j _ hzj)
            have hap : ap.length ≤ 1000000 := HPL.out _ (List.mem_of_getElem? hzj)
            have hk := HOK.out j
            generalize actsF q.s (l1.take j) = s1 at *
            have hR := readI_ints iP
            obtain ⟨PD, pc, rfl⟩ := Esca.ints_form iP
            have HA := fun wx (hb : Below wr.heap.size wr wx) => act_all ak ar PD D E pc n c m d ap wx (st.scr.get.below hb (Nat.le_refl _)) hk (hR.below hb (Nat.le_refl _)) hap
            dsimp only at HA
            have HAH := Lib.hid HA
            clear HA hzj hR iP hk
            go_upto_region 11 with fail
            refine wp_world (fun wq => HS w b0 ⟨e1, s1⟩ F D E f qq n c m d wq ∧ Held wq wr.heap.size 44 #[.int .i64 ak, .int .i32 ar, .slice PD ap.length pc] ∧ Below wr.heap.size wr wq) ⟨st.next (by repeat (first | exact (Below.refl _ _).alloc (Nat.le_refl _) _ | refine Below.setCell ?_ (by exact Nat.le_refl _) _)), by first | exact Held.new _ _ _ | exact (((Held.new wr 44 _).set1 0 _).set1 1 _).set1 2 _, by repeat (first | exact (Below.refl _ _).alloc (Nat.le_refl _) _ | refine Below.setCell ?_ (by exact Nat.le_refl _) _)⟩ ?_
            clear y0 y1 y2
            rintro w6 ⟨st6, ha, b6⟩
            have x6 := st6.box
            have y0 := ha.cell 0
            have y1 := ha.cell 1
            have y2 := ha.cell 2
            simp only [List.getElem?_toArray, List.getElem?_cons_zero, List.getElem?_cons_succ] at y0 y1 y2
            have hx6 := x6.lt
            go_upto_region 12 with (first
              | (with_reducible refine wpList_loadB x6 (x := .tmp 9) ?_ ?_ ?_ ?_
                 · with_reducible rfl
                 · rfl
                 · rfl)
              | (go_at_call 14
                 refine (HAH.out _ b6).mono ?_
                 rintro x w7 ⟨D7, E7, n7, c7, m7, d7, rfl, s7, b7⟩
                 have st7 := st6.next b7
                 have x7 := st7.box)
              | (with_reducible refine wpList_storeA x7 (x := .tmp 9) (y := .tmp 47) (p := (actF s1 ak ar ap).p) (D := D7) (n := n7) (c := c7) (E := E7) (m := m7) (d := d7) ?_ ?_ ?_ ?_ ?_
                 · with_reducible rfl
                 · rfl
                 · rfl
                 · rfl))
            go_wp2_with fail
            go_roundw
            case rel =>
              refine ⟨j + 1, F, D7, E7, f, qq, n7, c7, m7, d7, by go_num, by omega, ?_, acts_put ((a6.below (Below.refl _ _) (Nat.le_refl _)).below (b6.trans (b7.mono b6.size)) (Nat.le_refl _)) (by omega) _⟩
              rw [HN2.out]
              have he6 := Held.lt st6.esc
              exact ⟨x7.setRow _ _ _, (setRow_other _ _ _ _ (by omega)).trans st7.esc, ints_put st7.par (by omega) _, .inr ((s7.weak (show b0 + 2 ≤ w6.heap.size from he6)).put (by omega) _), below_setRow st7.below st7.lo _, st7.lo⟩
            case measure => simp [intOf]; omega
          · have hji : ¬ (j : Int) < (l1.length : Int) := by omega
            have hj : j = l1.length := by omega
            subst hj
            rw [List.take_length] at st
            clear a6
            go_wp2_with fail
            go_roundw
            case rel =>
              refine ⟨k + 1, F, D, E, f, qq, n, c, m, d, by go_num, by rw [HL.out]; omega, ?_⟩
              rw [HN.out, HE.out]
              exact st
            case measure =>
              simp [intOf]
              rw [HL.out]
              omega
    · have hki : ¬ (k : Int) < (s.size : Int) := by omega
      have hk : k = (strB s).length := by rw [HL.out] at hkl ⊢; omega
      subst hk
      rw [List.take_length] at st
      have HOKQ := Lib.hid (HK.out.feedP (strB s))
      obtain ⟨q, hq⟩ : ∃ q, q = feedP q0 (strB s) := ⟨_, rfl⟩
      rw [← hq] at st HOKQ
      have HQ := Lib.hid hq
      clear hq
      have HLL := Lib.hid (showL_le q.s.L HOKQ.out.k.ok.rows)
      go_upto_region 14 with fail
      have x13 := st.box.cells.c13
      have hn3 : n = 3 := by rw [← st.scr.get.nr]; exact HOKQ.out.k.ok.ln
      subst hn3
      go_wp2_with fail
      go_loopw [16, 52] (TRel w b0 q F D E f qq 3 c m d) (fun _ i _ => 3 - (intOf i).toNat)
      case atStart => exact ⟨0, rfl, by omega, rfl, st⟩
      case round =>
        clear st x13
        obtain ⟨y, rfl, hy3, rfl, st⟩ := hrel
        by_cases hy : y < 3
        · have hyi : (y : Int) < 3 := by omega
          have hyl : y < q.s.L.length := by rw [HOKQ.out.k.ok.ln]; exact hy
          have x13 := st.box.cells.c13
          obtain ⟨tb, tq, R, cr, rfl, _, _, _, t0, hcr, hrow⟩ := st.scr.get.rows.at y hyl
          obtain ⟨l, hl5, HAL, HNX0⟩ : ∃ l : List C, l.length = 5 ∧ Hid (∀ k (hk : k < l.length), ∃ b off : Nat, R = some ⟨b, off, none⟩ ∧ b < wr.heap.size ∧ wr.cell? ⟨b, off + k * 2, none⟩ = some (.int .i32 l[k].r) ∧ wr.cell? ⟨b, off + k * 2 + 1, none⟩ = some (.int .i64 l[k].a)) ∧ showL q.s.L (y + 1) = showR (if 0 < y then showL q.s.L y ++ ⟨#[47]⟩ else showL q.s.L y) l :=
            ⟨q.s.L[y], HOKQ.out.k.ok.rows _ (List.getElem_mem hyl), Lib.hid fun k hk => by
              obtain ⟨b, off, e, _, h1, _, h2, h3⟩ := hrow k hk
              exact ⟨b, off, e, h1, h2, h3⟩, by rw [showL, List.getD_eq_getElem?_getD, List.getElem?_eq_getElem hyl]; rfl⟩
          have t0' : wr.cell? ⟨tb, tq + y, none⟩ = some (.slice R 5 cr) := by
            rw [t0, HOKQ.out.k.ok.rows _ (List.getElem_mem hyl)]
          have hs1 := HLL.out y
          clear t0 hcr hrow HOKQ HLL
          by_cases hy0 : 0 < y
          · have hyp : 0 < y := hy0
            have hypi : 0 < (y : Int) := by omega
            rw [if_pos hyp] at HNX0
            have hsc : ¬ (9223372036854775807 : Int) < (((showL q.s.L y).size + 1 : Nat) : Int) := by omega
            obtain ⟨acc, hacc⟩ : ∃ acc, acc = showL q.s.L y ++ (⟨#[47]⟩ : ByteArray) := ⟨_, rfl⟩
            have hsz : acc.size ≤ 100 := by
              rw [hacc, ByteArray.size_append]
              have : (⟨#[47]⟩ : ByteArray).size = 1 := rfl
              omega
            have hsc2 : ∀ wx, (Op.stringOp .add (showL q.s.L y) ⟨#[47]⟩).run Try.prog wx = .ok (.string acc) wx := fun wx => by rw [hacc]; exact cat_ok _ _ (by have : (⟨#[47]⟩ : ByteArray).size = 1 := rfl; omega) wx
            rw [← hacc] at HNX0
            have HNX := Lib.hid HNX0
            go_upto_region 19 with (first | rw [hsc2])
            go_wp2_with fail
            go_loopw [16, 65] (TRowRel w b0 q F (some ⟨tb, tq, none⟩) E f qq 3 c m d acc l wr) (fun _ i _ => 5 - (intOf i).toNat)
            case atStart => exact ⟨0, rfl, by omega, by rw [hacc]; rfl, st, Below.refl _ _⟩
            case round =>
              clear st x13 t0'
              obtain ⟨x, rfl, hx5, rfl, st, hbo⟩ := hrel
              by_cases hx : x < 5
              · have hxi : (x : Int) < 5 := by omega
                obtain ⟨rb, ro, rfl, hrb, c0, c1⟩ := HAL.out x (by omega)
                replace c0 := (hbo.cell (p := ⟨rb, ro + x * 2, none⟩) hrb).trans c0
                replace c1 := (hbo.cell (p := ⟨rb, ro + x * 2 + 1, none⟩) hrb).trans c1
                have HTK := Lib.hid (showR_take acc l x (by omega))
                have hsx := showR_le (l.take x) acc
                rw [List.length_take] at hsx
                have hsx2 : (showR acc (l.take x)).size ≤ 200 := by omega
                have HCC : Hid (showC l[x] = Utf8.encode (if l[x].r = 32 then 46 else l[x].r)) := Lib.hid rfl
                generalize l[x].r = r at *
                generalize l[x].a = ca at *
                generalize hTT : showR acc (l.take x) = tt at *
                clear hsx hTT
                by_cases h32 : r = 32
                · rw [if_pos h32] at HCC
                  subst h32
                  have hcat : ∀ wx, (Op.stringOp .add tt (Utf8.encode 46)).run Try.prog wx = .ok (.string (tt ++ Utf8.encode 46)) wx := fun wx => cat_ok _ _ (by have := encode_le 46; omega) wx
                  go_wp2_with (first | rw [hcat])
                  go_roundw
                  case rel => exact ⟨x + 1, by go_num, by omega, by rw [HTK.out, HCC.out], st.next (by repeat (first | exact (Below.refl _ _).alloc (Nat.le_refl _) _ | refine Below.setCell ?_ (by exact Nat.le_refl _) _)), hbo.trans (Below.mono (by repeat (first | exact (Below.refl _ _).alloc (Nat.le_refl _) _ | refine Below.setCell ?_ (by exact Nat.le_refl _) _)) hbo.size)⟩
                  case measure => simp [intOf]; omega
                · rw [if_neg h32] at HCC
                  have hb32 : (r == 32) = false := beq_eq_false_iff_ne.2 h32
                  have hcat : ∀ wx, (Op.stringOp .add tt (Utf8.encode r)).run Try.prog wx = .ok (.string (tt ++ Utf8.encode r)) wx := fun wx => cat_ok _ _ (by have := encode_le r; omega) wx
                  go_wp2_with (first | rw [hcat])
                  go_roundw
                  case rel => exact ⟨x + 1, by go_num, by omega, by rw [HTK.out, HCC.out], st.next (by repeat (first | exact (Below.refl _ _).alloc (Nat.le_refl _) _ | refine Below.setCell ?_ (by exact Nat.le_refl _) _)), hbo.trans (Below.mono (by repeat (first | exact (Below.refl _ _).alloc (Nat.le_refl _) _ | refine Below.setCell ?_ (by exact Nat.le_refl _) _)) hbo.size)⟩
                  case measure => simp [intOf]; omega
              · have hxi : ¬ (x : Int) < 5 := by omega
                obtain rfl : x = 5 := by omega
                clear HAL hbo
                go_wp2_with fail
                go_roundw
                case rel => exact ⟨y + 1, by go_num, by omega, by rw [HNX.out, ← hl5, List.take_length], st⟩
                case measure => simp [intOf]; omega
          · have hyp : ¬ 0 < y := hy0
            have hypi : ¬ 0 < (y : Int) := by omega
            rw [if_neg hyp] at HNX0
            obtain ⟨acc, hacc⟩ : ∃ acc, acc = showL q.s.L y := ⟨_, rfl⟩
            have hsz : acc.size ≤ 100 := by rw [hacc]; omega
            rw [← hacc] at HNX0
            have HNX := Lib.hid HNX0
            go_upto_region 19 with fail
            go_wp2_with fail
            go_loopw [16, 65] (TRowRel w b0 q F (some ⟨tb, tq, none⟩) E f qq 3 c m d acc l wr) (fun _ i _ => 5 - (intOf i).toNat)
            case atStart => exact ⟨0, rfl, by omega, by rw [hacc]; rfl, st, Below.refl _ _⟩
            case round =>
              clear st x13 t0'
              obtain ⟨x, rfl, hx5, rfl, st, hbo⟩ := hrel
              by_cases hx : x < 5
              · have hxi : (x : Int) < 5 := by omega
                obtain ⟨rb, ro, rfl, hrb, c0, c1⟩ := HAL.out x (by omega)
                replace c0 := (hbo.cell (p := ⟨rb, ro + x * 2, none⟩) hrb).trans c0
                replace c1 := (hbo.cell (p := ⟨rb, ro + x * 2 + 1, none⟩) hrb).trans c1
                have HTK := Lib.hid (showR_take acc l x (by omega))
                have hsx := showR_le (l.take x) acc
                rw [List.length_take] at hsx
                have hsx2 : (showR acc (l.take x)).size ≤ 200 := by omega
                have HCC : Hid (showC l[x] = Utf8.encode (if l[x].r = 32 then 46 else l[x].r)) := Lib.hid rfl
                generalize l[x].r = r at *
                generalize l[x].a = ca at *
                generalize hTT : showR acc (l.take x) = tt at *
                clear hsx hTT
                by_cases h32 : r = 32
                · rw [if_pos h32] at HCC
                  subst h32
                  have hcat : ∀ wx, (Op.stringOp .add tt (Utf8.encode 46)).run Try.prog wx = .ok (.string (tt ++ Utf8.encode 46)) wx := fun wx => cat_ok _ _ (by have := encode_le 46; omega) wx
                  go_wp2_with (first | rw [hcat])
                  go_roundw
                  case rel => exact ⟨x + 1, by go_num, by omega, by rw [HTK.out, HCC.out], st.next (by repeat (first | exact (Below.refl _ _).alloc (Nat.le_refl _) _ | refine Below.setCell ?_ (by exact Nat.le_refl _) _)), hbo.trans (Below.mono (by repeat (first | exact (Below.refl _ _).alloc (Nat.le_refl _) _ | refine Below.setCell ?_ (by exact Nat.le_refl _) _)) hbo.size)⟩
                  case measure => simp [intOf]; omega
                · rw [if_neg h32] at HCC
                  have hb32 : (r == 32) = false := beq_eq_false_iff_ne.2 h32
                  have hcat : ∀ wx, (Op.stringOp .add tt (Utf8.encode r)).run Try.prog wx = .ok (.string (tt ++ Utf8.encode r)) wx := fun wx => cat_ok _ _ (by have := encode_le r; omega) wx
                  go_wp2_with (first | rw [hcat])
                  go_roundw
                  case rel => exact ⟨x + 1, by go_num, by omega, by rw [HTK.out, HCC.out], st.next (by repeat (first | exact (Below.refl _ _).alloc (Nat.le_refl _) _ | refine Below.setCell ?_ (by exact Nat.le_refl _) _)), hbo.trans (Below.mono (by repeat (first | exact (Below.refl _ _).alloc (Nat.le_refl _) _ | refine Below.setCell ?_ (by exact Nat.le_refl _) _)) hbo.size)⟩
                  case measure => simp [intOf]; omega
              · have hxi : ¬ (x : Int) < 5 := by omega
                obtain rfl : x = 5 := by omega
                clear HAL hbo
                go_wp2_with fail
                go_roundw
                case rel => exact ⟨y + 1, by go_num, by omega, by rw [HNX.out, ← hl5, List.take_length], st⟩
                case measure => simp [intOf]; omega
        · have hyi : ¬ (y : Int) < 3 := by omega
          obtain rfl : y = 3 := by omega
          have x2 := st.box.cells.c2
          have x3 := st.box.cells.c3
          have hbl := st.below
          clear HLL HOKQ st
          go_upto_region 27 with fail
          go_quiet (fail)
          go_wp2_with fail
          refine bodyPost_ret (v := .tuple #[.string (showL q.s.L 3), .int .i64 q.s.p.x, .int .i64 q.s.p.y]) (by simp [results, Try.results9, go_sem]) rfl ?_
          rw [← HQ.out]
          exact ⟨rfl, below_drewN hbl _⟩
end Go.Proofs.Ytpcpmeihebgncaa
