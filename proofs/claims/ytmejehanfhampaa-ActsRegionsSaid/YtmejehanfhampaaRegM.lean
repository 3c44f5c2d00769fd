/-
  What lines that come and go within a region make of six rows, as plain lists, for every region and number that ActsRegions asks: reckoned; and what Apply answers for them. Conditions: those of the calls.
-/
import Derived.Test.YtmejehanfhampaaBounds
import Derived.Test.YtmejehanfhampaaWrapM
namespace Go.Proofs.Ytmejehanfhampaa
open Go.RowKit
set_option maxRecDepth 100000

/-- Six rows of one sign each. -/
def sixL (k : Nat) : List (List C) := (List.range 6).map fun y => [⟨if y < k then 97 + (y : Int) else 32, 0⟩]
def atF (t u : Nat) (dn : Bool) : Nat := if dn then t else u
/-- The screen's numbers with its region, and the cursor at the region's edge. -/
def rgNm (t u : Nat) (y : Int) : Nm := ⟨1, 6, 0, y, false, 0, t, u, 0, 0, 0, false, false⟩
def rstep (dn : Bool) (s : WS) : WS := if dn then ⟨movedNm s.p s.p.x s.p.y, downG s.p s.L, s.B⟩ else ⟨movedNm s.p s.p.x s.p.y, upG s.p s.L, upGB s.p s.L s.B⟩
def rst (t u : Nat) (dn : Bool) : Nat → WS
  | 0 => ⟨rgNm t u (atF t u dn), sixL 6, []⟩
  | i + 1 => rstep dn (rst t u dn i)
def wantF (t u : Nat) (dn : Bool) (n y : Nat) : Int := if t ≤ y ∧ y ≤ u then (if dn then (if t + n ≤ y then 97 + (y : Int) - n else 32) else (if y + n ≤ u then 97 + (y : Int) + n else 32)) else 97 + (y : Int)
def rchk (t u : Nat) (dn : Bool) (n : Nat) (s : WS) : Bool := okB 1 6 s && decide (s.p.top = t) && decide (s.p.bottom = u) && decide (s.p.y = atF t u dn) && decide (s.B.length = if t = 0 ∧ dn = false then n else 0) && (List.range 6).all fun y => decide (runeAt s.L y 0 = wantF t u dn n y)
def rrun (t u : Nat) (dn : Bool) : Nat → Nat → WS → Bool
  | 0, i, s => rchk t u dn i s
  | f + 1, i, s => rchk t u dn i s && rrun t u dn f (i + 1) (rstep dn s)
theorem rrun_all : ((List.range 6).all fun t => (List.range 6).all fun u => !decide (t < u) || (rrun t u false 8 0 (rst t u false 0) && rrun t u true 8 0 (rst t u true 0))) = true := by decide +kernel
theorem rrun_at {t u : Nat} {dn : Bool} : ∀ (f i : Nat), rrun t u dn f i (rst t u dn i) = true → ∀ j, j ≤ f → rchk t u dn (i + j) (rst t u dn (i + j)) = true
  | 0, i, h, j, hj => by
    obtain rfl : j = 0 := by omega
    exact h
  | f + 1, i, h, j, hj => by
    simp only [rrun, Bool.and_eq_true] at h
    cases j with
    | zero => exact h.1
    | succ j =>
      have := rrun_at f (i + 1) (by simpa [rst] using h.2) j (by omega)
      rw [show i + (j + 1) = i + 1 + j by omega]
      exact this
structure RgOk (t u : Nat) (dn : Bool) (n : Nat) (s : WS) : Prop where
  ok : OkS 1 6 s
  top : s.p.top = t
  bottom : s.p.bottom = u
  y : s.p.y = atF t u dn
  back : s.B.length = if t = 0 ∧ dn = false then n else 0
  runes : ∀ y, y < 6 → runeAt s.L y 0 = wantF t u dn n y
theorem rg_ok (t u : Nat) (dn : Bool) (n : Nat) (hu : u < 6) (ht : t < u) (hn : n ≤ 8) : RgOk t u dn n (rst t u dn n) := by
  have h := rrun_all
  rw [List.all_eq_true] at h
  have h1 := h t (List.mem_range.2 (by omega))
  rw [List.all_eq_true] at h1
  have h2 := h1 u (List.mem_range.2 hu)
  simp only [ht, decide_true, Bool.not_true, Bool.false_or, Bool.and_eq_true] at h2
  have h3 : rchk t u dn n (rst t u dn n) = true := by
    cases dn with
    | false => simpa using rrun_at 8 0 h2.1 n hn
    | true => simpa using rrun_at 8 0 h2.2 n hn
  simp only [rchk, Bool.and_eq_true, decide_eq_true_eq, List.all_eq_true, List.mem_range] at h3
  obtain ⟨⟨⟨⟨⟨a, b⟩, c⟩, d⟩, e⟩, f⟩ := h3
  exact ⟨okS a, b, c, d, e, f⟩

theorem none_le' : ∀ r ∈ ([] : List (List C)), r.length ≤ 1000 := by simp
/-- A line comes or goes, by Apply. -/
theorem rapply_any (s : WS) (t u : Nat) (dn : Bool) (k : Nat) (D E : Option Addr) (n c m d : Nat) (w : World) (hs : Scr 0 w D E n c m d s.L s.B) (h : RgOk t u dn k s) :
    Calls Try.prog 13 #[gv s.p (.slice D n c) (.slice E m d), .agg #[.int .i64 3, .int .i32 (if dn then 77 else 68), .slice none 0 0]] w (GridPost w (rstep dn s).p (rstep dn s).L (rstep dn s).B) := by
  have hl : ∀ r ∈ s.L, r.length ≤ 1000 := fun l hl => by have := h.ok.rows l hl; omega
  have hn : s.L.length = 6 := h.ok.ln
  have on := h.ok.on (by decide) (by decide)
  refine app_esc s.p _ D E none n c m d 0 0 s.L s.B _ _ _ w hs (by have := hs.nr; omega) (by have := hs.nb; have := h.ok.bn; omega) hl h.ok.back fun B wx g gh hb ho => ?_
  cases dn with
  | false => exact escD_any B s.p s.p g gh s.L s.B _ _ wx ho on fun wy hy => lineUp_any B s.p g gh s.L s.B wy (ho.below hy (Nat.le_refl _)) (by rw [h.y, h.bottom]; rfl) (by omega) (by omega) h.ok.bn hl h.ok.back
  | true => exact escM_any B s.p _ g gh s.L s.B _ _ wx ho fun wy hy => lineBack_any B s.p g gh s.L s.B wy (ho.below hy (Nat.le_refl _)) on (by rw [h.y, h.top]; rfl) (by omega) (by omega) h.ok.bn hl h.ok.back

theorem six_len : (sixL 6).length = 6 := rfl
theorem six_rows (k : Nat) : ∀ r ∈ sixL k, r.length ≤ 1000 := by
  intro r hr
  simp only [sixL, List.mem_map] at hr
  obtain ⟨y, _, rfl⟩ := hr
  simp
/-- The region is told. -/
theorem rset_any (t u bp : Nat) (D E : Option Addr) (c m d : Nat) (w : World) (hs : Scr 0 w D E 6 c m d (sixL 6) []) (hu : u < 6) (ht : t < u) (hp : Held w bp 3 #[.int .i64 ((t : Int) + 1), .int .i64 ((u : Int) + 1)]) :
    Calls Try.prog 13 #[gv (newNm 1 6) (.slice D 6 c) (.slice E m d), .agg #[.int .i64 4, .int .i32 114, .slice (some ⟨bp, 0, none⟩) 2 2]] w (GridPost w (rgNm t u 0) (sixL 6) []) := by
  have hm : m = 0 := by have := hs.nb; simpa using this.symm
  refine app_csi _ _ D E (some ⟨bp, 0, none⟩) 6 c m d 2 2 _ _ _ _ 114 w hs (by decide) (by omega) (six_rows 6) none_le' fun B wx g h hb ho => ?_
  have hri : ReadI wx (.slice (some ⟨bp, 0, none⟩) [(t : Int) + 1, (u : Int) + 1].length 2) [(t : Int) + 1, (u : Int) + 1] := by
    refine ⟨_, _, rfl, fun k hk => ?_⟩
    have hpx := hp.below hb hp.lt
    have : k = 0 ∨ k = 1 := by simp at hk; omega
    rcases this with rfl | rfl
    · exact ⟨bp, 0, _, rfl, hpx.lt, rfl, hpx.cell 0⟩
    · exact ⟨bp, 0, _, rfl, hpx.lt, rfl, hpx.cell 1⟩
  have e1 : toldF [(t : Int) + 1, (u : Int) + 1] 0 1 = (t : Int) + 1 := by
    simp only [toldF, List.getElem?_cons_zero]
    rw [if_neg (by omega)]
    omega
  have e2 : toldF [(t : Int) + 1, (u : Int) + 1] 1 (newNm 1 6).h = (u : Int) + 1 := by
    simp only [toldF, List.getElem?_cons_succ, List.getElem?_cons_zero]
    rw [if_neg (by omega)]
    omega
  have := seq_r (newNm 1 6) (some ⟨g, 0, none⟩) (some ⟨h, 0, none⟩) (some ⟨bp, 0, none⟩) (sixL 6).length (sixL 6).length ([] : List (List C)).length ([] : List (List C)).length 2 [(t : Int) + 1, (u : Int) + 1] t u wx hri ⟨by decide, by decide, by decide, by decide, by decide, by decide, by decide, by decide⟩ (by rw [e1]; show withinF _ (6 - 1) = _; unfold withinF; omega) (by rw [e2]; show withinF _ (6 - 1) = _; unfold withinF; omega) (by omega)
  exact this.mono fun _ _ x => ValPost.into ho x
/-- The cursor goes to the region's edge. -/
theorem rgo_any (t u a bp : Nat) (D E : Option Addr) (c m d : Nat) (w : World) (hs : Scr 0 w D E 6 c m d (sixL 6) []) (ha : a < 6) (hp : Held w bp 3 #[.int .i64 ((a : Int) + 1)]) :
    Calls Try.prog 13 #[gv (rgNm t u 0) (.slice D 6 c) (.slice E m d), .agg #[.int .i64 4, .int .i32 100, .slice (some ⟨bp, 0, none⟩) 1 1]] w (GridPost w (rgNm t u a) (sixL 6) []) := by
  have hm : m = 0 := by have := hs.nb; simpa using this.symm
  refine app_csi _ _ D E (some ⟨bp, 0, none⟩) 6 c m d 1 1 _ _ _ _ 100 w hs (by decide) (by omega) (six_rows 6) none_le' fun B wx g h hb ho => ?_
  have hri : ReadI wx (.slice (some ⟨bp, 0, none⟩) [(a : Int) + 1].length 1) [(a : Int) + 1] := by
    refine ⟨_, _, rfl, fun k hk => ?_⟩
    have hpx := hp.below hb hp.lt
    obtain rfl : k = 0 := by simp at hk; omega
    exact ⟨bp, 0, _, rfl, hpx.lt, rfl, hpx.cell 0⟩
  have e1 : toldF [(a : Int) + 1] 0 1 = (a : Int) + 1 := by
    simp only [toldF, List.getElem?_cons_zero]
    rw [if_neg (by omega)]
    omega
  have ea : withinF ((a : Int) + 1 - 1) (6 - 1) = a := by unfold withinF; omega
  have e3 : movedNm (rgNm t u 0) (rgNm t u 0).x ((a : Int) + 1 - 1) = rgNm t u a := by
    have : movedNm (rgNm t u 0) (rgNm t u 0).x ((a : Int) + 1 - 1) = rgNm t u (withinF ((a : Int) + 1 - 1) (6 - 1)) := rfl
    rw [this, ea]
  have := seq_d (rgNm t u 0) (some ⟨g, 0, none⟩) (some ⟨h, 0, none⟩) (some ⟨bp, 0, none⟩) (sixL 6).length (sixL 6).length ([] : List (List C)).length ([] : List (List C)).length 1 [(a : Int) + 1] wx hri ⟨by simp [rgNm], by simp [rgNm], by simp [rgNm], by simp [rgNm], by simp [rgNm], by simp [rgNm], by simp [rgNm], by simp [rgNm]⟩
  rw [e1, e3] at this
  exact this.mono fun _ _ x => ValPost.into ho x
end Go.Proofs.Ytmejehanfhampaa
