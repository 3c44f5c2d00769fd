/-
  What each operation of the statement that ends a string does, by itself.
-/
import Derived.Test.YtgpjphecgcfikaaStrInv
namespace Go.Proofs.Ytgpjphecgcfikaa
open Go.RowKit

variable {ρ : Operand → Value} {o : Oper} {w : World}
theorem run_0 {S : Nat} {D : Option Addr} {c : Nat} (h : o.op = .load 33 (.tmp 10)) (hx : ρ (.tmp 10) = .pointer (some ⟨S, 0, none⟩)) (hS : Held w S 33 #[.int .i64 3, .int .i64 0, .int .i64 0, .int .i64 0, .slice D 0 c, .int .i64 0, .bool false, .bool false]) :
    (execOp ρ o).run Try.prog w = .ok (.value (strV D c)) w := by
  obtain ⟨x0, x1, x2, x3, x4, x5, x6, x7, _⟩ := esc_cells hS
  unfold execOp
  simp only [h, hx]
  simp [go_sem, x0, x1, x2, x3, x4, x5, x6, x7, strV]
theorem run_lit1 (x : Int) (h : o.op = .buildSlice 36 1 #[(0, .const (.int .u8 x))]) (hc : ρ (.const (.int .u8 x)) = .int .u8 x) :
    (execOp ρ o).run Try.prog w = .ok (.value (.slice (some ⟨w.heap.size, 0, none⟩) 1 1)) (w.alloc (.cells #[.int .u8 x] 5)) := by
  unfold execOp
  simp only [h]
  simp [go_sem, hc]
theorem run_move (d : Nat) (v : Value) (h : o.op = .move (.tmp d)) (hx : ρ (.tmp d) = v) : (execOp ρ o).run Try.prog w = .ok (.value v) w := by
  unfold execOp
  simp only [h, hx]
  rfl
theorem run_9 (fin : Int) (q : Nat) (hq : bits .and .i64 fin 255 = (q : Int)) (h : o.op = .binOp .and 3 (.tmp 75) (.const (.int .i64 255)) 3) (hx : ρ (.tmp 75) = .int .i64 fin) (hc : ρ (.const (.int .i64 255)) = .int .i64 255) : (execOp ρ o).run Try.prog w = .ok (.value (.int .i64 q)) w := by
  unfold execOp
  simp only [h, hx, hc]
  simp [go_sem, hq]
theorem run_10 (q : Nat) (h : o.op = .binOp .rem 3 (.tmp 76) (.const (.int .i64 6)) 3) (hx : ρ (.tmp 76) = .int .i64 q) (hc : ρ (.const (.int .i64 6)) = .int .i64 6) : (execOp ρ o).run Try.prog w = .ok (.value (.int .i64 ((q % 6 : Nat) : Int))) w := by
  unfold execOp
  simp only [h, hx, hc]
  simp [go_sem]
  exact Int.tmod_eq_emod_of_nonneg (by omega)
theorem run_lit2 (x y : Int) (h : o.op = .buildSlice 36 2 #[(0, .const (.int .u8 x)), (1, .const (.int .u8 y))]) (hc : ∀ v, ρ (.const v) = v) :
    (execOp ρ o).run Try.prog w = .ok (.value (.slice (some ⟨w.heap.size, 0, none⟩) 2 2)) (w.alloc (.cells #[.int .u8 x, .int .u8 y] 5)) := by
  unfold execOp
  simp only [h]
  simp [go_sem, hc]
theorem run_lit3 (x y z : Int) (h : o.op = .buildSlice 36 3 #[(0, .const (.int .u8 x)), (1, .const (.int .u8 y)), (2, .const (.int .u8 z))]) (hc : ∀ v, ρ (.const v) = v) :
    (execOp ρ o).run Try.prog w = .ok (.value (.slice (some ⟨w.heap.size, 0, none⟩) 3 3)) (w.alloc (.cells #[.int .u8 x, .int .u8 y, .int .u8 z] 5)) := by
  unfold execOp
  simp only [h]
  simp [go_sem, hc]
theorem run_7 {A0 A1 A2 A3 A4 A5 : Option Addr} {n0 n1 n2 n3 n4 n5 c0 c1 c2 c3 c4 c5 : Nat} (h : o.op = .buildSlice 44 6 #[(0, .tmp 68), (1, .tmp 69), (2, .tmp 70), (3, .tmp 71), (4, .tmp 72), (5, .tmp 73)])
    (h0 : ρ (.tmp 68) = .slice A0 n0 c0) (h1 : ρ (.tmp 69) = .slice A1 n1 c1) (h2 : ρ (.tmp 70) = .slice A2 n2 c2) (h3 : ρ (.tmp 71) = .slice A3 n3 c3) (h4 : ρ (.tmp 72) = .slice A4 n4 c4) (h5 : ρ (.tmp 73) = .slice A5 n5 c5) :
    (execOp ρ o).run Try.prog w = .ok (.value (.slice (some ⟨w.heap.size, 0, none⟩) 6 6)) (w.alloc (.cells #[.slice A0 n0 c0, .slice A1 n1 c1, .slice A2 n2 c2, .slice A3 n3 c3, .slice A4 n4 c4, .slice A5 n5 c5] 36)) := by
  unfold execOp
  simp only [h]
  simp [go_sem, h0, h1, h2, h3, h4, h5]
theorem run_11 (T k : Nat) (hk : k < 6) (h : o.op = .indexAddr 44 (.tmp 74) (.tmp 77)) (hx : ρ (.tmp 74) = .slice (some ⟨T, 0, none⟩) 6 6) (hy : ρ (.tmp 77) = .int .i64 (k : Int)) : (execOp ρ o).run Try.prog w = .ok (.value (.pointer (some ⟨T, k, none⟩))) w := by
  have hki : (k : Int) < 6 := by omega
  unfold execOp
  simp only [h, hx, hy]
  simp [go_sem, hki]
theorem run_12 (T k : Nat) (A : Option Addr) (n c : Nat) (h : o.op = .load 36 (.tmp 78)) (hx : ρ (.tmp 78) = .pointer (some ⟨T, k, none⟩)) (hc : w.cell? ⟨T, k, none⟩ = some (.slice A n c)) : (execOp ρ o).run Try.prog w = .ok (.value (.slice A n c)) w := by
  unfold execOp
  simp only [h, hx]
  simp [go_sem, hc]
theorem run_13 (x y : Value) (h : o.op = .call { callee := .value (.func 11), args := #[.tmp 67, .tmp 79], argTypes := #[33, 36] }) (hx : ρ (.tmp 67) = x) (hy : ρ (.tmp 79) = y) (hf : ρ (.func 11) = .func (.func 11) #[] #[]) : (execOp ρ o).run Try.prog w = .ok (.enter 11 #[x, y]) w := by
  unfold execOp
  simp only [h]
  simp [go_sem, hx, hy, hf]
theorem run_ext0 (x y : Value) (h : o.op = .extract (.tmp 66) 0) (hx : ρ (.tmp 66) = .tuple #[x, y]) : (execOp ρ o).run Try.prog w = .ok (.value x) w := by
  unfold execOp
  simp only [h, hx]
  simp [go_sem]
theorem run_ext1 (x y : Value) (h : o.op = .extract (.tmp 66) 1) (hx : ρ (.tmp 66) = .tuple #[x, y]) : (execOp ρ o).run Try.prog w = .ok (.value y) w := by
  unfold execOp
  simp only [h, hx]
  simp [go_sem]
theorem run_17 (h : o.op = .alloc 33) : (execOp ρ o).run Try.prog w = .ok (.value (.pointer (some ⟨w.heap.size, 0, none⟩))) (w.alloc (.cells #[.int .i64 0, .int .i64 0, .int .i64 0, .int .i64 0, .slice none 0 0, .int .i64 0, .bool false, .bool false] 33)) := by
  unfold execOp
  simp only [h]
  simp [go_sem]
theorem run_18 {N : Nat} {D : Option Addr} {c : Nat} {z0 z1 z2 z3 z4 z5 z6 z7 : Value} (h : o.op = .store 33 (.tmp 12) (.tmp 81)) (hx : ρ (.tmp 12) = .pointer (some ⟨N, 0, none⟩)) (hy : ρ (.tmp 81) = zeroV D c) (hN : Held w N 33 #[z0, z1, z2, z3, z4, z5, z6, z7]) :
    (execOp ρ o).run Try.prog w = .ok .skip ((((((((w.setCell ⟨N, 0, none⟩ (.int .i64 0)).setCell ⟨N, 1, none⟩ (.int .i64 0)).setCell ⟨N, 2, none⟩ (.int .i64 0)).setCell ⟨N, 3, none⟩ (.int .i64 0)).setCell ⟨N, 4, none⟩ (.slice D 0 c)).setCell ⟨N, 5, none⟩ (.int .i64 0)).setCell ⟨N, 6, none⟩ (.bool false)).setCell ⟨N, 7, none⟩ (.bool false)) := by
  obtain ⟨x0, x1, x2, x3, x4, x5, x6, x7, xf⟩ := esc_cells hN
  unfold execOp
  simp only [h, hx, hy]
  simp [go_sem, x0, x1, x2, x3, x4, x5, x6, x7, xf, zeroV]
theorem run_19 (v : Value) (h : o.op = .assign (.tmp 82)) (hx : ρ (.tmp 82) = v) : (execOp ρ o).run Try.prog w = .ok (.value v) w := by
  unfold execOp
  simp only [h, hx]
  rfl
end Go.Proofs.Ytgpjphecgcfikaa
