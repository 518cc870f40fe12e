/-
  Registers and flags as plain data, and their cells. No Go text is named here.
-/
import Derived.Test.YtghjdpmijnlhjaaKit0
import Derived.Test.YtghjdpmijnlhjaaWord0
import Derived.Test.YtghjdpmijnlhjaaIsa0
namespace Go.Proofs.Ytghjdpmijnlhjaa
set_option linter.unusedVariables false
set_option linter.unusedSimpArgs false
namespace A
/-- the registers, H, N, Z, C, V -/
structure Regs where
  r : Nat → Int
  h : Int
  n : Bool
  z : Bool
  c : Bool
  v : Bool
/-- their cells -/
def cells (s : Regs) : Array Value := #[.int .u32 (s.r 0), .int .u32 (s.r 1), .int .u32 (s.r 2), .int .u32 (s.r 3), .int .u32 (s.r 4), .int .u32 (s.r 5), .int .u32 (s.r 6), .int .u32 (s.r 7), .int .u32 (s.r 8), .int .u32 (s.r 9), .int .u32 (s.r 10), .int .u32 (s.r 11), .int .u32 (s.r 12), .int .u32 (s.r 13), .int .u32 (s.r 14), .int .u32 (s.r 15), .int .u32 s.h, .bool s.n, .bool s.z, .bool s.c, .bool s.v]
/-- each register is a word -/
def Ok (s : Regs) : Prop := (∀ j, j < 16 → 0 ≤ s.r j ∧ s.r j < 4294967296) ∧ 0 ≤ s.h ∧ s.h < 4294967296
def set (s : Regs) (j : Nat) (x : Int) : Regs := { s with r := fun k => if k = j then x else s.r k }
def setH (s : Regs) (x : Int) : Regs := { s with h := x }
def setN (s : Regs) (x : Bool) : Regs := { s with n := x }
def setZ (s : Regs) (x : Bool) : Regs := { s with z := x }
def setC (s : Regs) (x : Bool) : Regs := { s with c := x }
def setV (s : Regs) (x : Bool) : Regs := { s with v := x }
theorem lt16 {P : Nat → Prop} (h : P 0 ∧ P 1 ∧ P 2 ∧ P 3 ∧ P 4 ∧ P 5 ∧ P 6 ∧ P 7 ∧ P 8 ∧ P 9 ∧ P 10 ∧ P 11 ∧ P 12 ∧ P 13 ∧ P 14 ∧ P 15) (j : Nat) (hj : j < 16) : P j := by
  obtain ⟨h0, h1, h2, h3, h4, h5, h6, h7, h8, h9, h10, h11, h12, h13, h14, h15⟩ := h
  have : j = 0 ∨ j = 1 ∨ j = 2 ∨ j = 3 ∨ j = 4 ∨ j = 5 ∨ j = 6 ∨ j = 7 ∨ j = 8 ∨ j = 9 ∨ j = 10 ∨ j = 11 ∨ j = 12 ∨ j = 13 ∨ j = 14 ∨ j = 15 := by omega
  rcases this with rfl | rfl | rfl | rfl | rfl | rfl | rfl | rfl | rfl | rfl | rfl | rfl | rfl | rfl | rfl | rfl <;> assumption
@[simp] theorem size_cells (s : Regs) : (cells s).size = 21 := rfl
theorem cell_r (s : Regs) (j : Nat) (hj : j < 16) : (cells s)[j]? = some (.int .u32 (s.r j)) :=
  lt16 (P := fun j => (cells s)[j]? = some (.int .u32 (s.r j))) ⟨rfl, rfl, rfl, rfl, rfl, rfl, rfl, rfl, rfl, rfl, rfl, rfl, rfl, rfl, rfl, rfl⟩ j hj
@[simp] theorem cell_h (s : Regs) : (cells s)[16]? = some (.int .u32 s.h) := rfl
@[simp] theorem cell_n (s : Regs) : (cells s)[17]? = some (.bool s.n) := rfl
@[simp] theorem cell_z (s : Regs) : (cells s)[18]? = some (.bool s.z) := rfl
@[simp] theorem cell_c (s : Regs) : (cells s)[19]? = some (.bool s.c) := rfl
@[simp] theorem cell_v (s : Regs) : (cells s)[20]? = some (.bool s.v) := rfl
theorem set_r (s : Regs) (j : Nat) (hj : j < 16) (x : Int) : (cells s).setIfInBounds j (.int .u32 x) = cells (set s j x) :=
  lt16 (P := fun j => (cells s).setIfInBounds j (.int .u32 x) = cells (set s j x)) ⟨rfl, rfl, rfl, rfl, rfl, rfl, rfl, rfl, rfl, rfl, rfl, rfl, rfl, rfl, rfl, rfl⟩ j hj
@[simp] theorem set_h (s : Regs) (x : Int) : (cells s).setIfInBounds 16 (.int .u32 x) = cells (setH s x) := rfl
@[simp] theorem set_n (s : Regs) (x : Bool) : (cells s).setIfInBounds 17 (.bool x) = cells (setN s x) := rfl
@[simp] theorem set_z (s : Regs) (x : Bool) : (cells s).setIfInBounds 18 (.bool x) = cells (setZ s x) := rfl
@[simp] theorem set_c (s : Regs) (x : Bool) : (cells s).setIfInBounds 19 (.bool x) = cells (setC s x) := rfl
@[simp] theorem set_v (s : Regs) (x : Bool) : (cells s).setIfInBounds 20 (.bool x) = cells (setV s x) := rfl
@[simp] theorem one_cells (s : Regs) : (cells s).all (·.oneCell') = true := by simp [cells, Value.oneCell']
/-- nothing in any register -/
def none' : Regs := ⟨fun _ => 0, 0, false, false, false, false⟩
/-- what an operation works on: the registers, b, n, U -/
def opnd (s : Regs) (b n : Int) (u : Bool) : Array Value := #[.int .u32 (s.r 0), .int .u32 (s.r 1), .int .u32 (s.r 2), .int .u32 (s.r 3), .int .u32 (s.r 4), .int .u32 (s.r 5), .int .u32 (s.r 6), .int .u32 (s.r 7), .int .u32 (s.r 8), .int .u32 (s.r 9), .int .u32 (s.r 10), .int .u32 (s.r 11), .int .u32 (s.r 12), .int .u32 (s.r 13), .int .u32 (s.r 14), .int .u32 (s.r 15), .int .u32 s.h, .bool s.n, .bool s.z, .bool s.c, .bool s.v, .int .u32 b, .int .u32 n, .bool u]
@[simp] theorem size_opnd (s : Regs) (b n : Int) (u : Bool) : (opnd s b n u).size = 24 := rfl
@[simp] theorem opnd_h (s : Regs) (b n : Int) (u : Bool) : (opnd s b n u)[16]? = some (.int .u32 s.h) := rfl
@[simp] theorem opnd_n (s : Regs) (b n : Int) (u : Bool) : (opnd s b n u)[17]? = some (.bool s.n) := rfl
@[simp] theorem opnd_z (s : Regs) (b n : Int) (u : Bool) : (opnd s b n u)[18]? = some (.bool s.z) := rfl
@[simp] theorem opnd_c (s : Regs) (b n : Int) (u : Bool) : (opnd s b n u)[19]? = some (.bool s.c) := rfl
@[simp] theorem opnd_v (s : Regs) (b n : Int) (u : Bool) : (opnd s b n u)[20]? = some (.bool s.v) := rfl
@[simp] theorem opnd_b (s : Regs) (b n : Int) (u : Bool) : (opnd s b n u)[21]? = some (.int .u32 b) := rfl
@[simp] theorem opnd_nn (s : Regs) (b n : Int) (u : Bool) : (opnd s b n u)[22]? = some (.int .u32 n) := rfl
@[simp] theorem opnd_u (s : Regs) (b n : Int) (u : Bool) : (opnd s b n u)[23]? = some (.bool u) := rfl
@[simp] theorem opnd_set_h (s : Regs) (b n : Int) (u : Bool) (x : Int) : (opnd s b n u).setIfInBounds 16 (.int .u32 x) = opnd (setH s x) b n u := rfl
@[simp] theorem opnd_set_c (s : Regs) (b n : Int) (u : Bool) (x : Bool) : (opnd s b n u).setIfInBounds 19 (.bool x) = opnd (setC s x) b n u := rfl
@[simp] theorem opnd_set_v (s : Regs) (b n : Int) (u : Bool) (x : Bool) : (opnd s b n u).setIfInBounds 20 (.bool x) = opnd (setV s x) b n u := rfl
theorem opnd_regs (s : Regs) (b n : Int) (u : Bool) : ((opnd s b n u).extract 0 (0 + (cells s).size)) = cells s := by simp [opnd, cells]
@[simp] theorem one_opnd (s : Regs) (b n : Int) (u : Bool) : (opnd s b n u).all (·.oneCell') = true := by simp [opnd, Value.oneCell']
/-- what comes of an operation: the word, the registers, the trap -/
def outc (x : Int) (s : Regs) (t : Int) : Array Value := #[.int .u32 x, .int .u32 (s.r 0), .int .u32 (s.r 1), .int .u32 (s.r 2), .int .u32 (s.r 3), .int .u32 (s.r 4), .int .u32 (s.r 5), .int .u32 (s.r 6), .int .u32 (s.r 7), .int .u32 (s.r 8), .int .u32 (s.r 9), .int .u32 (s.r 10), .int .u32 (s.r 11), .int .u32 (s.r 12), .int .u32 (s.r 13), .int .u32 (s.r 14), .int .u32 (s.r 15), .int .u32 s.h, .bool s.n, .bool s.z, .bool s.c, .bool s.v, .int .i64 t]
@[simp] theorem size_outc (x : Int) (s : Regs) (t : Int) : (outc x s t).size = 23 := rfl
@[simp] theorem outc_x (x : Int) (s : Regs) (t : Int) : (outc x s t)[0]? = some (.int .u32 x) := rfl
@[simp] theorem outc_t (x : Int) (s : Regs) (t : Int) : (outc x s t)[22]? = some (.int .i64 t) := rfl
theorem outc_regs (x : Int) (s : Regs) (t : Int) : ((outc x s t).extract 1 (1 + (cells s).size)) = cells s := by simp [outc, cells]
@[simp] theorem one_outc (x : Int) (s : Regs) (t : Int) : (outc x s t).all (·.oneCell') = true := by simp [outc, Value.oneCell']
/-- P4.1 -/
def show' (s : Regs) (x : Int) : Regs := setZ (setN s (decide (2147483648 ≤ x))) (x == 0)
end A
end Go.Proofs.Ytghjdpmijnlhjaa
