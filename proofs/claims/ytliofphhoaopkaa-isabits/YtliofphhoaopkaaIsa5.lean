/-
  The contract of wordOf.
-/
import Derived.Test.YtliofphhoaopkaaIsa3
import Derived.Test.YtliofphhoaopkaaIsa4
import Derived.Test.YtliofphhoaopkaaIsa5a
namespace Go.Proofs.Ytliofphhoaopkaa
open Go.RowKit
set_option linter.unusedVariables false
set_option linter.unusedSimpArgs false
theorem parts_1 (op a b c i : Int) (u : Bool) (B : Nat) (w : World) (hw : w.heap[B]? = some (.cells #[.int .i64 (30), .int .i64 (2), .int .i64 (0), .int .i64 (29), .int .i64 (1), .int .i64 (I.bit u), .int .i64 (24), .int .i64 (4), .int .i64 (a), .int .i64 (20), .int .i64 (4), .int .i64 (b), .int .i64 (16), .int .i64 (4), .int .i64 (op), .int .i64 (0), .int .i64 (4), .int .i64 (c)] 53 (0, 0))) : Parts B 6 (fun j => ([30, 29, 24, 20, 16, 0] : List Int).getD j 0) (fun j => ([2, 1, 4, 4, 4, 4] : List Int).getD j 0) (fun j => ([0, I.bit u, a, b, op, c] : List Int).getD j 0) w := by
  intro k hk
  rcases (show k = 0 ∨ k = 1 ∨ k = 2 ∨ k = 3 ∨ k = 4 ∨ k = 5 by omega) with rfl | rfl | rfl | rfl | rfl | rfl
  all_goals exact ⟨by simp [World.cell?, hw], by simp [World.cell?, hw], by simp [World.cell?, hw]⟩
theorem joined_1 (op a b c i : Int) (u : Bool) (B : Nat) (w : World) (hw : w.heap[B]? = some (.cells #[.int .i64 (30), .int .i64 (2), .int .i64 (0), .int .i64 (29), .int .i64 (1), .int .i64 (I.bit u), .int .i64 (24), .int .i64 (4), .int .i64 (a), .int .i64 (20), .int .i64 (4), .int .i64 (b), .int .i64 (16), .int .i64 (4), .int .i64 (op), .int .i64 (0), .int .i64 (4), .int .i64 (c)] 53 (0, 0))) (r : Int) (hr : I.join (fun j => ([30, 29, 24, 20, 16, 0] : List Int).getD j 0) (fun j => ([2, 1, 4, 4, 4, 4] : List Int).getD j 0) (fun j => ([0, I.bit u, a, b, op, c] : List Int).getD j 0) 6 = r) :
    Calls Try.prog 34 #[.slice (some ⟨B, 0, none⟩) 6 6] w fun e w' => e = .returned (.int .u32 r) ∧ Kept w w' := by
  rw [← hr]
  exact join_any _ _ _ B 6 (by omega) (fun k hk => by rcases (show k = 0 ∨ k = 1 ∨ k = 2 ∨ k = 3 ∨ k = 4 ∨ k = 5 by omega) with rfl | rfl | rfl | rfl | rfl | rfl <;> simp) (fun k hk => by rcases (show k = 0 ∨ k = 1 ∨ k = 2 ∨ k = 3 ∨ k = 4 ∨ k = 5 by omega) with rfl | rfl | rfl | rfl | rfl | rfl <;> simp) w (lt_of_block hw) (parts_1 op a b c i u B w hw)
theorem sum_1 (op a b c i : Int) (u : Bool) (h : I.May ⟨1, op, a, b, c, i, u⟩) : I.join (fun j => ([30, 29, 24, 20, 16, 0] : List Int).getD j 0) (fun j => ([2, 1, 4, 4, 4, 4] : List Int).getD j 0) (fun j => ([0, I.bit u, a, b, op, c] : List Int).getD j 0) 6 = I.word ⟨1, op, a, b, c, i, u⟩ := by
  have e := I.join6 (0) (I.bit u) (a) (b) (op) (c)
  refine Eq.trans e ?_
  unfold I.May at h
  simp only at h
  unfold I.word
  simp only [Int.reduceEq, reduceIte]
  have B0 := I.bit_lo u
  have B1 := I.bit_hi u
  have S0 := I.bit_lo (decide (i < 0))
  have S1 := I.bit_hi (decide (i < 0))
  (try rw [I.bit_f]); (try rw [I.bit_t])
  omega
theorem parts_2 (op a b c i : Int) (u : Bool) (B : Nat) (w : World) (hw : w.heap[B]? = some (.cells #[.int .i64 (30), .int .i64 (2), .int .i64 (1), .int .i64 (29), .int .i64 (1), .int .i64 (I.bit u), .int .i64 (28), .int .i64 (1), .int .i64 (I.bit (decide (i < 0))), .int .i64 (24), .int .i64 (4), .int .i64 (a), .int .i64 (20), .int .i64 (4), .int .i64 (b), .int .i64 (16), .int .i64 (4), .int .i64 (op), .int .i64 (0), .int .i64 (16), .int .i64 (i)] 53 (0, 0))) : Parts B 7 (fun j => ([30, 29, 28, 24, 20, 16, 0] : List Int).getD j 0) (fun j => ([2, 1, 1, 4, 4, 4, 16] : List Int).getD j 0) (fun j => ([1, I.bit u, I.bit (decide (i < 0)), a, b, op, i] : List Int).getD j 0) w := by
  intro k hk
  rcases (show k = 0 ∨ k = 1 ∨ k = 2 ∨ k = 3 ∨ k = 4 ∨ k = 5 ∨ k = 6 by omega) with rfl | rfl | rfl | rfl | rfl | rfl | rfl
  all_goals exact ⟨by simp [World.cell?, hw], by simp [World.cell?, hw], by simp [World.cell?, hw]⟩
theorem joined_2 (op a b c i : Int) (u : Bool) (B : Nat) (w : World) (hw : w.heap[B]? = some (.cells #[.int .i64 (30), .int .i64 (2), .int .i64 (1), .int .i64 (29), .int .i64 (1), .int .i64 (I.bit u), .int .i64 (28), .int .i64 (1), .int .i64 (I.bit (decide (i < 0))), .int .i64 (24), .int .i64 (4), .int .i64 (a), .int .i64 (20), .int .i64 (4), .int .i64 (b), .int .i64 (16), .int .i64 (4), .int .i64 (op), .int .i64 (0), .int .i64 (16), .int .i64 (i)] 53 (0, 0))) (r : Int) (hr : I.join (fun j => ([30, 29, 28, 24, 20, 16, 0] : List Int).getD j 0) (fun j => ([2, 1, 1, 4, 4, 4, 16] : List Int).getD j 0) (fun j => ([1, I.bit u, I.bit (decide (i < 0)), a, b, op, i] : List Int).getD j 0) 7 = r) :
    Calls Try.prog 34 #[.slice (some ⟨B, 0, none⟩) 7 7] w fun e w' => e = .returned (.int .u32 r) ∧ Kept w w' := by
  rw [← hr]
  exact join_any _ _ _ B 7 (by omega) (fun k hk => by rcases (show k = 0 ∨ k = 1 ∨ k = 2 ∨ k = 3 ∨ k = 4 ∨ k = 5 ∨ k = 6 by omega) with rfl | rfl | rfl | rfl | rfl | rfl | rfl <;> simp) (fun k hk => by rcases (show k = 0 ∨ k = 1 ∨ k = 2 ∨ k = 3 ∨ k = 4 ∨ k = 5 ∨ k = 6 by omega) with rfl | rfl | rfl | rfl | rfl | rfl | rfl <;> simp) w (lt_of_block hw) (parts_2 op a b c i u B w hw)
theorem sum_2 (op a b c i : Int) (u : Bool) (h : I.May ⟨2, op, a, b, c, i, u⟩) : I.join (fun j => ([30, 29, 28, 24, 20, 16, 0] : List Int).getD j 0) (fun j => ([2, 1, 1, 4, 4, 4, 16] : List Int).getD j 0) (fun j => ([1, I.bit u, I.bit (decide (i < 0)), a, b, op, i] : List Int).getD j 0) 7 = I.word ⟨2, op, a, b, c, i, u⟩ := by
  have e := I.join7 (1) (I.bit u) (I.bit (decide (i < 0))) (a) (b) (op) (i)
  refine Eq.trans e ?_
  unfold I.May at h
  simp only at h
  unfold I.word
  simp only [Int.reduceEq, reduceIte]
  have B0 := I.bit_lo u
  have B1 := I.bit_hi u
  have S0 := I.bit_lo (decide (i < 0))
  have S1 := I.bit_hi (decide (i < 0))
  (try rw [I.bit_f]); (try rw [I.bit_t])
  omega
theorem parts_3 (op a b c i : Int) (u : Bool) (B : Nat) (w : World) (hw : w.heap[B]? = some (.cells #[.int .i64 (30), .int .i64 (2), .int .i64 (0), .int .i64 (29), .int .i64 (1), .int .i64 (1), .int .i64 (28), .int .i64 (1), .int .i64 (I.bit false), .int .i64 (24), .int .i64 (4), .int .i64 (a)] 53 (0, 0))) : Parts B 4 (fun j => ([30, 29, 28, 24] : List Int).getD j 0) (fun j => ([2, 1, 1, 4] : List Int).getD j 0) (fun j => ([0, 1, I.bit false, a] : List Int).getD j 0) w := by
  intro k hk
  rcases (show k = 0 ∨ k = 1 ∨ k = 2 ∨ k = 3 by omega) with rfl | rfl | rfl | rfl
  all_goals exact ⟨by simp [World.cell?, hw], by simp [World.cell?, hw], by simp [World.cell?, hw]⟩
theorem joined_3 (op a b c i : Int) (u : Bool) (B : Nat) (w : World) (hw : w.heap[B]? = some (.cells #[.int .i64 (30), .int .i64 (2), .int .i64 (0), .int .i64 (29), .int .i64 (1), .int .i64 (1), .int .i64 (28), .int .i64 (1), .int .i64 (I.bit false), .int .i64 (24), .int .i64 (4), .int .i64 (a)] 53 (0, 0))) (r : Int) (hr : I.join (fun j => ([30, 29, 28, 24] : List Int).getD j 0) (fun j => ([2, 1, 1, 4] : List Int).getD j 0) (fun j => ([0, 1, I.bit false, a] : List Int).getD j 0) 4 = r) :
    Calls Try.prog 34 #[.slice (some ⟨B, 0, none⟩) 4 4] w fun e w' => e = .returned (.int .u32 r) ∧ Kept w w' := by
  rw [← hr]
  exact join_any _ _ _ B 4 (by omega) (fun k hk => by rcases (show k = 0 ∨ k = 1 ∨ k = 2 ∨ k = 3 by omega) with rfl | rfl | rfl | rfl <;> simp) (fun k hk => by rcases (show k = 0 ∨ k = 1 ∨ k = 2 ∨ k = 3 by omega) with rfl | rfl | rfl | rfl <;> simp) w (lt_of_block hw) (parts_3 op a b c i u B w hw)
theorem sum_3 (op a b c i : Int) (u : Bool) (h : I.May ⟨3, op, a, b, c, i, u⟩) : I.join (fun j => ([30, 29, 28, 24] : List Int).getD j 0) (fun j => ([2, 1, 1, 4] : List Int).getD j 0) (fun j => ([0, 1, I.bit false, a] : List Int).getD j 0) 4 = I.word ⟨3, op, a, b, c, i, u⟩ := by
  have e := I.join3 (0) (1) (I.bit false) (a)
  refine Eq.trans e ?_
  unfold I.May at h
  simp only at h
  unfold I.word
  simp only [Int.reduceEq, reduceIte]
  have B0 := I.bit_lo u
  have B1 := I.bit_hi u
  have S0 := I.bit_lo (decide (i < 0))
  have S1 := I.bit_hi (decide (i < 0))
  (try rw [I.bit_f]); (try rw [I.bit_t])
  omega
theorem parts_4 (op a b c i : Int) (u : Bool) (B : Nat) (w : World) (hw : w.heap[B]? = some (.cells #[.int .i64 (30), .int .i64 (2), .int .i64 (0), .int .i64 (29), .int .i64 (1), .int .i64 (1), .int .i64 (28), .int .i64 (1), .int .i64 (I.bit true), .int .i64 (24), .int .i64 (4), .int .i64 (a)] 53 (0, 0))) : Parts B 4 (fun j => ([30, 29, 28, 24] : List Int).getD j 0) (fun j => ([2, 1, 1, 4] : List Int).getD j 0) (fun j => ([0, 1, I.bit true, a] : List Int).getD j 0) w := by
  intro k hk
  rcases (show k = 0 ∨ k = 1 ∨ k = 2 ∨ k = 3 by omega) with rfl | rfl | rfl | rfl
  all_goals exact ⟨by simp [World.cell?, hw], by simp [World.cell?, hw], by simp [World.cell?, hw]⟩
theorem joined_4 (op a b c i : Int) (u : Bool) (B : Nat) (w : World) (hw : w.heap[B]? = some (.cells #[.int .i64 (30), .int .i64 (2), .int .i64 (0), .int .i64 (29), .int .i64 (1), .int .i64 (1), .int .i64 (28), .int .i64 (1), .int .i64 (I.bit true), .int .i64 (24), .int .i64 (4), .int .i64 (a)] 53 (0, 0))) (r : Int) (hr : I.join (fun j => ([30, 29, 28, 24] : List Int).getD j 0) (fun j => ([2, 1, 1, 4] : List Int).getD j 0) (fun j => ([0, 1, I.bit true, a] : List Int).getD j 0) 4 = r) :
    Calls Try.prog 34 #[.slice (some ⟨B, 0, none⟩) 4 4] w fun e w' => e = .returned (.int .u32 r) ∧ Kept w w' := by
  rw [← hr]
  exact join_any _ _ _ B 4 (by omega) (fun k hk => by rcases (show k = 0 ∨ k = 1 ∨ k = 2 ∨ k = 3 by omega) with rfl | rfl | rfl | rfl <;> simp) (fun k hk => by rcases (show k = 0 ∨ k = 1 ∨ k = 2 ∨ k = 3 by omega) with rfl | rfl | rfl | rfl <;> simp) w (lt_of_block hw) (parts_4 op a b c i u B w hw)
theorem sum_4 (op a b c i : Int) (u : Bool) (h : I.May ⟨4, op, a, b, c, i, u⟩) : I.join (fun j => ([30, 29, 28, 24] : List Int).getD j 0) (fun j => ([2, 1, 1, 4] : List Int).getD j 0) (fun j => ([0, 1, I.bit true, a] : List Int).getD j 0) 4 = I.word ⟨4, op, a, b, c, i, u⟩ := by
  have e := I.join3 (0) (1) (I.bit true) (a)
  refine Eq.trans e ?_
  unfold I.May at h
  simp only at h
  unfold I.word
  simp only [Int.reduceEq, reduceIte]
  have B0 := I.bit_lo u
  have B1 := I.bit_hi u
  have S0 := I.bit_lo (decide (i < 0))
  have S1 := I.bit_hi (decide (i < 0))
  (try rw [I.bit_f]); (try rw [I.bit_t])
  omega
theorem parts_5 (op a b c i : Int) (u : Bool) (B : Nat) (w : World) (hw : w.heap[B]? = some (.cells #[.int .i64 (30), .int .i64 (2), .int .i64 (2), .int .i64 (28), .int .i64 (2), .int .i64 (op), .int .i64 (24), .int .i64 (4), .int .i64 (a), .int .i64 (20), .int .i64 (4), .int .i64 (b), .int .i64 (0), .int .i64 (20), .int .i64 (i)] 53 (0, 0))) : Parts B 5 (fun j => ([30, 28, 24, 20, 0] : List Int).getD j 0) (fun j => ([2, 2, 4, 4, 20] : List Int).getD j 0) (fun j => ([2, op, a, b, i] : List Int).getD j 0) w := by
  intro k hk
  rcases (show k = 0 ∨ k = 1 ∨ k = 2 ∨ k = 3 ∨ k = 4 by omega) with rfl | rfl | rfl | rfl | rfl
  all_goals exact ⟨by simp [World.cell?, hw], by simp [World.cell?, hw], by simp [World.cell?, hw]⟩
theorem joined_5 (op a b c i : Int) (u : Bool) (B : Nat) (w : World) (hw : w.heap[B]? = some (.cells #[.int .i64 (30), .int .i64 (2), .int .i64 (2), .int .i64 (28), .int .i64 (2), .int .i64 (op), .int .i64 (24), .int .i64 (4), .int .i64 (a), .int .i64 (20), .int .i64 (4), .int .i64 (b), .int .i64 (0), .int .i64 (20), .int .i64 (i)] 53 (0, 0))) (r : Int) (hr : I.join (fun j => ([30, 28, 24, 20, 0] : List Int).getD j 0) (fun j => ([2, 2, 4, 4, 20] : List Int).getD j 0) (fun j => ([2, op, a, b, i] : List Int).getD j 0) 5 = r) :
    Calls Try.prog 34 #[.slice (some ⟨B, 0, none⟩) 5 5] w fun e w' => e = .returned (.int .u32 r) ∧ Kept w w' := by
  rw [← hr]
  exact join_any _ _ _ B 5 (by omega) (fun k hk => by rcases (show k = 0 ∨ k = 1 ∨ k = 2 ∨ k = 3 ∨ k = 4 by omega) with rfl | rfl | rfl | rfl | rfl <;> simp) (fun k hk => by rcases (show k = 0 ∨ k = 1 ∨ k = 2 ∨ k = 3 ∨ k = 4 by omega) with rfl | rfl | rfl | rfl | rfl <;> simp) w (lt_of_block hw) (parts_5 op a b c i u B w hw)
theorem sum_5 (op a b c i : Int) (u : Bool) (h : I.May ⟨5, op, a, b, c, i, u⟩) : I.join (fun j => ([30, 28, 24, 20, 0] : List Int).getD j 0) (fun j => ([2, 2, 4, 4, 20] : List Int).getD j 0) (fun j => ([2, op, a, b, i] : List Int).getD j 0) 5 = I.word ⟨5, op, a, b, c, i, u⟩ := by
  have e := I.join5 (2) (op) (a) (b) (i)
  refine Eq.trans e ?_
  unfold I.May at h
  simp only at h
  unfold I.word
  simp only [Int.reduceEq, reduceIte]
  have B0 := I.bit_lo u
  have B1 := I.bit_hi u
  have S0 := I.bit_lo (decide (i < 0))
  have S1 := I.bit_hi (decide (i < 0))
  (try rw [I.bit_f]); (try rw [I.bit_t])
  omega
theorem parts_6 (op a b c i : Int) (u : Bool) (B : Nat) (w : World) (hw : w.heap[B]? = some (.cells #[.int .i64 (30), .int .i64 (2), .int .i64 (3), .int .i64 (28), .int .i64 (1), .int .i64 (I.bit u), .int .i64 (24), .int .i64 (4), .int .i64 (op), .int .i64 (0), .int .i64 (4), .int .i64 (c)] 53 (0, 0))) : Parts B 4 (fun j => ([30, 28, 24, 0] : List Int).getD j 0) (fun j => ([2, 1, 4, 4] : List Int).getD j 0) (fun j => ([3, I.bit u, op, c] : List Int).getD j 0) w := by
  intro k hk
  rcases (show k = 0 ∨ k = 1 ∨ k = 2 ∨ k = 3 by omega) with rfl | rfl | rfl | rfl
  all_goals exact ⟨by simp [World.cell?, hw], by simp [World.cell?, hw], by simp [World.cell?, hw]⟩
theorem joined_6 (op a b c i : Int) (u : Bool) (B : Nat) (w : World) (hw : w.heap[B]? = some (.cells #[.int .i64 (30), .int .i64 (2), .int .i64 (3), .int .i64 (28), .int .i64 (1), .int .i64 (I.bit u), .int .i64 (24), .int .i64 (4), .int .i64 (op), .int .i64 (0), .int .i64 (4), .int .i64 (c)] 53 (0, 0))) (r : Int) (hr : I.join (fun j => ([30, 28, 24, 0] : List Int).getD j 0) (fun j => ([2, 1, 4, 4] : List Int).getD j 0) (fun j => ([3, I.bit u, op, c] : List Int).getD j 0) 4 = r) :
    Calls Try.prog 34 #[.slice (some ⟨B, 0, none⟩) 4 4] w fun e w' => e = .returned (.int .u32 r) ∧ Kept w w' := by
  rw [← hr]
  exact join_any _ _ _ B 4 (by omega) (fun k hk => by rcases (show k = 0 ∨ k = 1 ∨ k = 2 ∨ k = 3 by omega) with rfl | rfl | rfl | rfl <;> simp) (fun k hk => by rcases (show k = 0 ∨ k = 1 ∨ k = 2 ∨ k = 3 by omega) with rfl | rfl | rfl | rfl <;> simp) w (lt_of_block hw) (parts_6 op a b c i u B w hw)
theorem sum_6 (op a b c i : Int) (u : Bool) (h : I.May ⟨6, op, a, b, c, i, u⟩) : I.join (fun j => ([30, 28, 24, 0] : List Int).getD j 0) (fun j => ([2, 1, 4, 4] : List Int).getD j 0) (fun j => ([3, I.bit u, op, c] : List Int).getD j 0) 4 = I.word ⟨6, op, a, b, c, i, u⟩ := by
  have e := I.joinB (3) (I.bit u) (op) (c)
  refine Eq.trans e ?_
  unfold I.May at h
  simp only at h
  unfold I.word
  simp only [Int.reduceEq, reduceIte]
  have B0 := I.bit_lo u
  have B1 := I.bit_hi u
  have S0 := I.bit_lo (decide (i < 0))
  have S1 := I.bit_hi (decide (i < 0))
  (try rw [I.bit_f]); (try rw [I.bit_t])
  omega
theorem parts_7 (op a b c i : Int) (u : Bool) (B : Nat) (w : World) (hw : w.heap[B]? = some (.cells #[.int .i64 (30), .int .i64 (2), .int .i64 (3), .int .i64 (29), .int .i64 (1), .int .i64 (1), .int .i64 (28), .int .i64 (1), .int .i64 (I.bit u), .int .i64 (24), .int .i64 (4), .int .i64 (op), .int .i64 (0), .int .i64 (24), .int .i64 (i)] 53 (0, 0))) : Parts B 5 (fun j => ([30, 29, 28, 24, 0] : List Int).getD j 0) (fun j => ([2, 1, 1, 4, 24] : List Int).getD j 0) (fun j => ([3, 1, I.bit u, op, i] : List Int).getD j 0) w := by
  intro k hk
  rcases (show k = 0 ∨ k = 1 ∨ k = 2 ∨ k = 3 ∨ k = 4 by omega) with rfl | rfl | rfl | rfl | rfl
  all_goals exact ⟨by simp [World.cell?, hw], by simp [World.cell?, hw], by simp [World.cell?, hw]⟩
theorem joined_7 (op a b c i : Int) (u : Bool) (B : Nat) (w : World) (hw : w.heap[B]? = some (.cells #[.int .i64 (30), .int .i64 (2), .int .i64 (3), .int .i64 (29), .int .i64 (1), .int .i64 (1), .int .i64 (28), .int .i64 (1), .int .i64 (I.bit u), .int .i64 (24), .int .i64 (4), .int .i64 (op), .int .i64 (0), .int .i64 (24), .int .i64 (i)] 53 (0, 0))) (r : Int) (hr : I.join (fun j => ([30, 29, 28, 24, 0] : List Int).getD j 0) (fun j => ([2, 1, 1, 4, 24] : List Int).getD j 0) (fun j => ([3, 1, I.bit u, op, i] : List Int).getD j 0) 5 = r) :
    Calls Try.prog 34 #[.slice (some ⟨B, 0, none⟩) 5 5] w fun e w' => e = .returned (.int .u32 r) ∧ Kept w w' := by
  rw [← hr]
  exact join_any _ _ _ B 5 (by omega) (fun k hk => by rcases (show k = 0 ∨ k = 1 ∨ k = 2 ∨ k = 3 ∨ k = 4 by omega) with rfl | rfl | rfl | rfl | rfl <;> simp) (fun k hk => by rcases (show k = 0 ∨ k = 1 ∨ k = 2 ∨ k = 3 ∨ k = 4 by omega) with rfl | rfl | rfl | rfl | rfl <;> simp) w (lt_of_block hw) (parts_7 op a b c i u B w hw)
theorem sum_7 (op a b c i : Int) (u : Bool) (h : I.May ⟨7, op, a, b, c, i, u⟩) : I.join (fun j => ([30, 29, 28, 24, 0] : List Int).getD j 0) (fun j => ([2, 1, 1, 4, 24] : List Int).getD j 0) (fun j => ([3, 1, I.bit u, op, i] : List Int).getD j 0) 5 = I.word ⟨7, op, a, b, c, i, u⟩ := by
  have e := I.joinJ (3) (1) (I.bit u) (op) (i)
  refine Eq.trans e ?_
  unfold I.May at h
  simp only at h
  unfold I.word
  simp only [Int.reduceEq, reduceIte]
  have B0 := I.bit_lo u
  have B1 := I.bit_hi u
  have S0 := I.bit_lo (decide (i < 0))
  have S1 := I.bit_hi (decide (i < 0))
  (try rw [I.bit_f]); (try rw [I.bit_t])
  omega
set_option maxHeartbeats 2000000 in
theorem wordOf_1 (op a b c i r : Int) (u : Bool) (HR : Hid (I.join (fun j => ([30, 29, 24, 20, 16, 0] : List Int).getD j 0) (fun j => ([2, 1, 4, 4, 4, 4] : List Int).getD j 0) (fun j => ([0, I.bit u, a, b, op, c] : List Int).getD j 0) 6 = r)) (w : World) :
    Calls Try.prog 21 #[.agg #[.int .i64 1, .int .i64 op, .int .i64 a, .int .i64 b, .int .i64 c, .int .i64 i, .bool u]] w fun e w' => e = .returned (.int .u32 r) ∧ Kept w w' := by
  have hK0 := Kept.refl (w.alloc (.cells #[.int .i64 1, .int .i64 op, .int .i64 a, .int .i64 b, .int .i64 c, .int .i64 i, .bool u] 23))
  have X1 := Box.new 1 op a b c i u w
  have hB := show Kept w (w.alloc (.cells #[.int .i64 1, .int .i64 op, .int .i64 a, .int .i64 b, .int .i64 c, .int .i64 i, .bool u] 23)) from (Kept.refl w).alloc _ _
  go_enter Try.func21, Try.ntmps21
  go_wp2_with fail
  generalize (w.alloc (.cells #[.int .i64 1, .int .i64 op, .int .i64 a, .int .i64 b, .int .i64 c, .int .i64 i, .bool u] 23)) = wB at hK0 hB X1
  have HB := Lib.hid hB
  have HX1 := Lib.hid X1
  have HW := Lib.hid (show (wB.drew.alloc (.cells #[.int .i64 (30), .int .i64 (2), .int .i64 (0), .int .i64 (29), .int .i64 (1), .int .i64 (I.bit u), .int .i64 (24), .int .i64 (4), .int .i64 (a), .int .i64 (20), .int .i64 (4), .int .i64 (b), .int .i64 (16), .int .i64 (4), .int .i64 (op), .int .i64 (0), .int .i64 (4), .int .i64 (c)] 53)).heap[wB.heap.size]? = some _ from heap_alloc_last wB.drew _)
  have HBB := Lib.hid (show Kept wB (wB.drew.alloc (.cells #[.int .i64 (30), .int .i64 (2), .int .i64 (0), .int .i64 (29), .int .i64 (1), .int .i64 (I.bit u), .int .i64 (24), .int .i64 (4), .int .i64 (a), .int .i64 (20), .int .i64 (4), .int .i64 (b), .int .i64 (16), .int .i64 (4), .int .i64 (op), .int .i64 (0), .int .i64 (4), .int .i64 (c)] 53)) from ((Kept.refl wB).drew).alloc _ _)
  clear hB X1
  refine wp_region_held_drew (S := fun w' => w'.cell? ⟨w.heap.size, 0, none⟩ = some (.int .i64 1) ∧ w'.cell? ⟨w.heap.size, 1, none⟩ = some (.int .i64 op) ∧ w'.cell? ⟨w.heap.size, 2, none⟩ = some (.int .i64 a) ∧ w'.cell? ⟨w.heap.size, 3, none⟩ = some (.int .i64 b) ∧ w'.cell? ⟨w.heap.size, 4, none⟩ = some (.int .i64 c) ∧ w'.cell? ⟨w.heap.size, 5, none⟩ = some (.int .i64 i) ∧ w'.cell? ⟨w.heap.size, 6, none⟩ = some (.bool u)) (by kernel_rfl) ?_ (fun hHeld => ?_)
  · exact (HX1.out.kept hK0.drew).cells
  refine wpAnyH_take (i := 0) (oi := { dst := some 7, op := Op.build 53 #[(0, Operand.const (Value.int IntKind.i64 30)), (1, Operand.const (Value.int IntKind.i64 2)), (2, Operand.const (Value.int IntKind.i64 0))], type := 53, pos := "isa.go:108", after := #[], guard := none }) (v := ?_) rfl (by kernel_rfl) (by kernel_rfl) (by kernel_rfl) (fun _ _ _ h => h) (Or.inl ⟨rfl, ?_⟩) hHeld ?_
  rotate_left
  · (intro w hSw; (try dsimp only at hSw); go_simp; try with_reducible rfl)
  try simp only [Act.put, List.setIfInBounds_toArray, List.set_cons_zero, List.set_cons_succ]
  refine wpAnyH_take (i := 1) (oi := { dst := some 8, op := Op.fieldAddr 23 (Operand.tmp 1) 6, type := 0, pos := "isa.go:108", after := #[], guard := none }) (v := ?_) rfl (by kernel_rfl) (by kernel_rfl) (by kernel_rfl) (fun _ _ _ h => h) (Or.inl ⟨rfl, ?_⟩) hHeld ?_
  rotate_left
  · (intro w hSw; (try dsimp only at hSw); go_simp; try with_reducible rfl)
  try simp only [Act.put, List.setIfInBounds_toArray, List.set_cons_zero, List.set_cons_succ]
  refine wpAnyH_take (i := 2) (oi := { dst := some 9, op := Op.load 4 (Operand.tmp 8), type := 4, pos := "isa.go:108", after := #[{ on := 1, ground := Ground.data }], guard := none }) (v := ?_) rfl (by kernel_rfl) (by kernel_rfl) (by kernel_rfl) (fun _ _ _ h => h) (Or.inl ⟨rfl, ?_⟩) hHeld ?_
  rotate_left
  · (intro w hSw; (try dsimp only at hSw); go_simp; try with_reducible rfl)
  try simp only [Act.put, List.setIfInBounds_toArray, List.set_cons_zero, List.set_cons_succ]
  refine wpAnyH_take (i := 5) (oi := { dst := some 12, op := Op.fieldAddr 23 (Operand.tmp 1) 2, type := 0, pos := "isa.go:108", after := #[], guard := none }) (v := ?_) rfl (by kernel_rfl) (by kernel_rfl) (by kernel_rfl) (fun _ _ _ h => h) (Or.inl ⟨rfl, ?_⟩) hHeld ?_
  rotate_left
  · (intro w hSw; (try dsimp only at hSw); go_simp; try with_reducible rfl)
  try simp only [Act.put, List.setIfInBounds_toArray, List.set_cons_zero, List.set_cons_succ]
  refine wpAnyH_take (i := 6) (oi := { dst := some 13, op := Op.load 3 (Operand.tmp 12), type := 3, pos := "isa.go:108", after := #[{ on := 5, ground := Ground.data }], guard := none }) (v := ?_) rfl (by kernel_rfl) (by kernel_rfl) (by kernel_rfl) (fun _ _ _ h => h) (Or.inl ⟨rfl, ?_⟩) hHeld ?_
  rotate_left
  · (intro w hSw; (try dsimp only at hSw); go_simp; try with_reducible rfl)
  try simp only [Act.put, List.setIfInBounds_toArray, List.set_cons_zero, List.set_cons_succ]
  refine wpAnyH_take (i := 7) (oi := { dst := some 14, op := Op.build 53 #[(0, Operand.const (Value.int IntKind.i64 24)), (1, Operand.const (Value.int IntKind.i64 4)), (2, Operand.tmp 13)], type := 53, pos := "isa.go:108", after := #[{ on := 6, ground := Ground.data }], guard := none }) (v := ?_) rfl (by kernel_rfl) (by kernel_rfl) (by kernel_rfl) (fun _ _ _ h => h) (Or.inl ⟨rfl, ?_⟩) hHeld ?_
  rotate_left
  · (intro w hSw; (try dsimp only at hSw); go_simp; try with_reducible rfl)
  try simp only [Act.put, List.setIfInBounds_toArray, List.set_cons_zero, List.set_cons_succ]
  refine wpAnyH_take (i := 8) (oi := { dst := some 15, op := Op.fieldAddr 23 (Operand.tmp 1) 3, type := 0, pos := "isa.go:108", after := #[], guard := none }) (v := ?_) rfl (by kernel_rfl) (by kernel_rfl) (by kernel_rfl) (fun _ _ _ h => h) (Or.inl ⟨rfl, ?_⟩) hHeld ?_
  rotate_left
  · (intro w hSw; (try dsimp only at hSw); go_simp; try with_reducible rfl)
  try simp only [Act.put, List.setIfInBounds_toArray, List.set_cons_zero, List.set_cons_succ]
  refine wpAnyH_take (i := 9) (oi := { dst := some 16, op := Op.load 3 (Operand.tmp 15), type := 3, pos := "isa.go:108", after := #[{ on := 8, ground := Ground.data }], guard := none }) (v := ?_) rfl (by kernel_rfl) (by kernel_rfl) (by kernel_rfl) (fun _ _ _ h => h) (Or.inl ⟨rfl, ?_⟩) hHeld ?_
  rotate_left
  · (intro w hSw; (try dsimp only at hSw); go_simp; try with_reducible rfl)
  try simp only [Act.put, List.setIfInBounds_toArray, List.set_cons_zero, List.set_cons_succ]
  refine wpAnyH_take (i := 10) (oi := { dst := some 17, op := Op.build 53 #[(0, Operand.const (Value.int IntKind.i64 20)), (1, Operand.const (Value.int IntKind.i64 4)), (2, Operand.tmp 16)], type := 53, pos := "isa.go:108", after := #[{ on := 9, ground := Ground.data }], guard := none }) (v := ?_) rfl (by kernel_rfl) (by kernel_rfl) (by kernel_rfl) (fun _ _ _ h => h) (Or.inl ⟨rfl, ?_⟩) hHeld ?_
  rotate_left
  · (intro w hSw; (try dsimp only at hSw); go_simp; try with_reducible rfl)
  try simp only [Act.put, List.setIfInBounds_toArray, List.set_cons_zero, List.set_cons_succ]
  refine wpAnyH_take (i := 11) (oi := { dst := some 18, op := Op.fieldAddr 23 (Operand.tmp 1) 1, type := 0, pos := "isa.go:108", after := #[], guard := none }) (v := ?_) rfl (by kernel_rfl) (by kernel_rfl) (by kernel_rfl) (fun _ _ _ h => h) (Or.inl ⟨rfl, ?_⟩) hHeld ?_
  rotate_left
  · (intro w hSw; (try dsimp only at hSw); go_simp; try with_reducible rfl)
  try simp only [Act.put, List.setIfInBounds_toArray, List.set_cons_zero, List.set_cons_succ]
  refine wpAnyH_take (i := 12) (oi := { dst := some 19, op := Op.load 3 (Operand.tmp 18), type := 3, pos := "isa.go:108", after := #[{ on := 11, ground := Ground.data }], guard := none }) (v := ?_) rfl (by kernel_rfl) (by kernel_rfl) (by kernel_rfl) (fun _ _ _ h => h) (Or.inl ⟨rfl, ?_⟩) hHeld ?_
  rotate_left
  · (intro w hSw; (try dsimp only at hSw); go_simp; try with_reducible rfl)
  try simp only [Act.put, List.setIfInBounds_toArray, List.set_cons_zero, List.set_cons_succ]
  refine wpAnyH_take (i := 13) (oi := { dst := some 20, op := Op.build 53 #[(0, Operand.const (Value.int IntKind.i64 16)), (1, Operand.const (Value.int IntKind.i64 4)), (2, Operand.tmp 19)], type := 53, pos := "isa.go:108", after := #[{ on := 12, ground := Ground.data }], guard := none }) (v := ?_) rfl (by kernel_rfl) (by kernel_rfl) (by kernel_rfl) (fun _ _ _ h => h) (Or.inl ⟨rfl, ?_⟩) hHeld ?_
  rotate_left
  · (intro w hSw; (try dsimp only at hSw); go_simp; try with_reducible rfl)
  try simp only [Act.put, List.setIfInBounds_toArray, List.set_cons_zero, List.set_cons_succ]
  refine wpAnyH_take (i := 14) (oi := { dst := some 21, op := Op.fieldAddr 23 (Operand.tmp 1) 4, type := 0, pos := "isa.go:108", after := #[], guard := none }) (v := ?_) rfl (by kernel_rfl) (by kernel_rfl) (by kernel_rfl) (fun _ _ _ h => h) (Or.inl ⟨rfl, ?_⟩) hHeld ?_
  rotate_left
  · (intro w hSw; (try dsimp only at hSw); go_simp; try with_reducible rfl)
  try simp only [Act.put, List.setIfInBounds_toArray, List.set_cons_zero, List.set_cons_succ]
  refine wpAnyH_take (i := 15) (oi := { dst := some 22, op := Op.load 3 (Operand.tmp 21), type := 3, pos := "isa.go:108", after := #[{ on := 14, ground := Ground.data }], guard := none }) (v := ?_) rfl (by kernel_rfl) (by kernel_rfl) (by kernel_rfl) (fun _ _ _ h => h) (Or.inl ⟨rfl, ?_⟩) hHeld ?_
  rotate_left
  · (intro w hSw; (try dsimp only at hSw); go_simp; try with_reducible rfl)
  try simp only [Act.put, List.setIfInBounds_toArray, List.set_cons_zero, List.set_cons_succ]
  refine wpAnyH_take (i := 16) (oi := { dst := some 23, op := Op.build 53 #[(0, Operand.const (Value.int IntKind.i64 0)), (1, Operand.const (Value.int IntKind.i64 4)), (2, Operand.tmp 22)], type := 53, pos := "isa.go:108", after := #[{ on := 15, ground := Ground.data }], guard := none }) (v := ?_) rfl (by kernel_rfl) (by kernel_rfl) (by kernel_rfl) (fun _ _ _ h => h) (Or.inl ⟨rfl, ?_⟩) hHeld ?_
  rotate_left
  · (intro w hSw; (try dsimp only at hSw); go_simp; try with_reducible rfl)
  try simp only [Act.put, List.setIfInBounds_toArray, List.set_cons_zero, List.set_cons_succ]
  refine wpAnyH_ready (rs := [3]) (by kernel_rfl) (by simp) ?_
  refine AllReadyH.cons (o := { dst := some 10, op := Op.call { callee := Callee.value (Operand.func 35), args := #[Operand.tmp 9], argTypes := #[4] }, type := 3, pos := "isa.go:108", after := #[{ on := 2, ground := Ground.data }], guard := none }) rfl (fun K hK => ?_) AllReadyH.nil
  go_simp
  go_at_call 35
  refine (bit_any _ _).mono ?_
  rintro e w6 ⟨rfl, rfl⟩
  clear hHeld
  refine hK.out _ _ ?_ (fun hHeld => ?_)
  · exact (HX1.out.kept hK0.drew).cells
  clear hK K
  try simp only [Act.put, List.setIfInBounds_toArray, List.set_cons_zero, List.set_cons_succ]
  refine wpAnyH_take (i := 4) (oi := { dst := some 11, op := Op.build 53 #[(0, Operand.const (Value.int IntKind.i64 29)), (1, Operand.const (Value.int IntKind.i64 1)), (2, Operand.tmp 10)], type := 53, pos := "isa.go:108", after := #[{ on := 3, ground := Ground.data }], guard := none }) (v := ?_) rfl (by kernel_rfl) (by kernel_rfl) (by kernel_rfl) (fun _ _ _ h => h) (Or.inl ⟨rfl, ?_⟩) hHeld ?_
  rotate_left
  · (intro w hSw; (try dsimp only at hSw); go_simp; try with_reducible rfl)
  try simp only [Act.put, List.setIfInBounds_toArray, List.set_cons_zero, List.set_cons_succ]
  refine wpAnyH_ready (rs := [17]) (by kernel_rfl) (by simp) ?_
  refine AllReadyH.cons (o := { dst := some 24, op := Op.buildSlice 59 6 #[(0, Operand.tmp 7), (1, Operand.tmp 11), (2, Operand.tmp 14), (3, Operand.tmp 17), (4, Operand.tmp 20), (5, Operand.tmp 23)], type := 59, pos := "isa.go:108", after := #[{ on := 0, ground := Ground.data }, { on := 4, ground := Ground.data }, { on := 7, ground := Ground.data }, { on := 10, ground := Ground.data }, { on := 13, ground := Ground.data }, { on := 16, ground := Ground.data }], guard := none }) rfl (fun K hK => ?_) AllReadyH.nil
  go_simp
  clear hHeld
  refine hK.out _ _ ?_ (fun hHeld => ?_)
  · exact (HX1.out.kept HBB.out).cells
  clear hK K
  try simp only [Act.put, List.setIfInBounds_toArray, List.set_cons_zero, List.set_cons_succ]
  refine wpAnyH_ready (rs := [18]) (by kernel_rfl) (by simp) ?_
  refine AllReadyH.cons (o := { dst := some 25, op := Op.call { callee := Callee.value (Operand.func 34), args := #[Operand.tmp 24], argTypes := #[59] }, type := 24, pos := "isa.go:108", after := #[{ on := 17, ground := Ground.data }, { on := 3, ground := Ground.chain }], guard := none }) rfl (fun K hK => ?_) AllReadyH.nil
  go_simp
  go_at_call 34
  refine (joined_1 op a b c i u _ _ HW.out r HR.out).mono ?_
  rintro e w7 ⟨rfl, hK5⟩
  clear hHeld
  refine hK.out _ _ ?_ (fun hHeld => ?_)
  · exact ((HX1.out.kept HBB.out).kept hK5).cells
  clear hK K
  try simp only [Act.put, List.setIfInBounds_toArray, List.set_cons_zero, List.set_cons_succ]
  refine wpAnyH_take (i := 19) (oi := { dst := some 2, op := Op.assign (Operand.tmp 25), type := 24, pos := "isa.go:108", after := #[{ on := 18, ground := Ground.data }, { on := 18, ground := Ground.chain }, { on := 0, ground := Ground.phase }, { on := 1, ground := Ground.phase }, { on := 2, ground := Ground.phase }, { on := 3, ground := Ground.phase }, { on := 4, ground := Ground.phase }, { on := 5, ground := Ground.phase }, { on := 6, ground := Ground.phase }, { on := 7, ground := Ground.phase }, { on := 8, ground := Ground.phase }, { on := 9, ground := Ground.phase }, { on := 10, ground := Ground.phase }, { on := 11, ground := Ground.phase }, { on := 12, ground := Ground.phase }, { on := 13, ground := Ground.phase }, { on := 14, ground := Ground.phase }, { on := 15, ground := Ground.phase }, { on := 16, ground := Ground.phase }, { on := 17, ground := Ground.phase }, { on := 18, ground := Ground.phase }], guard := none }) (v := ?_) rfl (by kernel_rfl) (by kernel_rfl) (by kernel_rfl) (fun _ _ _ h => h) (Or.inl ⟨rfl, ?_⟩) hHeld ?_
  rotate_left
  · (intro w hSw; (try dsimp only at hSw); go_simp; try with_reducible rfl)
  try simp only [Act.put, List.setIfInBounds_toArray, List.set_cons_zero, List.set_cons_succ]
  refine wpAnyH_done (by kernel_rfl) ?_ _
  go_wp2_with fail
  go_ret
  exact ⟨rfl, (HB.out.trans HBB.out).trans hK5⟩
set_option maxHeartbeats 2000000 in
theorem wordOf_2 (op a b c i r : Int) (u : Bool) (HR : Hid (I.join (fun j => ([30, 29, 28, 24, 20, 16, 0] : List Int).getD j 0) (fun j => ([2, 1, 1, 4, 4, 4, 16] : List Int).getD j 0) (fun j => ([1, I.bit u, I.bit (decide (i < 0)), a, b, op, i] : List Int).getD j 0) 7 = r)) (w : World) :
    Calls Try.prog 21 #[.agg #[.int .i64 2, .int .i64 op, .int .i64 a, .int .i64 b, .int .i64 c, .int .i64 i, .bool u]] w fun e w' => e = .returned (.int .u32 r) ∧ Kept w w' := by
  have hK0 := Kept.refl (w.alloc (.cells #[.int .i64 2, .int .i64 op, .int .i64 a, .int .i64 b, .int .i64 c, .int .i64 i, .bool u] 23))
  have X1 := Box.new 2 op a b c i u w
  have hB := show Kept w (w.alloc (.cells #[.int .i64 2, .int .i64 op, .int .i64 a, .int .i64 b, .int .i64 c, .int .i64 i, .bool u] 23)) from (Kept.refl w).alloc _ _
  go_enter Try.func21, Try.ntmps21
  go_wp2_with fail
  generalize (w.alloc (.cells #[.int .i64 2, .int .i64 op, .int .i64 a, .int .i64 b, .int .i64 c, .int .i64 i, .bool u] 23)) = wB at hK0 hB X1
  have HB := Lib.hid hB
  have HX1 := Lib.hid X1
  have HW := Lib.hid (show (wB.drew.alloc (.cells #[.int .i64 (30), .int .i64 (2), .int .i64 (1), .int .i64 (29), .int .i64 (1), .int .i64 (I.bit u), .int .i64 (28), .int .i64 (1), .int .i64 (I.bit (decide (i < 0))), .int .i64 (24), .int .i64 (4), .int .i64 (a), .int .i64 (20), .int .i64 (4), .int .i64 (b), .int .i64 (16), .int .i64 (4), .int .i64 (op), .int .i64 (0), .int .i64 (16), .int .i64 (i)] 53)).heap[wB.heap.size]? = some _ from heap_alloc_last wB.drew _)
  have HBB := Lib.hid (show Kept wB (wB.drew.alloc (.cells #[.int .i64 (30), .int .i64 (2), .int .i64 (1), .int .i64 (29), .int .i64 (1), .int .i64 (I.bit u), .int .i64 (28), .int .i64 (1), .int .i64 (I.bit (decide (i < 0))), .int .i64 (24), .int .i64 (4), .int .i64 (a), .int .i64 (20), .int .i64 (4), .int .i64 (b), .int .i64 (16), .int .i64 (4), .int .i64 (op), .int .i64 (0), .int .i64 (16), .int .i64 (i)] 53)) from ((Kept.refl wB).drew).alloc _ _)
  clear hB X1
  refine wp_region_held_drew (S := fun w' => w'.cell? ⟨w.heap.size, 0, none⟩ = some (.int .i64 2) ∧ w'.cell? ⟨w.heap.size, 1, none⟩ = some (.int .i64 op) ∧ w'.cell? ⟨w.heap.size, 2, none⟩ = some (.int .i64 a) ∧ w'.cell? ⟨w.heap.size, 3, none⟩ = some (.int .i64 b) ∧ w'.cell? ⟨w.heap.size, 4, none⟩ = some (.int .i64 c) ∧ w'.cell? ⟨w.heap.size, 5, none⟩ = some (.int .i64 i) ∧ w'.cell? ⟨w.heap.size, 6, none⟩ = some (.bool u)) (by kernel_rfl) ?_ (fun hHeld => ?_)
  · exact (HX1.out.kept hK0.drew).cells
  refine wpAnyH_take (i := 0) (oi := { dst := some 43, op := Op.build 53 #[(0, Operand.const (Value.int IntKind.i64 30)), (1, Operand.const (Value.int IntKind.i64 2)), (2, Operand.const (Value.int IntKind.i64 1))], type := 53, pos := "isa.go:112", after := #[], guard := none }) (v := ?_) rfl (by kernel_rfl) (by kernel_rfl) (by kernel_rfl) (fun _ _ _ h => h) (Or.inl ⟨rfl, ?_⟩) hHeld ?_
  rotate_left
  · (intro w hSw; (try dsimp only at hSw); go_simp; try with_reducible rfl)
  try simp only [Act.put, List.setIfInBounds_toArray, List.set_cons_zero, List.set_cons_succ]
  refine wpAnyH_take (i := 1) (oi := { dst := some 44, op := Op.fieldAddr 23 (Operand.tmp 1) 6, type := 0, pos := "isa.go:112", after := #[], guard := none }) (v := ?_) rfl (by kernel_rfl) (by kernel_rfl) (by kernel_rfl) (fun _ _ _ h => h) (Or.inl ⟨rfl, ?_⟩) hHeld ?_
  rotate_left
  · (intro w hSw; (try dsimp only at hSw); go_simp; try with_reducible rfl)
  try simp only [Act.put, List.setIfInBounds_toArray, List.set_cons_zero, List.set_cons_succ]
  refine wpAnyH_take (i := 2) (oi := { dst := some 45, op := Op.load 4 (Operand.tmp 44), type := 4, pos := "isa.go:112", after := #[{ on := 1, ground := Ground.data }], guard := none }) (v := ?_) rfl (by kernel_rfl) (by kernel_rfl) (by kernel_rfl) (fun _ _ _ h => h) (Or.inl ⟨rfl, ?_⟩) hHeld ?_
  rotate_left
  · (intro w hSw; (try dsimp only at hSw); go_simp; try with_reducible rfl)
  try simp only [Act.put, List.setIfInBounds_toArray, List.set_cons_zero, List.set_cons_succ]
  refine wpAnyH_take (i := 5) (oi := { dst := some 48, op := Op.fieldAddr 23 (Operand.tmp 1) 5, type := 0, pos := "isa.go:112", after := #[], guard := none }) (v := ?_) rfl (by kernel_rfl) (by kernel_rfl) (by kernel_rfl) (fun _ _ _ h => h) (Or.inl ⟨rfl, ?_⟩) hHeld ?_
  rotate_left
  · (intro w hSw; (try dsimp only at hSw); go_simp; try with_reducible rfl)
  try simp only [Act.put, List.setIfInBounds_toArray, List.set_cons_zero, List.set_cons_succ]
  refine wpAnyH_take (i := 6) (oi := { dst := some 49, op := Op.load 3 (Operand.tmp 48), type := 3, pos := "isa.go:112", after := #[{ on := 5, ground := Ground.data }], guard := none }) (v := ?_) rfl (by kernel_rfl) (by kernel_rfl) (by kernel_rfl) (fun _ _ _ h => h) (Or.inl ⟨rfl, ?_⟩) hHeld ?_
  rotate_left
  · (intro w hSw; (try dsimp only at hSw); go_simp; try with_reducible rfl)
  try simp only [Act.put, List.setIfInBounds_toArray, List.set_cons_zero, List.set_cons_succ]
  refine wpAnyH_take (i := 7) (oi := { dst := some 50, op := Op.binOp BinOp.lss 3 (Operand.tmp 49) (Operand.const (Value.int IntKind.i64 0)) 3, type := 4, pos := "isa.go:112", after := #[{ on := 6, ground := Ground.data }], guard := none }) (v := ?_) rfl (by kernel_rfl) (by kernel_rfl) (by kernel_rfl) (fun _ _ _ h => h) (Or.inl ⟨rfl, ?_⟩) hHeld ?_
  rotate_left
  · (intro w hSw; (try dsimp only at hSw); go_simp; try with_reducible rfl)
  try simp only [Act.put, List.setIfInBounds_toArray, List.set_cons_zero, List.set_cons_succ]
  refine wpAnyH_take (i := 10) (oi := { dst := some 53, op := Op.fieldAddr 23 (Operand.tmp 1) 2, type := 0, pos := "isa.go:112", after := #[], guard := none }) (v := ?_) rfl (by kernel_rfl) (by kernel_rfl) (by kernel_rfl) (fun _ _ _ h => h) (Or.inl ⟨rfl, ?_⟩) hHeld ?_
  rotate_left
  · (intro w hSw; (try dsimp only at hSw); go_simp; try with_reducible rfl)
  try simp only [Act.put, List.setIfInBounds_toArray, List.set_cons_zero, List.set_cons_succ]
  refine wpAnyH_take (i := 11) (oi := { dst := some 54, op := Op.load 3 (Operand.tmp 53), type := 3, pos := "isa.go:112", after := #[{ on := 10, ground := Ground.data }], guard := none }) (v := ?_) rfl (by kernel_rfl) (by kernel_rfl) (by kernel_rfl) (fun _ _ _ h => h) (Or.inl ⟨rfl, ?_⟩) hHeld ?_
  rotate_left
  · (intro w hSw; (try dsimp only at hSw); go_simp; try with_reducible rfl)
  try simp only [Act.put, List.setIfInBounds_toArray, List.set_cons_zero, List.set_cons_succ]
  refine wpAnyH_take (i := 12) (oi := { dst := some 55, op := Op.build 53 #[(0, Operand.const (Value.int IntKind.i64 24)), (1, Operand.const (Value.int IntKind.i64 4)), (2, Operand.tmp 54)], type := 53, pos := "isa.go:112", after := #[{ on := 11, ground := Ground.data }], guard := none }) (v := ?_) rfl (by kernel_rfl) (by kernel_rfl) (by kernel_rfl) (fun _ _ _ h => h) (Or.inl ⟨rfl, ?_⟩) hHeld ?_
  rotate_left
  · (intro w hSw; (try dsimp only at hSw); go_simp; try with_reducible rfl)
  try simp only [Act.put, List.setIfInBounds_toArray, List.set_cons_zero, List.set_cons_succ]
  refine wpAnyH_take (i := 13) (oi := { dst := some 56, op := Op.fieldAddr 23 (Operand.tmp 1) 3, type := 0, pos := "isa.go:112", after := #[], guard := none }) (v := ?_) rfl (by kernel_rfl) (by kernel_rfl) (by kernel_rfl) (fun _ _ _ h => h) (Or.inl ⟨rfl, ?_⟩) hHeld ?_
  rotate_left
  · (intro w hSw; (try dsimp only at hSw); go_simp; try with_reducible rfl)
  try simp only [Act.put, List.setIfInBounds_toArray, List.set_cons_zero, List.set_cons_succ]
  refine wpAnyH_take (i := 14) (oi := { dst := some 57, op := Op.load 3 (Operand.tmp 56), type := 3, pos := "isa.go:112", after := #[{ on := 13, ground := Ground.data }], guard := none }) (v := ?_) rfl (by kernel_rfl) (by kernel_rfl) (by kernel_rfl) (fun _ _ _ h => h) (Or.inl ⟨rfl, ?_⟩) hHeld ?_
  rotate_left
  · (intro w hSw; (try dsimp only at hSw); go_simp; try with_reducible rfl)
  try simp only [Act.put, List.setIfInBounds_toArray, List.set_cons_zero, List.set_cons_succ]
  refine wpAnyH_take (i := 15) (oi := { dst := some 58, op := Op.build 53 #[(0, Operand.const (Value.int IntKind.i64 20)), (1, Operand.const (Value.int IntKind.i64 4)), (2, Operand.tmp 57)], type := 53, pos := "isa.go:112", after := #[{ on := 14, ground := Ground.data }], guard := none }) (v := ?_) rfl (by kernel_rfl) (by kernel_rfl) (by kernel_rfl) (fun _ _ _ h => h) (Or.inl ⟨rfl, ?_⟩) hHeld ?_
  rotate_left
  · (intro w hSw; (try dsimp only at hSw); go_simp; try with_reducible rfl)
  try simp only [Act.put, List.setIfInBounds_toArray, List.set_cons_zero, List.set_cons_succ]
  refine wpAnyH_take (i := 16) (oi := { dst := some 59, op := Op.fieldAddr 23 (Operand.tmp 1) 1, type := 0, pos := "isa.go:112", after := #[], guard := none }) (v := ?_) rfl (by kernel_rfl) (by kernel_rfl) (by kernel_rfl) (fun _ _ _ h => h) (Or.inl ⟨rfl, ?_⟩) hHeld ?_
  rotate_left
  · (intro w hSw; (try dsimp only at hSw); go_simp; try with_reducible rfl)
  try simp only [Act.put, List.setIfInBounds_toArray, List.set_cons_zero, List.set_cons_succ]
  refine wpAnyH_take (i := 17) (oi := { dst := some 60, op := Op.load 3 (Operand.tmp 59), type := 3, pos := "isa.go:112", after := #[{ on := 16, ground := Ground.data }], guard := none }) (v := ?_) rfl (by kernel_rfl) (by kernel_rfl) (by kernel_rfl) (fun _ _ _ h => h) (Or.inl ⟨rfl, ?_⟩) hHeld ?_
  rotate_left
  · (intro w hSw; (try dsimp only at hSw); go_simp; try with_reducible rfl)
  try simp only [Act.put, List.setIfInBounds_toArray, List.set_cons_zero, List.set_cons_succ]
  refine wpAnyH_take (i := 18) (oi := { dst := some 61, op := Op.build 53 #[(0, Operand.const (Value.int IntKind.i64 16)), (1, Operand.const (Value.int IntKind.i64 4)), (2, Operand.tmp 60)], type := 53, pos := "isa.go:112", after := #[{ on := 17, ground := Ground.data }], guard := none }) (v := ?_) rfl (by kernel_rfl) (by kernel_rfl) (by kernel_rfl) (fun _ _ _ h => h) (Or.inl ⟨rfl, ?_⟩) hHeld ?_
  rotate_left
  · (intro w hSw; (try dsimp only at hSw); go_simp; try with_reducible rfl)
  try simp only [Act.put, List.setIfInBounds_toArray, List.set_cons_zero, List.set_cons_succ]
  refine wpAnyH_take (i := 19) (oi := { dst := some 62, op := Op.fieldAddr 23 (Operand.tmp 1) 5, type := 0, pos := "isa.go:112", after := #[], guard := none }) (v := ?_) rfl (by kernel_rfl) (by kernel_rfl) (by kernel_rfl) (fun _ _ _ h => h) (Or.inl ⟨rfl, ?_⟩) hHeld ?_
  rotate_left
  · (intro w hSw; (try dsimp only at hSw); go_simp; try with_reducible rfl)
  try simp only [Act.put, List.setIfInBounds_toArray, List.set_cons_zero, List.set_cons_succ]
  refine wpAnyH_take (i := 20) (oi := { dst := some 63, op := Op.load 3 (Operand.tmp 62), type := 3, pos := "isa.go:112", after := #[{ on := 19, ground := Ground.data }], guard := none }) (v := ?_) rfl (by kernel_rfl) (by kernel_rfl) (by kernel_rfl) (fun _ _ _ h => h) (Or.inl ⟨rfl, ?_⟩) hHeld ?_
  rotate_left
  · (intro w hSw; (try dsimp only at hSw); go_simp; try with_reducible rfl)
  try simp only [Act.put, List.setIfInBounds_toArray, List.set_cons_zero, List.set_cons_succ]
  refine wpAnyH_take (i := 21) (oi := { dst := some 64, op := Op.build 53 #[(0, Operand.const (Value.int IntKind.i64 0)), (1, Operand.const (Value.int IntKind.i64 16)), (2, Operand.tmp 63)], type := 53, pos := "isa.go:112", after := #[{ on := 20, ground := Ground.data }], guard := none }) (v := ?_) rfl (by kernel_rfl) (by kernel_rfl) (by kernel_rfl) (fun _ _ _ h => h) (Or.inl ⟨rfl, ?_⟩) hHeld ?_
  rotate_left
  · (intro w hSw; (try dsimp only at hSw); go_simp; try with_reducible rfl)
  try simp only [Act.put, List.setIfInBounds_toArray, List.set_cons_zero, List.set_cons_succ]
  refine wpAnyH_ready (rs := [3]) (by kernel_rfl) (by simp) ?_
  refine AllReadyH.cons (o := { dst := some 46, op := Op.call { callee := Callee.value (Operand.func 35), args := #[Operand.tmp 45], argTypes := #[4] }, type := 3, pos := "isa.go:112", after := #[{ on := 2, ground := Ground.data }], guard := none }) rfl (fun K hK => ?_) AllReadyH.nil
  go_simp
  go_at_call 35
  refine (bit_any _ _).mono ?_
  rintro e w6 ⟨rfl, rfl⟩
  clear hHeld
  refine hK.out _ _ ?_ (fun hHeld => ?_)
  · exact (HX1.out.kept hK0.drew).cells
  clear hK K
  try simp only [Act.put, List.setIfInBounds_toArray, List.set_cons_zero, List.set_cons_succ]
  refine wpAnyH_take (i := 4) (oi := { dst := some 47, op := Op.build 53 #[(0, Operand.const (Value.int IntKind.i64 29)), (1, Operand.const (Value.int IntKind.i64 1)), (2, Operand.tmp 46)], type := 53, pos := "isa.go:112", after := #[{ on := 3, ground := Ground.data }], guard := none }) (v := ?_) rfl (by kernel_rfl) (by kernel_rfl) (by kernel_rfl) (fun _ _ _ h => h) (Or.inl ⟨rfl, ?_⟩) hHeld ?_
  rotate_left
  · (intro w hSw; (try dsimp only at hSw); go_simp; try with_reducible rfl)
  try simp only [Act.put, List.setIfInBounds_toArray, List.set_cons_zero, List.set_cons_succ]
  refine wpAnyH_ready (rs := [8]) (by kernel_rfl) (by simp) ?_
  refine AllReadyH.cons (o := { dst := some 51, op := Op.call { callee := Callee.value (Operand.func 35), args := #[Operand.tmp 50], argTypes := #[4] }, type := 3, pos := "isa.go:112", after := #[{ on := 7, ground := Ground.data }, { on := 3, ground := Ground.chain }], guard := none }) rfl (fun K hK => ?_) AllReadyH.nil
  go_simp
  go_at_call 35
  refine (bit_any _ _).mono ?_
  rintro e w6 ⟨rfl, rfl⟩
  clear hHeld
  refine hK.out _ _ ?_ (fun hHeld => ?_)
  · exact (HX1.out.kept hK0.drew).cells
  clear hK K
  try simp only [Act.put, List.setIfInBounds_toArray, List.set_cons_zero, List.set_cons_succ]
  refine wpAnyH_take (i := 9) (oi := { dst := some 52, op := Op.build 53 #[(0, Operand.const (Value.int IntKind.i64 28)), (1, Operand.const (Value.int IntKind.i64 1)), (2, Operand.tmp 51)], type := 53, pos := "isa.go:112", after := #[{ on := 8, ground := Ground.data }], guard := none }) (v := ?_) rfl (by kernel_rfl) (by kernel_rfl) (by kernel_rfl) (fun _ _ _ h => h) (Or.inl ⟨rfl, ?_⟩) hHeld ?_
  rotate_left
  · (intro w hSw; (try dsimp only at hSw); go_simp; try with_reducible rfl)
  try simp only [Act.put, List.setIfInBounds_toArray, List.set_cons_zero, List.set_cons_succ]
  refine wpAnyH_ready (rs := [22]) (by kernel_rfl) (by simp) ?_
  refine AllReadyH.cons (o := { dst := some 65, op := Op.buildSlice 59 7 #[(0, Operand.tmp 43), (1, Operand.tmp 47), (2, Operand.tmp 52), (3, Operand.tmp 55), (4, Operand.tmp 58), (5, Operand.tmp 61), (6, Operand.tmp 64)], type := 59, pos := "isa.go:112", after := #[{ on := 0, ground := Ground.data }, { on := 4, ground := Ground.data }, { on := 9, ground := Ground.data }, { on := 12, ground := Ground.data }, { on := 15, ground := Ground.data }, { on := 18, ground := Ground.data }, { on := 21, ground := Ground.data }], guard := none }) rfl (fun K hK => ?_) AllReadyH.nil
  go_simp
  clear hHeld
  refine hK.out _ _ ?_ (fun hHeld => ?_)
  · exact (HX1.out.kept HBB.out).cells
  clear hK K
  try simp only [Act.put, List.setIfInBounds_toArray, List.set_cons_zero, List.set_cons_succ]
  refine wpAnyH_ready (rs := [23]) (by kernel_rfl) (by simp) ?_
  refine AllReadyH.cons (o := { dst := some 66, op := Op.call { callee := Callee.value (Operand.func 34), args := #[Operand.tmp 65], argTypes := #[59] }, type := 24, pos := "isa.go:112", after := #[{ on := 22, ground := Ground.data }, { on := 8, ground := Ground.chain }], guard := none }) rfl (fun K hK => ?_) AllReadyH.nil
  go_simp
  go_at_call 34
  refine (joined_2 op a b c i u _ _ HW.out r HR.out).mono ?_
  rintro e w7 ⟨rfl, hK5⟩
  clear hHeld
  refine hK.out _ _ ?_ (fun hHeld => ?_)
  · exact ((HX1.out.kept HBB.out).kept hK5).cells
  clear hK K
  try simp only [Act.put, List.setIfInBounds_toArray, List.set_cons_zero, List.set_cons_succ]
  refine wpAnyH_take (i := 24) (oi := { dst := some 2, op := Op.assign (Operand.tmp 66), type := 24, pos := "isa.go:112", after := #[{ on := 23, ground := Ground.data }, { on := 23, ground := Ground.chain }, { on := 0, ground := Ground.phase }, { on := 1, ground := Ground.phase }, { on := 2, ground := Ground.phase }, { on := 3, ground := Ground.phase }, { on := 4, ground := Ground.phase }, { on := 5, ground := Ground.phase }, { on := 6, ground := Ground.phase }, { on := 7, ground := Ground.phase }, { on := 8, ground := Ground.phase }, { on := 9, ground := Ground.phase }, { on := 10, ground := Ground.phase }, { on := 11, ground := Ground.phase }, { on := 12, ground := Ground.phase }, { on := 13, ground := Ground.phase }, { on := 14, ground := Ground.phase }, { on := 15, ground := Ground.phase }, { on := 16, ground := Ground.phase }, { on := 17, ground := Ground.phase }, { on := 18, ground := Ground.phase }, { on := 19, ground := Ground.phase }, { on := 20, ground := Ground.phase }, { on := 21, ground := Ground.phase }, { on := 22, ground := Ground.phase }, { on := 23, ground := Ground.phase }], guard := none }) (v := ?_) rfl (by kernel_rfl) (by kernel_rfl) (by kernel_rfl) (fun _ _ _ h => h) (Or.inl ⟨rfl, ?_⟩) hHeld ?_
  rotate_left
  · (intro w hSw; (try dsimp only at hSw); go_simp; try with_reducible rfl)
  try simp only [Act.put, List.setIfInBounds_toArray, List.set_cons_zero, List.set_cons_succ]
  refine wpAnyH_done (by kernel_rfl) ?_ _
  go_wp2_with fail
  go_ret
  exact ⟨rfl, (HB.out.trans HBB.out).trans hK5⟩
set_option maxHeartbeats 2000000 in
theorem wordOf_3 (op a b c i r : Int) (u : Bool) (HR : Hid (I.join (fun j => ([30, 29, 28, 24] : List Int).getD j 0) (fun j => ([2, 1, 1, 4] : List Int).getD j 0) (fun j => ([0, 1, I.bit false, a] : List Int).getD j 0) 4 = r)) (w : World) :
    Calls Try.prog 21 #[.agg #[.int .i64 3, .int .i64 op, .int .i64 a, .int .i64 b, .int .i64 c, .int .i64 i, .bool u]] w fun e w' => e = .returned (.int .u32 r) ∧ Kept w w' := by
  have hK0 := Kept.refl (w.alloc (.cells #[.int .i64 3, .int .i64 op, .int .i64 a, .int .i64 b, .int .i64 c, .int .i64 i, .bool u] 23))
  have X1 := Box.new 3 op a b c i u w
  have hB := show Kept w (w.alloc (.cells #[.int .i64 3, .int .i64 op, .int .i64 a, .int .i64 b, .int .i64 c, .int .i64 i, .bool u] 23)) from (Kept.refl w).alloc _ _
  go_enter Try.func21, Try.ntmps21
  go_wp2_with fail
  generalize (w.alloc (.cells #[.int .i64 3, .int .i64 op, .int .i64 a, .int .i64 b, .int .i64 c, .int .i64 i, .bool u] 23)) = wB at hK0 hB X1
  have HB := Lib.hid hB
  have HX1 := Lib.hid X1
  have HW := Lib.hid (show (wB.drew.alloc (.cells #[.int .i64 (30), .int .i64 (2), .int .i64 (0), .int .i64 (29), .int .i64 (1), .int .i64 (1), .int .i64 (28), .int .i64 (1), .int .i64 (I.bit false), .int .i64 (24), .int .i64 (4), .int .i64 (a)] 53)).heap[wB.heap.size]? = some _ from heap_alloc_last wB.drew _)
  have HBB := Lib.hid (show Kept wB (wB.drew.alloc (.cells #[.int .i64 (30), .int .i64 (2), .int .i64 (0), .int .i64 (29), .int .i64 (1), .int .i64 (1), .int .i64 (28), .int .i64 (1), .int .i64 (I.bit false), .int .i64 (24), .int .i64 (4), .int .i64 (a)] 53)) from ((Kept.refl wB).drew).alloc _ _)
  clear hB X1
  refine wp_region_held_drew (S := fun w' => w'.cell? ⟨w.heap.size, 0, none⟩ = some (.int .i64 3) ∧ w'.cell? ⟨w.heap.size, 1, none⟩ = some (.int .i64 op) ∧ w'.cell? ⟨w.heap.size, 2, none⟩ = some (.int .i64 a) ∧ w'.cell? ⟨w.heap.size, 3, none⟩ = some (.int .i64 b) ∧ w'.cell? ⟨w.heap.size, 4, none⟩ = some (.int .i64 c) ∧ w'.cell? ⟨w.heap.size, 5, none⟩ = some (.int .i64 i) ∧ w'.cell? ⟨w.heap.size, 6, none⟩ = some (.bool u)) (by kernel_rfl) ?_ (fun hHeld => ?_)
  · exact (HX1.out.kept hK0.drew).cells
  refine wpAnyH_take (i := 0) (oi := { dst := some 29, op := Op.build 53 #[(0, Operand.const (Value.int IntKind.i64 30)), (1, Operand.const (Value.int IntKind.i64 2)), (2, Operand.const (Value.int IntKind.i64 0))], type := 53, pos := "isa.go:110", after := #[], guard := none }) (v := ?_) rfl (by kernel_rfl) (by kernel_rfl) (by kernel_rfl) (fun _ _ _ h => h) (Or.inl ⟨rfl, ?_⟩) hHeld ?_
  rotate_left
  · (intro w hSw; (try dsimp only at hSw); go_simp; try with_reducible rfl)
  try simp only [Act.put, List.setIfInBounds_toArray, List.set_cons_zero, List.set_cons_succ]
  refine wpAnyH_take (i := 1) (oi := { dst := some 30, op := Op.build 53 #[(0, Operand.const (Value.int IntKind.i64 29)), (1, Operand.const (Value.int IntKind.i64 1)), (2, Operand.const (Value.int IntKind.i64 1))], type := 53, pos := "isa.go:110", after := #[], guard := none }) (v := ?_) rfl (by kernel_rfl) (by kernel_rfl) (by kernel_rfl) (fun _ _ _ h => h) (Or.inl ⟨rfl, ?_⟩) hHeld ?_
  rotate_left
  · (intro w hSw; (try dsimp only at hSw); go_simp; try with_reducible rfl)
  try simp only [Act.put, List.setIfInBounds_toArray, List.set_cons_zero, List.set_cons_succ]
  refine wpAnyH_take (i := 2) (oi := { dst := some 31, op := Op.fieldAddr 23 (Operand.tmp 1) 0, type := 0, pos := "isa.go:110", after := #[], guard := none }) (v := ?_) rfl (by kernel_rfl) (by kernel_rfl) (by kernel_rfl) (fun _ _ _ h => h) (Or.inl ⟨rfl, ?_⟩) hHeld ?_
  rotate_left
  · (intro w hSw; (try dsimp only at hSw); go_simp; try with_reducible rfl)
  try simp only [Act.put, List.setIfInBounds_toArray, List.set_cons_zero, List.set_cons_succ]
  refine wpAnyH_take (i := 3) (oi := { dst := some 32, op := Op.load 3 (Operand.tmp 31), type := 3, pos := "isa.go:110", after := #[{ on := 2, ground := Ground.data }], guard := none }) (v := ?_) rfl (by kernel_rfl) (by kernel_rfl) (by kernel_rfl) (fun _ _ _ h => h) (Or.inl ⟨rfl, ?_⟩) hHeld ?_
  rotate_left
  · (intro w hSw; (try dsimp only at hSw); go_simp; try with_reducible rfl)
  try simp only [Act.put, List.setIfInBounds_toArray, List.set_cons_zero, List.set_cons_succ]
  refine wpAnyH_take (i := 4) (oi := { dst := some 33, op := Op.binOp BinOp.eql 3 (Operand.tmp 32) (Operand.const (Value.int IntKind.i64 4)) 3, type := 4, pos := "isa.go:110", after := #[{ on := 3, ground := Ground.data }], guard := none }) (v := ?_) rfl (by kernel_rfl) (by kernel_rfl) (by kernel_rfl) (fun _ _ _ h => h) (Or.inl ⟨rfl, ?_⟩) hHeld ?_
  rotate_left
  · (intro w hSw; (try dsimp only at hSw); go_simp; try with_reducible rfl)
  try simp only [Act.put, List.setIfInBounds_toArray, List.set_cons_zero, List.set_cons_succ]
  refine wpAnyH_take (i := 7) (oi := { dst := some 36, op := Op.fieldAddr 23 (Operand.tmp 1) 2, type := 0, pos := "isa.go:110", after := #[], guard := none }) (v := ?_) rfl (by kernel_rfl) (by kernel_rfl) (by kernel_rfl) (fun _ _ _ h => h) (Or.inl ⟨rfl, ?_⟩) hHeld ?_
  rotate_left
  · (intro w hSw; (try dsimp only at hSw); go_simp; try with_reducible rfl)
  try simp only [Act.put, List.setIfInBounds_toArray, List.set_cons_zero, List.set_cons_succ]
  refine wpAnyH_take (i := 8) (oi := { dst := some 37, op := Op.load 3 (Operand.tmp 36), type := 3, pos := "isa.go:110", after := #[{ on := 7, ground := Ground.data }], guard := none }) (v := ?_) rfl (by kernel_rfl) (by kernel_rfl) (by kernel_rfl) (fun _ _ _ h => h) (Or.inl ⟨rfl, ?_⟩) hHeld ?_
  rotate_left
  · (intro w hSw; (try dsimp only at hSw); go_simp; try with_reducible rfl)
  try simp only [Act.put, List.setIfInBounds_toArray, List.set_cons_zero, List.set_cons_succ]
  refine wpAnyH_take (i := 9) (oi := { dst := some 38, op := Op.build 53 #[(0, Operand.const (Value.int IntKind.i64 24)), (1, Operand.const (Value.int IntKind.i64 4)), (2, Operand.tmp 37)], type := 53, pos := "isa.go:110", after := #[{ on := 8, ground := Ground.data }], guard := none }) (v := ?_) rfl (by kernel_rfl) (by kernel_rfl) (by kernel_rfl) (fun _ _ _ h => h) (Or.inl ⟨rfl, ?_⟩) hHeld ?_
  rotate_left
  · (intro w hSw; (try dsimp only at hSw); go_simp; try with_reducible rfl)
  try simp only [Act.put, List.setIfInBounds_toArray, List.set_cons_zero, List.set_cons_succ]
  refine wpAnyH_ready (rs := [5]) (by kernel_rfl) (by simp) ?_
  refine AllReadyH.cons (o := { dst := some 34, op := Op.call { callee := Callee.value (Operand.func 35), args := #[Operand.tmp 33], argTypes := #[4] }, type := 3, pos := "isa.go:110", after := #[{ on := 4, ground := Ground.data }], guard := none }) rfl (fun K hK => ?_) AllReadyH.nil
  go_simp
  go_at_call 35
  refine (bit_any _ _).mono ?_
  rintro e w6 ⟨rfl, rfl⟩
  clear hHeld
  refine hK.out _ _ ?_ (fun hHeld => ?_)
  · exact (HX1.out.kept hK0.drew).cells
  clear hK K
  try simp only [Act.put, List.setIfInBounds_toArray, List.set_cons_zero, List.set_cons_succ]
  refine wpAnyH_take (i := 6) (oi := { dst := some 35, op := Op.build 53 #[(0, Operand.const (Value.int IntKind.i64 28)), (1, Operand.const (Value.int IntKind.i64 1)), (2, Operand.tmp 34)], type := 53, pos := "isa.go:110", after := #[{ on := 5, ground := Ground.data }], guard := none }) (v := ?_) rfl (by kernel_rfl) (by kernel_rfl) (by kernel_rfl) (fun _ _ _ h => h) (Or.inl ⟨rfl, ?_⟩) hHeld ?_
  rotate_left
  · (intro w hSw; (try dsimp only at hSw); go_simp; try with_reducible rfl)
  try simp only [Act.put, List.setIfInBounds_toArray, List.set_cons_zero, List.set_cons_succ]
  refine wpAnyH_ready (rs := [10]) (by kernel_rfl) (by simp) ?_
  refine AllReadyH.cons (o := { dst := some 39, op := Op.buildSlice 59 4 #[(0, Operand.tmp 29), (1, Operand.tmp 30), (2, Operand.tmp 35), (3, Operand.tmp 38)], type := 59, pos := "isa.go:110", after := #[{ on := 0, ground := Ground.data }, { on := 1, ground := Ground.data }, { on := 6, ground := Ground.data }, { on := 9, ground := Ground.data }], guard := none }) rfl (fun K hK => ?_) AllReadyH.nil
  go_simp
  clear hHeld
  refine hK.out _ _ ?_ (fun hHeld => ?_)
  · exact (HX1.out.kept HBB.out).cells
  clear hK K
  try simp only [Act.put, List.setIfInBounds_toArray, List.set_cons_zero, List.set_cons_succ]
  refine wpAnyH_ready (rs := [11]) (by kernel_rfl) (by simp) ?_
  refine AllReadyH.cons (o := { dst := some 40, op := Op.call { callee := Callee.value (Operand.func 34), args := #[Operand.tmp 39], argTypes := #[59] }, type := 24, pos := "isa.go:110", after := #[{ on := 10, ground := Ground.data }, { on := 5, ground := Ground.chain }], guard := none }) rfl (fun K hK => ?_) AllReadyH.nil
  go_simp
  go_at_call 34
  refine (joined_3 op a b c i u _ _ HW.out r HR.out).mono ?_
  rintro e w7 ⟨rfl, hK5⟩
  clear hHeld
  refine hK.out _ _ ?_ (fun hHeld => ?_)
  · exact ((HX1.out.kept HBB.out).kept hK5).cells
  clear hK K
  try simp only [Act.put, List.setIfInBounds_toArray, List.set_cons_zero, List.set_cons_succ]
  refine wpAnyH_take (i := 12) (oi := { dst := some 2, op := Op.assign (Operand.tmp 40), type := 24, pos := "isa.go:110", after := #[{ on := 11, ground := Ground.data }, { on := 11, ground := Ground.chain }, { on := 0, ground := Ground.phase }, { on := 1, ground := Ground.phase }, { on := 2, ground := Ground.phase }, { on := 3, ground := Ground.phase }, { on := 4, ground := Ground.phase }, { on := 5, ground := Ground.phase }, { on := 6, ground := Ground.phase }, { on := 7, ground := Ground.phase }, { on := 8, ground := Ground.phase }, { on := 9, ground := Ground.phase }, { on := 10, ground := Ground.phase }, { on := 11, ground := Ground.phase }], guard := none }) (v := ?_) rfl (by kernel_rfl) (by kernel_rfl) (by kernel_rfl) (fun _ _ _ h => h) (Or.inl ⟨rfl, ?_⟩) hHeld ?_
  rotate_left
  · (intro w hSw; (try dsimp only at hSw); go_simp; try with_reducible rfl)
  try simp only [Act.put, List.setIfInBounds_toArray, List.set_cons_zero, List.set_cons_succ]
  refine wpAnyH_done (by kernel_rfl) ?_ _
  go_wp2_with fail
  go_ret
  exact ⟨rfl, (HB.out.trans HBB.out).trans hK5⟩
set_option maxHeartbeats 2000000 in
theorem wordOf_4 (op a b c i r : Int) (u : Bool) (HR : Hid (I.join (fun j => ([30, 29, 28, 24] : List Int).getD j 0) (fun j => ([2, 1, 1, 4] : List Int).getD j 0) (fun j => ([0, 1, I.bit true, a] : List Int).getD j 0) 4 = r)) (w : World) :
    Calls Try.prog 21 #[.agg #[.int .i64 4, .int .i64 op, .int .i64 a, .int .i64 b, .int .i64 c, .int .i64 i, .bool u]] w fun e w' => e = .returned (.int .u32 r) ∧ Kept w w' := by
  have hK0 := Kept.refl (w.alloc (.cells #[.int .i64 4, .int .i64 op, .int .i64 a, .int .i64 b, .int .i64 c, .int .i64 i, .bool u] 23))
  have X1 := Box.new 4 op a b c i u w
  have hB := show Kept w (w.alloc (.cells #[.int .i64 4, .int .i64 op, .int .i64 a, .int .i64 b, .int .i64 c, .int .i64 i, .bool u] 23)) from (Kept.refl w).alloc _ _
  go_enter Try.func21, Try.ntmps21
  go_wp2_with fail
  generalize (w.alloc (.cells #[.int .i64 4, .int .i64 op, .int .i64 a, .int .i64 b, .int .i64 c, .int .i64 i, .bool u] 23)) = wB at hK0 hB X1
  have HB := Lib.hid hB
  have HX1 := Lib.hid X1
  have HW := Lib.hid (show (wB.drew.alloc (.cells #[.int .i64 (30), .int .i64 (2), .int .i64 (0), .int .i64 (29), .int .i64 (1), .int .i64 (1), .int .i64 (28), .int .i64 (1), .int .i64 (I.bit true), .int .i64 (24), .int .i64 (4), .int .i64 (a)] 53)).heap[wB.heap.size]? = some _ from heap_alloc_last wB.drew _)
  have HBB := Lib.hid (show Kept wB (wB.drew.alloc (.cells #[.int .i64 (30), .int .i64 (2), .int .i64 (0), .int .i64 (29), .int .i64 (1), .int .i64 (1), .int .i64 (28), .int .i64 (1), .int .i64 (I.bit true), .int .i64 (24), .int .i64 (4), .int .i64 (a)] 53)) from ((Kept.refl wB).drew).alloc _ _)
  clear hB X1
  refine wp_region_held_drew (S := fun w' => w'.cell? ⟨w.heap.size, 0, none⟩ = some (.int .i64 4) ∧ w'.cell? ⟨w.heap.size, 1, none⟩ = some (.int .i64 op) ∧ w'.cell? ⟨w.heap.size, 2, none⟩ = some (.int .i64 a) ∧ w'.cell? ⟨w.heap.size, 3, none⟩ = some (.int .i64 b) ∧ w'.cell? ⟨w.heap.size, 4, none⟩ = some (.int .i64 c) ∧ w'.cell? ⟨w.heap.size, 5, none⟩ = some (.int .i64 i) ∧ w'.cell? ⟨w.heap.size, 6, none⟩ = some (.bool u)) (by kernel_rfl) ?_ (fun hHeld => ?_)
  · exact (HX1.out.kept hK0.drew).cells
  refine wpAnyH_take (i := 0) (oi := { dst := some 29, op := Op.build 53 #[(0, Operand.const (Value.int IntKind.i64 30)), (1, Operand.const (Value.int IntKind.i64 2)), (2, Operand.const (Value.int IntKind.i64 0))], type := 53, pos := "isa.go:110", after := #[], guard := none }) (v := ?_) rfl (by kernel_rfl) (by kernel_rfl) (by kernel_rfl) (fun _ _ _ h => h) (Or.inl ⟨rfl, ?_⟩) hHeld ?_
  rotate_left
  · (intro w hSw; (try dsimp only at hSw); go_simp; try with_reducible rfl)
  try simp only [Act.put, List.setIfInBounds_toArray, List.set_cons_zero, List.set_cons_succ]
  refine wpAnyH_take (i := 1) (oi := { dst := some 30, op := Op.build 53 #[(0, Operand.const (Value.int IntKind.i64 29)), (1, Operand.const (Value.int IntKind.i64 1)), (2, Operand.const (Value.int IntKind.i64 1))], type := 53, pos := "isa.go:110", after := #[], guard := none }) (v := ?_) rfl (by kernel_rfl) (by kernel_rfl) (by kernel_rfl) (fun _ _ _ h => h) (Or.inl ⟨rfl, ?_⟩) hHeld ?_
  rotate_left
  · (intro w hSw; (try dsimp only at hSw); go_simp; try with_reducible rfl)
  try simp only [Act.put, List.setIfInBounds_toArray, List.set_cons_zero, List.set_cons_succ]
  refine wpAnyH_take (i := 2) (oi := { dst := some 31, op := Op.fieldAddr 23 (Operand.tmp 1) 0, type := 0, pos := "isa.go:110", after := #[], guard := none }) (v := ?_) rfl (by kernel_rfl) (by kernel_rfl) (by kernel_rfl) (fun _ _ _ h => h) (Or.inl ⟨rfl, ?_⟩) hHeld ?_
  rotate_left
  · (intro w hSw; (try dsimp only at hSw); go_simp; try with_reducible rfl)
  try simp only [Act.put, List.setIfInBounds_toArray, List.set_cons_zero, List.set_cons_succ]
  refine wpAnyH_take (i := 3) (oi := { dst := some 32, op := Op.load 3 (Operand.tmp 31), type := 3, pos := "isa.go:110", after := #[{ on := 2, ground := Ground.data }], guard := none }) (v := ?_) rfl (by kernel_rfl) (by kernel_rfl) (by kernel_rfl) (fun _ _ _ h => h) (Or.inl ⟨rfl, ?_⟩) hHeld ?_
  rotate_left
  · (intro w hSw; (try dsimp only at hSw); go_simp; try with_reducible rfl)
  try simp only [Act.put, List.setIfInBounds_toArray, List.set_cons_zero, List.set_cons_succ]
  refine wpAnyH_take (i := 4) (oi := { dst := some 33, op := Op.binOp BinOp.eql 3 (Operand.tmp 32) (Operand.const (Value.int IntKind.i64 4)) 3, type := 4, pos := "isa.go:110", after := #[{ on := 3, ground := Ground.data }], guard := none }) (v := ?_) rfl (by kernel_rfl) (by kernel_rfl) (by kernel_rfl) (fun _ _ _ h => h) (Or.inl ⟨rfl, ?_⟩) hHeld ?_
  rotate_left
  · (intro w hSw; (try dsimp only at hSw); go_simp; try with_reducible rfl)
  try simp only [Act.put, List.setIfInBounds_toArray, List.set_cons_zero, List.set_cons_succ]
  refine wpAnyH_take (i := 7) (oi := { dst := some 36, op := Op.fieldAddr 23 (Operand.tmp 1) 2, type := 0, pos := "isa.go:110", after := #[], guard := none }) (v := ?_) rfl (by kernel_rfl) (by kernel_rfl) (by kernel_rfl) (fun _ _ _ h => h) (Or.inl ⟨rfl, ?_⟩) hHeld ?_
  rotate_left
  · (intro w hSw; (try dsimp only at hSw); go_simp; try with_reducible rfl)
  try simp only [Act.put, List.setIfInBounds_toArray, List.set_cons_zero, List.set_cons_succ]
  refine wpAnyH_take (i := 8) (oi := { dst := some 37, op := Op.load 3 (Operand.tmp 36), type := 3, pos := "isa.go:110", after := #[{ on := 7, ground := Ground.data }], guard := none }) (v := ?_) rfl (by kernel_rfl) (by kernel_rfl) (by kernel_rfl) (fun _ _ _ h => h) (Or.inl ⟨rfl, ?_⟩) hHeld ?_
  rotate_left
  · (intro w hSw; (try dsimp only at hSw); go_simp; try with_reducible rfl)
  try simp only [Act.put, List.setIfInBounds_toArray, List.set_cons_zero, List.set_cons_succ]
  refine wpAnyH_take (i := 9) (oi := { dst := some 38, op := Op.build 53 #[(0, Operand.const (Value.int IntKind.i64 24)), (1, Operand.const (Value.int IntKind.i64 4)), (2, Operand.tmp 37)], type := 53, pos := "isa.go:110", after := #[{ on := 8, ground := Ground.data }], guard := none }) (v := ?_) rfl (by kernel_rfl) (by kernel_rfl) (by kernel_rfl) (fun _ _ _ h => h) (Or.inl ⟨rfl, ?_⟩) hHeld ?_
  rotate_left
  · (intro w hSw; (try dsimp only at hSw); go_simp; try with_reducible rfl)
  try simp only [Act.put, List.setIfInBounds_toArray, List.set_cons_zero, List.set_cons_succ]
  refine wpAnyH_ready (rs := [5]) (by kernel_rfl) (by simp) ?_
  refine AllReadyH.cons (o := { dst := some 34, op := Op.call { callee := Callee.value (Operand.func 35), args := #[Operand.tmp 33], argTypes := #[4] }, type := 3, pos := "isa.go:110", after := #[{ on := 4, ground := Ground.data }], guard := none }) rfl (fun K hK => ?_) AllReadyH.nil
  go_simp
  go_at_call 35
  refine (bit_any _ _).mono ?_
  rintro e w6 ⟨rfl, rfl⟩
  clear hHeld
  refine hK.out _ _ ?_ (fun hHeld => ?_)
  · exact (HX1.out.kept hK0.drew).cells
  clear hK K
  try simp only [Act.put, List.setIfInBounds_toArray, List.set_cons_zero, List.set_cons_succ]
  refine wpAnyH_take (i := 6) (oi := { dst := some 35, op := Op.build 53 #[(0, Operand.const (Value.int IntKind.i64 28)), (1, Operand.const (Value.int IntKind.i64 1)), (2, Operand.tmp 34)], type := 53, pos := "isa.go:110", after := #[{ on := 5, ground := Ground.data }], guard := none }) (v := ?_) rfl (by kernel_rfl) (by kernel_rfl) (by kernel_rfl) (fun _ _ _ h => h) (Or.inl ⟨rfl, ?_⟩) hHeld ?_
  rotate_left
  · (intro w hSw; (try dsimp only at hSw); go_simp; try with_reducible rfl)
  try simp only [Act.put, List.setIfInBounds_toArray, List.set_cons_zero, List.set_cons_succ]
  refine wpAnyH_ready (rs := [10]) (by kernel_rfl) (by simp) ?_
  refine AllReadyH.cons (o := { dst := some 39, op := Op.buildSlice 59 4 #[(0, Operand.tmp 29), (1, Operand.tmp 30), (2, Operand.tmp 35), (3, Operand.tmp 38)], type := 59, pos := "isa.go:110", after := #[{ on := 0, ground := Ground.data }, { on := 1, ground := Ground.data }, { on := 6, ground := Ground.data }, { on := 9, ground := Ground.data }], guard := none }) rfl (fun K hK => ?_) AllReadyH.nil
  go_simp
  clear hHeld
  refine hK.out _ _ ?_ (fun hHeld => ?_)
  · exact (HX1.out.kept HBB.out).cells
  clear hK K
  try simp only [Act.put, List.setIfInBounds_toArray, List.set_cons_zero, List.set_cons_succ]
  refine wpAnyH_ready (rs := [11]) (by kernel_rfl) (by simp) ?_
  refine AllReadyH.cons (o := { dst := some 40, op := Op.call { callee := Callee.value (Operand.func 34), args := #[Operand.tmp 39], argTypes := #[59] }, type := 24, pos := "isa.go:110", after := #[{ on := 10, ground := Ground.data }, { on := 5, ground := Ground.chain }], guard := none }) rfl (fun K hK => ?_) AllReadyH.nil
  go_simp
  go_at_call 34
  refine (joined_4 op a b c i u _ _ HW.out r HR.out).mono ?_
  rintro e w7 ⟨rfl, hK5⟩
  clear hHeld
  refine hK.out _ _ ?_ (fun hHeld => ?_)
  · exact ((HX1.out.kept HBB.out).kept hK5).cells
  clear hK K
  try simp only [Act.put, List.setIfInBounds_toArray, List.set_cons_zero, List.set_cons_succ]
  refine wpAnyH_take (i := 12) (oi := { dst := some 2, op := Op.assign (Operand.tmp 40), type := 24, pos := "isa.go:110", after := #[{ on := 11, ground := Ground.data }, { on := 11, ground := Ground.chain }, { on := 0, ground := Ground.phase }, { on := 1, ground := Ground.phase }, { on := 2, ground := Ground.phase }, { on := 3, ground := Ground.phase }, { on := 4, ground := Ground.phase }, { on := 5, ground := Ground.phase }, { on := 6, ground := Ground.phase }, { on := 7, ground := Ground.phase }, { on := 8, ground := Ground.phase }, { on := 9, ground := Ground.phase }, { on := 10, ground := Ground.phase }, { on := 11, ground := Ground.phase }], guard := none }) (v := ?_) rfl (by kernel_rfl) (by kernel_rfl) (by kernel_rfl) (fun _ _ _ h => h) (Or.inl ⟨rfl, ?_⟩) hHeld ?_
  rotate_left
  · (intro w hSw; (try dsimp only at hSw); go_simp; try with_reducible rfl)
  try simp only [Act.put, List.setIfInBounds_toArray, List.set_cons_zero, List.set_cons_succ]
  refine wpAnyH_done (by kernel_rfl) ?_ _
  go_wp2_with fail
  go_ret
  exact ⟨rfl, (HB.out.trans HBB.out).trans hK5⟩
set_option maxHeartbeats 2000000 in
theorem wordOf_5 (op a b c i r : Int) (u : Bool) (HR : Hid (I.join (fun j => ([30, 28, 24, 20, 0] : List Int).getD j 0) (fun j => ([2, 2, 4, 4, 20] : List Int).getD j 0) (fun j => ([2, op, a, b, i] : List Int).getD j 0) 5 = r)) (w : World) :
    Calls Try.prog 21 #[.agg #[.int .i64 5, .int .i64 op, .int .i64 a, .int .i64 b, .int .i64 c, .int .i64 i, .bool u]] w fun e w' => e = .returned (.int .u32 r) ∧ Kept w w' := by
  have HW := Lib.hid (show ((w.alloc (.cells #[.int .i64 5, .int .i64 op, .int .i64 a, .int .i64 b, .int .i64 c, .int .i64 i, .bool u] 23)).alloc (.cells #[.int .i64 (30), .int .i64 (2), .int .i64 (2), .int .i64 (28), .int .i64 (2), .int .i64 (op), .int .i64 (24), .int .i64 (4), .int .i64 (a), .int .i64 (20), .int .i64 (4), .int .i64 (b), .int .i64 (0), .int .i64 (20), .int .i64 (i)] 53)).heap[w.heap.size + 1]? = some _ from size_alloc1 w (.cells #[.int .i64 5, .int .i64 op, .int .i64 a, .int .i64 b, .int .i64 c, .int .i64 i, .bool u] 23) ▸ heap_alloc_last _ _)
  have HB := Lib.hid (show Kept w ((w.alloc (.cells #[.int .i64 5, .int .i64 op, .int .i64 a, .int .i64 b, .int .i64 c, .int .i64 i, .bool u] 23)).alloc (.cells #[.int .i64 (30), .int .i64 (2), .int .i64 (2), .int .i64 (28), .int .i64 (2), .int .i64 (op), .int .i64 (24), .int .i64 (4), .int .i64 (a), .int .i64 (20), .int .i64 (4), .int .i64 (b), .int .i64 (0), .int .i64 (20), .int .i64 (i)] 53)) from ((Kept.refl w).alloc _ _).alloc _ _)
  go_enter Try.func21, Try.ntmps21
  go_wp2_with fail
  refine (joined_5 op a b c i u _ _ HW.out r HR.out).mono ?_
  rintro e w7 ⟨rfl, hK5⟩
  go_wp2_with fail
  go_ret
  exact ⟨rfl, HB.out.trans hK5⟩
set_option maxHeartbeats 2000000 in
theorem wordOf_6 (op a b c i r : Int) (u : Bool) (HR : Hid (I.join (fun j => ([30, 28, 24, 0] : List Int).getD j 0) (fun j => ([2, 1, 4, 4] : List Int).getD j 0) (fun j => ([3, I.bit u, op, c] : List Int).getD j 0) 4 = r)) (w : World) :
    Calls Try.prog 21 #[.agg #[.int .i64 6, .int .i64 op, .int .i64 a, .int .i64 b, .int .i64 c, .int .i64 i, .bool u]] w fun e w' => e = .returned (.int .u32 r) ∧ Kept w w' := by
  have hK0 := Kept.refl (w.alloc (.cells #[.int .i64 6, .int .i64 op, .int .i64 a, .int .i64 b, .int .i64 c, .int .i64 i, .bool u] 23))
  have X1 := Box.new 6 op a b c i u w
  have hB := show Kept w (w.alloc (.cells #[.int .i64 6, .int .i64 op, .int .i64 a, .int .i64 b, .int .i64 c, .int .i64 i, .bool u] 23)) from (Kept.refl w).alloc _ _
  go_enter Try.func21, Try.ntmps21
  go_wp2_with fail
  generalize (w.alloc (.cells #[.int .i64 6, .int .i64 op, .int .i64 a, .int .i64 b, .int .i64 c, .int .i64 i, .bool u] 23)) = wB at hK0 hB X1
  have HB := Lib.hid hB
  have HX1 := Lib.hid X1
  have HW := Lib.hid (show (wB.drew.alloc (.cells #[.int .i64 (30), .int .i64 (2), .int .i64 (3), .int .i64 (28), .int .i64 (1), .int .i64 (I.bit u), .int .i64 (24), .int .i64 (4), .int .i64 (op), .int .i64 (0), .int .i64 (4), .int .i64 (c)] 53)).heap[wB.heap.size]? = some _ from heap_alloc_last wB.drew _)
  have HBB := Lib.hid (show Kept wB (wB.drew.alloc (.cells #[.int .i64 (30), .int .i64 (2), .int .i64 (3), .int .i64 (28), .int .i64 (1), .int .i64 (I.bit u), .int .i64 (24), .int .i64 (4), .int .i64 (op), .int .i64 (0), .int .i64 (4), .int .i64 (c)] 53)) from ((Kept.refl wB).drew).alloc _ _)
  clear hB X1
  refine wp_region_held_drew (S := fun w' => w'.cell? ⟨w.heap.size, 0, none⟩ = some (.int .i64 6) ∧ w'.cell? ⟨w.heap.size, 1, none⟩ = some (.int .i64 op) ∧ w'.cell? ⟨w.heap.size, 2, none⟩ = some (.int .i64 a) ∧ w'.cell? ⟨w.heap.size, 3, none⟩ = some (.int .i64 b) ∧ w'.cell? ⟨w.heap.size, 4, none⟩ = some (.int .i64 c) ∧ w'.cell? ⟨w.heap.size, 5, none⟩ = some (.int .i64 i) ∧ w'.cell? ⟨w.heap.size, 6, none⟩ = some (.bool u)) (by kernel_rfl) ?_ (fun hHeld => ?_)
  · exact (HX1.out.kept hK0.drew).cells
  refine wpAnyH_take (i := 0) (oi := { dst := some 86, op := Op.build 53 #[(0, Operand.const (Value.int IntKind.i64 30)), (1, Operand.const (Value.int IntKind.i64 2)), (2, Operand.const (Value.int IntKind.i64 3))], type := 53, pos := "isa.go:117", after := #[], guard := none }) (v := ?_) rfl (by kernel_rfl) (by kernel_rfl) (by kernel_rfl) (fun _ _ _ h => h) (Or.inl ⟨rfl, ?_⟩) hHeld ?_
  rotate_left
  · (intro w hSw; (try dsimp only at hSw); go_simp; try with_reducible rfl)
  try simp only [Act.put, List.setIfInBounds_toArray, List.set_cons_zero, List.set_cons_succ]
  refine wpAnyH_take (i := 1) (oi := { dst := some 87, op := Op.fieldAddr 23 (Operand.tmp 1) 6, type := 0, pos := "isa.go:117", after := #[], guard := none }) (v := ?_) rfl (by kernel_rfl) (by kernel_rfl) (by kernel_rfl) (fun _ _ _ h => h) (Or.inl ⟨rfl, ?_⟩) hHeld ?_
  rotate_left
  · (intro w hSw; (try dsimp only at hSw); go_simp; try with_reducible rfl)
  try simp only [Act.put, List.setIfInBounds_toArray, List.set_cons_zero, List.set_cons_succ]
  refine wpAnyH_take (i := 2) (oi := { dst := some 88, op := Op.load 4 (Operand.tmp 87), type := 4, pos := "isa.go:117", after := #[{ on := 1, ground := Ground.data }], guard := none }) (v := ?_) rfl (by kernel_rfl) (by kernel_rfl) (by kernel_rfl) (fun _ _ _ h => h) (Or.inl ⟨rfl, ?_⟩) hHeld ?_
  rotate_left
  · (intro w hSw; (try dsimp only at hSw); go_simp; try with_reducible rfl)
  try simp only [Act.put, List.setIfInBounds_toArray, List.set_cons_zero, List.set_cons_succ]
  refine wpAnyH_take (i := 5) (oi := { dst := some 91, op := Op.fieldAddr 23 (Operand.tmp 1) 1, type := 0, pos := "isa.go:117", after := #[], guard := none }) (v := ?_) rfl (by kernel_rfl) (by kernel_rfl) (by kernel_rfl) (fun _ _ _ h => h) (Or.inl ⟨rfl, ?_⟩) hHeld ?_
  rotate_left
  · (intro w hSw; (try dsimp only at hSw); go_simp; try with_reducible rfl)
  try simp only [Act.put, List.setIfInBounds_toArray, List.set_cons_zero, List.set_cons_succ]
  refine wpAnyH_take (i := 6) (oi := { dst := some 92, op := Op.load 3 (Operand.tmp 91), type := 3, pos := "isa.go:117", after := #[{ on := 5, ground := Ground.data }], guard := none }) (v := ?_) rfl (by kernel_rfl) (by kernel_rfl) (by kernel_rfl) (fun _ _ _ h => h) (Or.inl ⟨rfl, ?_⟩) hHeld ?_
  rotate_left
  · (intro w hSw; (try dsimp only at hSw); go_simp; try with_reducible rfl)
  try simp only [Act.put, List.setIfInBounds_toArray, List.set_cons_zero, List.set_cons_succ]
  refine wpAnyH_take (i := 7) (oi := { dst := some 93, op := Op.build 53 #[(0, Operand.const (Value.int IntKind.i64 24)), (1, Operand.const (Value.int IntKind.i64 4)), (2, Operand.tmp 92)], type := 53, pos := "isa.go:117", after := #[{ on := 6, ground := Ground.data }], guard := none }) (v := ?_) rfl (by kernel_rfl) (by kernel_rfl) (by kernel_rfl) (fun _ _ _ h => h) (Or.inl ⟨rfl, ?_⟩) hHeld ?_
  rotate_left
  · (intro w hSw; (try dsimp only at hSw); go_simp; try with_reducible rfl)
  try simp only [Act.put, List.setIfInBounds_toArray, List.set_cons_zero, List.set_cons_succ]
  refine wpAnyH_take (i := 8) (oi := { dst := some 94, op := Op.fieldAddr 23 (Operand.tmp 1) 4, type := 0, pos := "isa.go:117", after := #[], guard := none }) (v := ?_) rfl (by kernel_rfl) (by kernel_rfl) (by kernel_rfl) (fun _ _ _ h => h) (Or.inl ⟨rfl, ?_⟩) hHeld ?_
  rotate_left
  · (intro w hSw; (try dsimp only at hSw); go_simp; try with_reducible rfl)
  try simp only [Act.put, List.setIfInBounds_toArray, List.set_cons_zero, List.set_cons_succ]
  refine wpAnyH_take (i := 9) (oi := { dst := some 95, op := Op.load 3 (Operand.tmp 94), type := 3, pos := "isa.go:117", after := #[{ on := 8, ground := Ground.data }], guard := none }) (v := ?_) rfl (by kernel_rfl) (by kernel_rfl) (by kernel_rfl) (fun _ _ _ h => h) (Or.inl ⟨rfl, ?_⟩) hHeld ?_
  rotate_left
  · (intro w hSw; (try dsimp only at hSw); go_simp; try with_reducible rfl)
  try simp only [Act.put, List.setIfInBounds_toArray, List.set_cons_zero, List.set_cons_succ]
  refine wpAnyH_take (i := 10) (oi := { dst := some 96, op := Op.build 53 #[(0, Operand.const (Value.int IntKind.i64 0)), (1, Operand.const (Value.int IntKind.i64 4)), (2, Operand.tmp 95)], type := 53, pos := "isa.go:117", after := #[{ on := 9, ground := Ground.data }], guard := none }) (v := ?_) rfl (by kernel_rfl) (by kernel_rfl) (by kernel_rfl) (fun _ _ _ h => h) (Or.inl ⟨rfl, ?_⟩) hHeld ?_
  rotate_left
  · (intro w hSw; (try dsimp only at hSw); go_simp; try with_reducible rfl)
  try simp only [Act.put, List.setIfInBounds_toArray, List.set_cons_zero, List.set_cons_succ]
  refine wpAnyH_ready (rs := [3]) (by kernel_rfl) (by simp) ?_
  refine AllReadyH.cons (o := { dst := some 89, op := Op.call { callee := Callee.value (Operand.func 35), args := #[Operand.tmp 88], argTypes := #[4] }, type := 3, pos := "isa.go:117", after := #[{ on := 2, ground := Ground.data }], guard := none }) rfl (fun K hK => ?_) AllReadyH.nil
  go_simp
  go_at_call 35
  refine (bit_any _ _).mono ?_
  rintro e w6 ⟨rfl, rfl⟩
  clear hHeld
  refine hK.out _ _ ?_ (fun hHeld => ?_)
  · exact (HX1.out.kept hK0.drew).cells
  clear hK K
  try simp only [Act.put, List.setIfInBounds_toArray, List.set_cons_zero, List.set_cons_succ]
  refine wpAnyH_take (i := 4) (oi := { dst := some 90, op := Op.build 53 #[(0, Operand.const (Value.int IntKind.i64 28)), (1, Operand.const (Value.int IntKind.i64 1)), (2, Operand.tmp 89)], type := 53, pos := "isa.go:117", after := #[{ on := 3, ground := Ground.data }], guard := none }) (v := ?_) rfl (by kernel_rfl) (by kernel_rfl) (by kernel_rfl) (fun _ _ _ h => h) (Or.inl ⟨rfl, ?_⟩) hHeld ?_
  rotate_left
  · (intro w hSw; (try dsimp only at hSw); go_simp; try with_reducible rfl)
  try simp only [Act.put, List.setIfInBounds_toArray, List.set_cons_zero, List.set_cons_succ]
  refine wpAnyH_ready (rs := [11]) (by kernel_rfl) (by simp) ?_
  refine AllReadyH.cons (o := { dst := some 97, op := Op.buildSlice 59 4 #[(0, Operand.tmp 86), (1, Operand.tmp 90), (2, Operand.tmp 93), (3, Operand.tmp 96)], type := 59, pos := "isa.go:117", after := #[{ on := 0, ground := Ground.data }, { on := 4, ground := Ground.data }, { on := 7, ground := Ground.data }, { on := 10, ground := Ground.data }], guard := none }) rfl (fun K hK => ?_) AllReadyH.nil
  go_simp
  clear hHeld
  refine hK.out _ _ ?_ (fun hHeld => ?_)
  · exact (HX1.out.kept HBB.out).cells
  clear hK K
  try simp only [Act.put, List.setIfInBounds_toArray, List.set_cons_zero, List.set_cons_succ]
  refine wpAnyH_ready (rs := [12]) (by kernel_rfl) (by simp) ?_
  refine AllReadyH.cons (o := { dst := some 98, op := Op.call { callee := Callee.value (Operand.func 34), args := #[Operand.tmp 97], argTypes := #[59] }, type := 24, pos := "isa.go:117", after := #[{ on := 11, ground := Ground.data }, { on := 3, ground := Ground.chain }], guard := none }) rfl (fun K hK => ?_) AllReadyH.nil
  go_simp
  go_at_call 34
  refine (joined_6 op a b c i u _ _ HW.out r HR.out).mono ?_
  rintro e w7 ⟨rfl, hK5⟩
  clear hHeld
  refine hK.out _ _ ?_ (fun hHeld => ?_)
  · exact ((HX1.out.kept HBB.out).kept hK5).cells
  clear hK K
  try simp only [Act.put, List.setIfInBounds_toArray, List.set_cons_zero, List.set_cons_succ]
  refine wpAnyH_take (i := 13) (oi := { dst := some 2, op := Op.assign (Operand.tmp 98), type := 24, pos := "isa.go:117", after := #[{ on := 12, ground := Ground.data }, { on := 12, ground := Ground.chain }, { on := 0, ground := Ground.phase }, { on := 1, ground := Ground.phase }, { on := 2, ground := Ground.phase }, { on := 3, ground := Ground.phase }, { on := 4, ground := Ground.phase }, { on := 5, ground := Ground.phase }, { on := 6, ground := Ground.phase }, { on := 7, ground := Ground.phase }, { on := 8, ground := Ground.phase }, { on := 9, ground := Ground.phase }, { on := 10, ground := Ground.phase }, { on := 11, ground := Ground.phase }, { on := 12, ground := Ground.phase }], guard := none }) (v := ?_) rfl (by kernel_rfl) (by kernel_rfl) (by kernel_rfl) (fun _ _ _ h => h) (Or.inl ⟨rfl, ?_⟩) hHeld ?_
  rotate_left
  · (intro w hSw; (try dsimp only at hSw); go_simp; try with_reducible rfl)
  try simp only [Act.put, List.setIfInBounds_toArray, List.set_cons_zero, List.set_cons_succ]
  refine wpAnyH_done (by kernel_rfl) ?_ _
  go_wp2_with fail
  go_ret
  exact ⟨rfl, (HB.out.trans HBB.out).trans hK5⟩
set_option maxHeartbeats 2000000 in
theorem wordOf_7 (op a b c i r : Int) (u : Bool) (HR : Hid (I.join (fun j => ([30, 29, 28, 24, 0] : List Int).getD j 0) (fun j => ([2, 1, 1, 4, 24] : List Int).getD j 0) (fun j => ([3, 1, I.bit u, op, i] : List Int).getD j 0) 5 = r)) (w : World) :
    Calls Try.prog 21 #[.agg #[.int .i64 7, .int .i64 op, .int .i64 a, .int .i64 b, .int .i64 c, .int .i64 i, .bool u]] w fun e w' => e = .returned (.int .u32 r) ∧ Kept w w' := by
  have hK0 := Kept.refl (w.alloc (.cells #[.int .i64 7, .int .i64 op, .int .i64 a, .int .i64 b, .int .i64 c, .int .i64 i, .bool u] 23))
  have X1 := Box.new 7 op a b c i u w
  have hB := show Kept w (w.alloc (.cells #[.int .i64 7, .int .i64 op, .int .i64 a, .int .i64 b, .int .i64 c, .int .i64 i, .bool u] 23)) from (Kept.refl w).alloc _ _
  go_enter Try.func21, Try.ntmps21
  go_wp2_with fail
  generalize (w.alloc (.cells #[.int .i64 7, .int .i64 op, .int .i64 a, .int .i64 b, .int .i64 c, .int .i64 i, .bool u] 23)) = wB at hK0 hB X1
  have HB := Lib.hid hB
  have HX1 := Lib.hid X1
  have HW := Lib.hid (show (wB.drew.alloc (.cells #[.int .i64 (30), .int .i64 (2), .int .i64 (3), .int .i64 (29), .int .i64 (1), .int .i64 (1), .int .i64 (28), .int .i64 (1), .int .i64 (I.bit u), .int .i64 (24), .int .i64 (4), .int .i64 (op), .int .i64 (0), .int .i64 (24), .int .i64 (i)] 53)).heap[wB.heap.size]? = some _ from heap_alloc_last wB.drew _)
  have HBB := Lib.hid (show Kept wB (wB.drew.alloc (.cells #[.int .i64 (30), .int .i64 (2), .int .i64 (3), .int .i64 (29), .int .i64 (1), .int .i64 (1), .int .i64 (28), .int .i64 (1), .int .i64 (I.bit u), .int .i64 (24), .int .i64 (4), .int .i64 (op), .int .i64 (0), .int .i64 (24), .int .i64 (i)] 53)) from ((Kept.refl wB).drew).alloc _ _)
  clear hB X1
  refine wp_region_held_drew (S := fun w' => w'.cell? ⟨w.heap.size, 0, none⟩ = some (.int .i64 7) ∧ w'.cell? ⟨w.heap.size, 1, none⟩ = some (.int .i64 op) ∧ w'.cell? ⟨w.heap.size, 2, none⟩ = some (.int .i64 a) ∧ w'.cell? ⟨w.heap.size, 3, none⟩ = some (.int .i64 b) ∧ w'.cell? ⟨w.heap.size, 4, none⟩ = some (.int .i64 c) ∧ w'.cell? ⟨w.heap.size, 5, none⟩ = some (.int .i64 i) ∧ w'.cell? ⟨w.heap.size, 6, none⟩ = some (.bool u)) (by kernel_rfl) ?_ (fun hHeld => ?_)
  · exact (HX1.out.kept hK0.drew).cells
  refine wpAnyH_take (i := 0) (oi := { dst := some 99, op := Op.build 53 #[(0, Operand.const (Value.int IntKind.i64 30)), (1, Operand.const (Value.int IntKind.i64 2)), (2, Operand.const (Value.int IntKind.i64 3))], type := 53, pos := "isa.go:119", after := #[], guard := none }) (v := ?_) rfl (by kernel_rfl) (by kernel_rfl) (by kernel_rfl) (fun _ _ _ h => h) (Or.inl ⟨rfl, ?_⟩) hHeld ?_
  rotate_left
  · (intro w hSw; (try dsimp only at hSw); go_simp; try with_reducible rfl)
  try simp only [Act.put, List.setIfInBounds_toArray, List.set_cons_zero, List.set_cons_succ]
  refine wpAnyH_take (i := 1) (oi := { dst := some 100, op := Op.build 53 #[(0, Operand.const (Value.int IntKind.i64 29)), (1, Operand.const (Value.int IntKind.i64 1)), (2, Operand.const (Value.int IntKind.i64 1))], type := 53, pos := "isa.go:119", after := #[], guard := none }) (v := ?_) rfl (by kernel_rfl) (by kernel_rfl) (by kernel_rfl) (fun _ _ _ h => h) (Or.inl ⟨rfl, ?_⟩) hHeld ?_
  rotate_left
  · (intro w hSw; (try dsimp only at hSw); go_simp; try with_reducible rfl)
  try simp only [Act.put, List.setIfInBounds_toArray, List.set_cons_zero, List.set_cons_succ]
  refine wpAnyH_take (i := 2) (oi := { dst := some 101, op := Op.fieldAddr 23 (Operand.tmp 1) 6, type := 0, pos := "isa.go:119", after := #[], guard := none }) (v := ?_) rfl (by kernel_rfl) (by kernel_rfl) (by kernel_rfl) (fun _ _ _ h => h) (Or.inl ⟨rfl, ?_⟩) hHeld ?_
  rotate_left
  · (intro w hSw; (try dsimp only at hSw); go_simp; try with_reducible rfl)
  try simp only [Act.put, List.setIfInBounds_toArray, List.set_cons_zero, List.set_cons_succ]
  refine wpAnyH_take (i := 3) (oi := { dst := some 102, op := Op.load 4 (Operand.tmp 101), type := 4, pos := "isa.go:119", after := #[{ on := 2, ground := Ground.data }], guard := none }) (v := ?_) rfl (by kernel_rfl) (by kernel_rfl) (by kernel_rfl) (fun _ _ _ h => h) (Or.inl ⟨rfl, ?_⟩) hHeld ?_
  rotate_left
  · (intro w hSw; (try dsimp only at hSw); go_simp; try with_reducible rfl)
  try simp only [Act.put, List.setIfInBounds_toArray, List.set_cons_zero, List.set_cons_succ]
  refine wpAnyH_take (i := 6) (oi := { dst := some 105, op := Op.fieldAddr 23 (Operand.tmp 1) 1, type := 0, pos := "isa.go:119", after := #[], guard := none }) (v := ?_) rfl (by kernel_rfl) (by kernel_rfl) (by kernel_rfl) (fun _ _ _ h => h) (Or.inl ⟨rfl, ?_⟩) hHeld ?_
  rotate_left
  · (intro w hSw; (try dsimp only at hSw); go_simp; try with_reducible rfl)
  try simp only [Act.put, List.setIfInBounds_toArray, List.set_cons_zero, List.set_cons_succ]
  refine wpAnyH_take (i := 7) (oi := { dst := some 106, op := Op.load 3 (Operand.tmp 105), type := 3, pos := "isa.go:119", after := #[{ on := 6, ground := Ground.data }], guard := none }) (v := ?_) rfl (by kernel_rfl) (by kernel_rfl) (by kernel_rfl) (fun _ _ _ h => h) (Or.inl ⟨rfl, ?_⟩) hHeld ?_
  rotate_left
  · (intro w hSw; (try dsimp only at hSw); go_simp; try with_reducible rfl)
  try simp only [Act.put, List.setIfInBounds_toArray, List.set_cons_zero, List.set_cons_succ]
  refine wpAnyH_take (i := 8) (oi := { dst := some 107, op := Op.build 53 #[(0, Operand.const (Value.int IntKind.i64 24)), (1, Operand.const (Value.int IntKind.i64 4)), (2, Operand.tmp 106)], type := 53, pos := "isa.go:119", after := #[{ on := 7, ground := Ground.data }], guard := none }) (v := ?_) rfl (by kernel_rfl) (by kernel_rfl) (by kernel_rfl) (fun _ _ _ h => h) (Or.inl ⟨rfl, ?_⟩) hHeld ?_
  rotate_left
  · (intro w hSw; (try dsimp only at hSw); go_simp; try with_reducible rfl)
  try simp only [Act.put, List.setIfInBounds_toArray, List.set_cons_zero, List.set_cons_succ]
  refine wpAnyH_take (i := 9) (oi := { dst := some 108, op := Op.fieldAddr 23 (Operand.tmp 1) 5, type := 0, pos := "isa.go:119", after := #[], guard := none }) (v := ?_) rfl (by kernel_rfl) (by kernel_rfl) (by kernel_rfl) (fun _ _ _ h => h) (Or.inl ⟨rfl, ?_⟩) hHeld ?_
  rotate_left
  · (intro w hSw; (try dsimp only at hSw); go_simp; try with_reducible rfl)
  try simp only [Act.put, List.setIfInBounds_toArray, List.set_cons_zero, List.set_cons_succ]
  refine wpAnyH_take (i := 10) (oi := { dst := some 109, op := Op.load 3 (Operand.tmp 108), type := 3, pos := "isa.go:119", after := #[{ on := 9, ground := Ground.data }], guard := none }) (v := ?_) rfl (by kernel_rfl) (by kernel_rfl) (by kernel_rfl) (fun _ _ _ h => h) (Or.inl ⟨rfl, ?_⟩) hHeld ?_
  rotate_left
  · (intro w hSw; (try dsimp only at hSw); go_simp; try with_reducible rfl)
  try simp only [Act.put, List.setIfInBounds_toArray, List.set_cons_zero, List.set_cons_succ]
  refine wpAnyH_take (i := 11) (oi := { dst := some 110, op := Op.build 53 #[(0, Operand.const (Value.int IntKind.i64 0)), (1, Operand.const (Value.int IntKind.i64 24)), (2, Operand.tmp 109)], type := 53, pos := "isa.go:119", after := #[{ on := 10, ground := Ground.data }], guard := none }) (v := ?_) rfl (by kernel_rfl) (by kernel_rfl) (by kernel_rfl) (fun _ _ _ h => h) (Or.inl ⟨rfl, ?_⟩) hHeld ?_
  rotate_left
  · (intro w hSw; (try dsimp only at hSw); go_simp; try with_reducible rfl)
  try simp only [Act.put, List.setIfInBounds_toArray, List.set_cons_zero, List.set_cons_succ]
  refine wpAnyH_ready (rs := [4]) (by kernel_rfl) (by simp) ?_
  refine AllReadyH.cons (o := { dst := some 103, op := Op.call { callee := Callee.value (Operand.func 35), args := #[Operand.tmp 102], argTypes := #[4] }, type := 3, pos := "isa.go:119", after := #[{ on := 3, ground := Ground.data }], guard := none }) rfl (fun K hK => ?_) AllReadyH.nil
  go_simp
  go_at_call 35
  refine (bit_any _ _).mono ?_
  rintro e w6 ⟨rfl, rfl⟩
  clear hHeld
  refine hK.out _ _ ?_ (fun hHeld => ?_)
  · exact (HX1.out.kept hK0.drew).cells
  clear hK K
  try simp only [Act.put, List.setIfInBounds_toArray, List.set_cons_zero, List.set_cons_succ]
  refine wpAnyH_take (i := 5) (oi := { dst := some 104, op := Op.build 53 #[(0, Operand.const (Value.int IntKind.i64 28)), (1, Operand.const (Value.int IntKind.i64 1)), (2, Operand.tmp 103)], type := 53, pos := "isa.go:119", after := #[{ on := 4, ground := Ground.data }], guard := none }) (v := ?_) rfl (by kernel_rfl) (by kernel_rfl) (by kernel_rfl) (fun _ _ _ h => h) (Or.inl ⟨rfl, ?_⟩) hHeld ?_
  rotate_left
  · (intro w hSw; (try dsimp only at hSw); go_simp; try with_reducible rfl)
  try simp only [Act.put, List.setIfInBounds_toArray, List.set_cons_zero, List.set_cons_succ]
  refine wpAnyH_ready (rs := [12]) (by kernel_rfl) (by simp) ?_
  refine AllReadyH.cons (o := { dst := some 111, op := Op.buildSlice 59 5 #[(0, Operand.tmp 99), (1, Operand.tmp 100), (2, Operand.tmp 104), (3, Operand.tmp 107), (4, Operand.tmp 110)], type := 59, pos := "isa.go:119", after := #[{ on := 0, ground := Ground.data }, { on := 1, ground := Ground.data }, { on := 5, ground := Ground.data }, { on := 8, ground := Ground.data }, { on := 11, ground := Ground.data }], guard := none }) rfl (fun K hK => ?_) AllReadyH.nil
  go_simp
  clear hHeld
  refine hK.out _ _ ?_ (fun hHeld => ?_)
  · exact (HX1.out.kept HBB.out).cells
  clear hK K
  try simp only [Act.put, List.setIfInBounds_toArray, List.set_cons_zero, List.set_cons_succ]
  refine wpAnyH_ready (rs := [13]) (by kernel_rfl) (by simp) ?_
  refine AllReadyH.cons (o := { dst := some 112, op := Op.call { callee := Callee.value (Operand.func 34), args := #[Operand.tmp 111], argTypes := #[59] }, type := 24, pos := "isa.go:119", after := #[{ on := 12, ground := Ground.data }, { on := 4, ground := Ground.chain }], guard := none }) rfl (fun K hK => ?_) AllReadyH.nil
  go_simp
  go_at_call 34
  refine (joined_7 op a b c i u _ _ HW.out r HR.out).mono ?_
  rintro e w7 ⟨rfl, hK5⟩
  clear hHeld
  refine hK.out _ _ ?_ (fun hHeld => ?_)
  · exact ((HX1.out.kept HBB.out).kept hK5).cells
  clear hK K
  try simp only [Act.put, List.setIfInBounds_toArray, List.set_cons_zero, List.set_cons_succ]
  refine wpAnyH_take (i := 14) (oi := { dst := some 2, op := Op.assign (Operand.tmp 112), type := 24, pos := "isa.go:119", after := #[{ on := 13, ground := Ground.data }, { on := 13, ground := Ground.chain }, { on := 0, ground := Ground.phase }, { on := 1, ground := Ground.phase }, { on := 2, ground := Ground.phase }, { on := 3, ground := Ground.phase }, { on := 4, ground := Ground.phase }, { on := 5, ground := Ground.phase }, { on := 6, ground := Ground.phase }, { on := 7, ground := Ground.phase }, { on := 8, ground := Ground.phase }, { on := 9, ground := Ground.phase }, { on := 10, ground := Ground.phase }, { on := 11, ground := Ground.phase }, { on := 12, ground := Ground.phase }, { on := 13, ground := Ground.phase }], guard := none }) (v := ?_) rfl (by kernel_rfl) (by kernel_rfl) (by kernel_rfl) (fun _ _ _ h => h) (Or.inl ⟨rfl, ?_⟩) hHeld ?_
  rotate_left
  · (intro w hSw; (try dsimp only at hSw); go_simp; try with_reducible rfl)
  try simp only [Act.put, List.setIfInBounds_toArray, List.set_cons_zero, List.set_cons_succ]
  refine wpAnyH_done (by kernel_rfl) ?_ _
  go_wp2_with fail
  go_ret
  exact ⟨rfl, (HB.out.trans HBB.out).trans hK5⟩
theorem wordOf_any (k op a b c i : Int) (u : Bool) (h : I.May ⟨k, op, a, b, c, i, u⟩) (w : World) :
    Calls Try.prog 21 #[.agg #[.int .i64 k, .int .i64 op, .int .i64 a, .int .i64 b, .int .i64 c, .int .i64 i, .bool u]] w fun e w' => e = .returned (.int .u32 (I.word ⟨k, op, a, b, c, i, u⟩)) ∧ Kept w w' := by
  have hk : k = 1 ∨ k = 2 ∨ k = 3 ∨ k = 4 ∨ k = 5 ∨ k = 6 ∨ k = 7 := by unfold I.May at h; simp only at h; omega
  rcases hk with rfl | rfl | rfl | rfl | rfl | rfl | rfl
  · exact wordOf_1 op a b c i _ u (Lib.hid (sum_1 op a b c i u h)) w
  · exact wordOf_2 op a b c i _ u (Lib.hid (sum_2 op a b c i u h)) w
  · exact wordOf_3 op a b c i _ u (Lib.hid (sum_3 op a b c i u h)) w
  · exact wordOf_4 op a b c i _ u (Lib.hid (sum_4 op a b c i u h)) w
  · exact wordOf_5 op a b c i _ u (Lib.hid (sum_5 op a b c i u h)) w
  · exact wordOf_6 op a b c i _ u (Lib.hid (sum_6 op a b c i u h)) w
  · exact wordOf_7 op a b c i _ u (Lib.hid (sum_7 op a b c i u h)) w
end Go.Proofs.Ytliofphhoaopkaa
