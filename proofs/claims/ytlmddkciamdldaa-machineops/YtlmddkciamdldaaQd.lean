import Derived.ChangeKeysEq
import Derived.Deep.Cut
import Derived.Test.YtlmddkciamdldaaQc
/-
  Fields set one behind the other, from the highest on; and the lowest bits of a word in which a field is set. No Go text is named here.
-/
namespace Go.Proofs.Ytlmddkciamdldaa
set_option linter.unusedVariables false
set_option linter.unusedSimpArgs false
set_option maxRecDepth 100000
namespace F
theorem setmod (w x A K : Nat) (hw : w < 4294967296) (hk : A + K ≤ 32) : setP w x A K 32 % 2 ^ (A + K) = (x % 2 ^ K) * 2 ^ A + w % 2 ^ A := by
  rw [← nat_join A ((x % 2 ^ K) * 2 ^ A) (w % 2 ^ A) (Nat.mul_mod_left _ _) (Nat.mod_lt _ (Nat.two_pow_pos _))]
  apply Nat.eq_of_testBit_eq
  intro j
  rw [Nat.testBit_mod_two_pow, sbit w x A K j hw, Nat.testBit_or, Nat.testBit_mul_two_pow, Nat.testBit_mod_two_pow, Nat.testBit_mod_two_pow]
  by_cases h1 : j < A
  · simp [h1, show ¬ A ≤ j by omega, show j < A + K by omega]
  · by_cases h2 : j < A + K
    · simp [h1, h2, show A ≤ j by omega, show j < 32 by omega, show j - A < K by omega]
    · simp [h1, h2, show A ≤ j by omega, show ¬ j - A < K by omega]
theorem settop (y x A K : Nat) (hy : y < 4294967296) (hk : A + K ≤ 32) (hz : y % 2 ^ (A + K) = 0) : setP y x A K 32 = y + (x % 2 ^ K) * 2 ^ A := by
  have hm : (x % 2 ^ K) * 2 ^ A < 2 ^ (A + K) := by
    rw [Nat.pow_add, Nat.mul_comm (2 ^ A)]
    exact Nat.mul_lt_mul_of_pos_right (Nat.mod_lt _ (Nat.two_pow_pos _)) (Nat.two_pow_pos _)
  rw [← nat_join (A + K) y _ hz hm]
  apply Nat.eq_of_testBit_eq
  intro j
  have hyb : j < A + K → y.testBit j = false := fun h => by
    have := Nat.testBit_mod_two_pow y (A + K) j
    rw [hz] at this
    simpa [h] using this
  rw [sbit y x A K j hy, Nat.testBit_or, Nat.testBit_mul_two_pow, Nat.testBit_mod_two_pow]
  by_cases h1 : j < A
  · simp [h1, show ¬ A ≤ j by omega]
  · by_cases h2 : j < A + K
    · simp [h1, h2, hyb h2, show A ≤ j by omega, show j < 32 by omega, show j - A < K by omega]
    · simp [h1, h2, show A ≤ j by omega, show ¬ j - A < K by omega]
theorem set_top (y x i n D M : Int) (hy0 : 0 ≤ y) (hy1 : y < 4294967296) (hx0 : 0 ≤ x) (i0 : 0 ≤ i) (n0 : 0 ≤ n) (hk : i + n ≤ 32) (hD : (2 : Int) ^ i.toNat = D) (hM : (2 : Int) ^ n.toNat = M) (hz : y % (D * M) = 0) :
    F.set y i n x = y + x % M * D := by
  obtain ⟨Y, rfl⟩ := Int.eq_ofNat_of_zero_le hy0
  obtain ⟨X, rfl⟩ := Int.eq_ofNat_of_zero_le hx0
  obtain ⟨A, rfl⟩ := Int.eq_ofNat_of_zero_le i0
  obtain ⟨K, rfl⟩ := Int.eq_ofNat_of_zero_le n0
  rw [Int.toNat_natCast] at hD hM
  subst hD hM
  have h := settop Y X A K (by omega) (by omega) (by
    rw [← cast_pow, ← cast_pow, ← Int.natCast_mul, ← Int.natCast_emod, ← Nat.pow_add] at hz
    exact Int.ofNat_eq_zero.1 hz)
  unfold F.set
  rw [Int.toNat_natCast, Int.toNat_natCast, h, Int.natCast_add, Int.natCast_mul, Int.natCast_emod, cast_pow, cast_pow]
theorem set16 (x s : Int) (hx0 : 0 ≤ x) (hx1 : x < 4294967296) (s0 : 0 ≤ s) (s1 : s ≤ 1) : F.sgnd (F.set x 16 1 s) 17 = if s = 1 then x % 65536 - 65536 else x % 65536 := by
  obtain ⟨X, rfl⟩ := Int.eq_ofNat_of_zero_le hx0
  obtain ⟨S, rfl⟩ := Int.eq_ofNat_of_zero_le s0
  have h := setmod X S 16 1 (by omega) (by omega)
  have e : F.set X 16 1 S = (setP X S (16 : Nat) (1 : Nat) 32 : Nat) := by unfold F.set; rw [Int.toNat_natCast, Int.toNat_natCast]; rfl
  rw [e]
  generalize setP X S (16 : Nat) (1 : Nat) 32 = Q at *
  unfold F.sgnd
  simp only [Int.reduceToNat, Int.reducePow, Nat.reduceSub, Nat.reducePow, Nat.reduceAdd] at h ⊢
  split <;> split <;> omega
end F
namespace I
/-- the number of a word's field -/
theorem join6 (b0 b1 b2 b3 b4 b5 : Int) : F.set (F.set (F.set (F.set (F.set (F.set 0 30 2 (b0 % 4294967296)) 29 1 (b1 % 4294967296)) 24 4 (b2 % 4294967296)) 20 4 (b3 % 4294967296)) 16 4 (b4 % 4294967296)) 0 4 (b5 % 4294967296) =
    b0 % 4 * 1073741824 + b1 % 2 * 536870912 + b2 % 16 * 16777216 + b3 % 16 * 1048576 + b4 % 16 * 65536 + b5 % 16 := by
  rw [F.set_top 0 _ 30 2 1073741824 4 (by omega) (by omega) (by omega) (by omega) (by omega) (by omega) rfl rfl (by omega)]
  rw [F.set_top _ _ 29 1 536870912 2 (by omega) (by omega) (by omega) (by omega) (by omega) (by omega) rfl rfl (by omega)]
  rw [F.set_top _ _ 24 4 16777216 16 (by omega) (by omega) (by omega) (by omega) (by omega) (by omega) rfl rfl (by omega)]
  rw [F.set_top _ _ 20 4 1048576 16 (by omega) (by omega) (by omega) (by omega) (by omega) (by omega) rfl rfl (by omega)]
  rw [F.set_top _ _ 16 4 65536 16 (by omega) (by omega) (by omega) (by omega) (by omega) (by omega) rfl rfl (by omega)]
  rw [F.set_top _ _ 0 4 1 16 (by omega) (by omega) (by omega) (by omega) (by omega) (by omega) rfl rfl (by omega)]
  omega
theorem join7 (b0 b1 b2 b3 b4 b5 b6 : Int) : F.set (F.set (F.set (F.set (F.set (F.set (F.set 0 30 2 (b0 % 4294967296)) 29 1 (b1 % 4294967296)) 28 1 (b2 % 4294967296)) 24 4 (b3 % 4294967296)) 20 4 (b4 % 4294967296)) 16 4 (b5 % 4294967296)) 0 16 (b6 % 4294967296) =
    b0 % 4 * 1073741824 + b1 % 2 * 536870912 + b2 % 2 * 268435456 + b3 % 16 * 16777216 + b4 % 16 * 1048576 + b5 % 16 * 65536 + b6 % 65536 := by
  rw [F.set_top 0 _ 30 2 1073741824 4 (by omega) (by omega) (by omega) (by omega) (by omega) (by omega) rfl rfl (by omega)]
  rw [F.set_top _ _ 29 1 536870912 2 (by omega) (by omega) (by omega) (by omega) (by omega) (by omega) rfl rfl (by omega)]
  rw [F.set_top _ _ 28 1 268435456 2 (by omega) (by omega) (by omega) (by omega) (by omega) (by omega) rfl rfl (by omega)]
  rw [F.set_top _ _ 24 4 16777216 16 (by omega) (by omega) (by omega) (by omega) (by omega) (by omega) rfl rfl (by omega)]
  rw [F.set_top _ _ 20 4 1048576 16 (by omega) (by omega) (by omega) (by omega) (by omega) (by omega) rfl rfl (by omega)]
  rw [F.set_top _ _ 16 4 65536 16 (by omega) (by omega) (by omega) (by omega) (by omega) (by omega) rfl rfl (by omega)]
  rw [F.set_top _ _ 0 16 1 65536 (by omega) (by omega) (by omega) (by omega) (by omega) (by omega) rfl rfl (by omega)]
  omega
theorem join3 (b0 b1 b2 b3 : Int) : F.set (F.set (F.set (F.set 0 30 2 (b0 % 4294967296)) 29 1 (b1 % 4294967296)) 28 1 (b2 % 4294967296)) 24 4 (b3 % 4294967296) =
    b0 % 4 * 1073741824 + b1 % 2 * 536870912 + b2 % 2 * 268435456 + b3 % 16 * 16777216 := by
  rw [F.set_top 0 _ 30 2 1073741824 4 (by omega) (by omega) (by omega) (by omega) (by omega) (by omega) rfl rfl (by omega)]
  rw [F.set_top _ _ 29 1 536870912 2 (by omega) (by omega) (by omega) (by omega) (by omega) (by omega) rfl rfl (by omega)]
  rw [F.set_top _ _ 28 1 268435456 2 (by omega) (by omega) (by omega) (by omega) (by omega) (by omega) rfl rfl (by omega)]
  rw [F.set_top _ _ 24 4 16777216 16 (by omega) (by omega) (by omega) (by omega) (by omega) (by omega) rfl rfl (by omega)]
  omega
theorem join5 (b0 b1 b2 b3 b4 : Int) : F.set (F.set (F.set (F.set (F.set 0 30 2 (b0 % 4294967296)) 28 2 (b1 % 4294967296)) 24 4 (b2 % 4294967296)) 20 4 (b3 % 4294967296)) 0 20 (b4 % 4294967296) =
    b0 % 4 * 1073741824 + b1 % 4 * 268435456 + b2 % 16 * 16777216 + b3 % 16 * 1048576 + b4 % 1048576 := by
  rw [F.set_top 0 _ 30 2 1073741824 4 (by omega) (by omega) (by omega) (by omega) (by omega) (by omega) rfl rfl (by omega)]
  rw [F.set_top _ _ 28 2 268435456 4 (by omega) (by omega) (by omega) (by omega) (by omega) (by omega) rfl rfl (by omega)]
  rw [F.set_top _ _ 24 4 16777216 16 (by omega) (by omega) (by omega) (by omega) (by omega) (by omega) rfl rfl (by omega)]
  rw [F.set_top _ _ 20 4 1048576 16 (by omega) (by omega) (by omega) (by omega) (by omega) (by omega) rfl rfl (by omega)]
  rw [F.set_top _ _ 0 20 1 1048576 (by omega) (by omega) (by omega) (by omega) (by omega) (by omega) rfl rfl (by omega)]
  omega
theorem joinB (b0 b1 b2 b3 : Int) : F.set (F.set (F.set (F.set 0 30 2 (b0 % 4294967296)) 28 1 (b1 % 4294967296)) 24 4 (b2 % 4294967296)) 0 4 (b3 % 4294967296) =
    b0 % 4 * 1073741824 + b1 % 2 * 268435456 + b2 % 16 * 16777216 + b3 % 16 := by
  rw [F.set_top 0 _ 30 2 1073741824 4 (by omega) (by omega) (by omega) (by omega) (by omega) (by omega) rfl rfl (by omega)]
  rw [F.set_top _ _ 28 1 268435456 2 (by omega) (by omega) (by omega) (by omega) (by omega) (by omega) rfl rfl (by omega)]
  rw [F.set_top _ _ 24 4 16777216 16 (by omega) (by omega) (by omega) (by omega) (by omega) (by omega) rfl rfl (by omega)]
  rw [F.set_top _ _ 0 4 1 16 (by omega) (by omega) (by omega) (by omega) (by omega) (by omega) rfl rfl (by omega)]
  omega
theorem joinJ (b0 b1 b2 b3 b4 : Int) : F.set (F.set (F.set (F.set (F.set 0 30 2 (b0 % 4294967296)) 29 1 (b1 % 4294967296)) 28 1 (b2 % 4294967296)) 24 4 (b3 % 4294967296)) 0 24 (b4 % 4294967296) =
    b0 % 4 * 1073741824 + b1 % 2 * 536870912 + b2 % 2 * 268435456 + b3 % 16 * 16777216 + b4 % 16777216 := by
  rw [F.set_top 0 _ 30 2 1073741824 4 (by omega) (by omega) (by omega) (by omega) (by omega) (by omega) rfl rfl (by omega)]
  rw [F.set_top _ _ 29 1 536870912 2 (by omega) (by omega) (by omega) (by omega) (by omega) (by omega) rfl rfl (by omega)]
  rw [F.set_top _ _ 28 1 268435456 2 (by omega) (by omega) (by omega) (by omega) (by omega) (by omega) rfl rfl (by omega)]
  rw [F.set_top _ _ 24 4 16777216 16 (by omega) (by omega) (by omega) (by omega) (by omega) (by omega) rfl rfl (by omega)]
  rw [F.set_top _ _ 0 24 1 16777216 (by omega) (by omega) (by omega) (by omega) (by omega) (by omega) rfl rfl (by omega)]
  omega
end I
end Go.Proofs.Ytlmddkciamdldaa

/-
  The contract of wordOf.
-/
namespace Go.Proofs.Ytlmddkciamdldaa
open Go.RowKit
set_option linter.unusedVariables false
set_option linter.unusedSimpArgs false
set_option maxRecDepth 100000
theorem parts_1 (op a b c i : Int) (u : Bool) (B : Nat) (w : World) (hw : w.heap[B]? = some (.cells #[.int .i64 (30), .int .i64 (2), .int .i64 (0), .int .i64 (29), .int .i64 (1), .int .i64 (I.bit u), .int .i64 (24), .int .i64 (4), .int .i64 (a), .int .i64 (20), .int .i64 (4), .int .i64 (b), .int .i64 (16), .int .i64 (4), .int .i64 (op), .int .i64 (0), .int .i64 (4), .int .i64 (c)] 86 (0, 0))) : Parts B 6 (fun j => ([30, 29, 24, 20, 16, 0] : List Int).getD j 0) (fun j => ([2, 1, 4, 4, 4, 4] : List Int).getD j 0) (fun j => ([0, I.bit u, a, b, op, c] : List Int).getD j 0) w := by
  intro k hk
  rcases (show k = 0 ∨ k = 1 ∨ k = 2 ∨ k = 3 ∨ k = 4 ∨ k = 5 by omega) with rfl | rfl | rfl | rfl | rfl | rfl
  all_goals exact ⟨by simp [World.cell?, hw], by simp [World.cell?, hw], by simp [World.cell?, hw]⟩
theorem joined_1 (op a b c i : Int) (u : Bool) (B : Nat) (w : World) (hw : w.heap[B]? = some (.cells #[.int .i64 (30), .int .i64 (2), .int .i64 (0), .int .i64 (29), .int .i64 (1), .int .i64 (I.bit u), .int .i64 (24), .int .i64 (4), .int .i64 (a), .int .i64 (20), .int .i64 (4), .int .i64 (b), .int .i64 (16), .int .i64 (4), .int .i64 (op), .int .i64 (0), .int .i64 (4), .int .i64 (c)] 86 (0, 0))) (r : Int) (hr : I.join (fun j => ([30, 29, 24, 20, 16, 0] : List Int).getD j 0) (fun j => ([2, 1, 4, 4, 4, 4] : List Int).getD j 0) (fun j => ([0, I.bit u, a, b, op, c] : List Int).getD j 0) 6 = r) :
    Calls Try.prog 35 #[.slice (some ⟨B, 0, none⟩) 6 6] w fun e w' => e = .returned (.int .u32 r) ∧ Kept w w' := by
  rw [← hr]
  exact join_any _ _ _ B 6 (by omega) (fun k hk => by rcases (show k = 0 ∨ k = 1 ∨ k = 2 ∨ k = 3 ∨ k = 4 ∨ k = 5 by omega) with rfl | rfl | rfl | rfl | rfl | rfl <;> simp) (fun k hk => by rcases (show k = 0 ∨ k = 1 ∨ k = 2 ∨ k = 3 ∨ k = 4 ∨ k = 5 by omega) with rfl | rfl | rfl | rfl | rfl | rfl <;> simp) w (lt_of_block hw) (parts_1 op a b c i u B w hw)
theorem sum_1 (op a b c i : Int) (u : Bool) (h : I.May ⟨1, op, a, b, c, i, u⟩) : I.join (fun j => ([30, 29, 24, 20, 16, 0] : List Int).getD j 0) (fun j => ([2, 1, 4, 4, 4, 4] : List Int).getD j 0) (fun j => ([0, I.bit u, a, b, op, c] : List Int).getD j 0) 6 = I.word ⟨1, op, a, b, c, i, u⟩ := by
  have e := I.join6 (0) (I.bit u) (a) (b) (op) (c)
  refine Eq.trans e ?_
  unfold I.May at h
  simp only at h
  unfold I.word
  simp only [Int.reduceEq, reduceIte]
  have B0 := I.bit_lo u
  have B1 := I.bit_hi u
  have S0 := I.bit_lo (decide (i < 0))
  have S1 := I.bit_hi (decide (i < 0))
  (try rw [I.bit_f]); (try rw [I.bit_t])
  omega
theorem parts_2 (op a b c i : Int) (u : Bool) (B : Nat) (w : World) (hw : w.heap[B]? = some (.cells #[.int .i64 (30), .int .i64 (2), .int .i64 (1), .int .i64 (29), .int .i64 (1), .int .i64 (I.bit u), .int .i64 (28), .int .i64 (1), .int .i64 (I.bit (decide (i < 0))), .int .i64 (24), .int .i64 (4), .int .i64 (a), .int .i64 (20), .int .i64 (4), .int .i64 (b), .int .i64 (16), .int .i64 (4), .int .i64 (op), .int .i64 (0), .int .i64 (16), .int .i64 (i)] 86 (0, 0))) : Parts B 7 (fun j => ([30, 29, 28, 24, 20, 16, 0] : List Int).getD j 0) (fun j => ([2, 1, 1, 4, 4, 4, 16] : List Int).getD j 0) (fun j => ([1, I.bit u, I.bit (decide (i < 0)), a, b, op, i] : List Int).getD j 0) w := by
  intro k hk
  rcases (show k = 0 ∨ k = 1 ∨ k = 2 ∨ k = 3 ∨ k = 4 ∨ k = 5 ∨ k = 6 by omega) with rfl | rfl | rfl | rfl | rfl | rfl | rfl
  all_goals exact ⟨by simp [World.cell?, hw], by simp [World.cell?, hw], by simp [World.cell?, hw]⟩
theorem joined_2 (op a b c i : Int) (u : Bool) (B : Nat) (w : World) (hw : w.heap[B]? = some (.cells #[.int .i64 (30), .int .i64 (2), .int .i64 (1), .int .i64 (29), .int .i64 (1), .int .i64 (I.bit u), .int .i64 (28), .int .i64 (1), .int .i64 (I.bit (decide (i < 0))), .int .i64 (24), .int .i64 (4), .int .i64 (a), .int .i64 (20), .int .i64 (4), .int .i64 (b), .int .i64 (16), .int .i64 (4), .int .i64 (op), .int .i64 (0), .int .i64 (16), .int .i64 (i)] 86 (0, 0))) (r : Int) (hr : I.join (fun j => ([30, 29, 28, 24, 20, 16, 0] : List Int).getD j 0) (fun j => ([2, 1, 1, 4, 4, 4, 16] : List Int).getD j 0) (fun j => ([1, I.bit u, I.bit (decide (i < 0)), a, b, op, i] : List Int).getD j 0) 7 = r) :
    Calls Try.prog 35 #[.slice (some ⟨B, 0, none⟩) 7 7] w fun e w' => e = .returned (.int .u32 r) ∧ Kept w w' := by
  rw [← hr]
  exact join_any _ _ _ B 7 (by omega) (fun k hk => by rcases (show k = 0 ∨ k = 1 ∨ k = 2 ∨ k = 3 ∨ k = 4 ∨ k = 5 ∨ k = 6 by omega) with rfl | rfl | rfl | rfl | rfl | rfl | rfl <;> simp) (fun k hk => by rcases (show k = 0 ∨ k = 1 ∨ k = 2 ∨ k = 3 ∨ k = 4 ∨ k = 5 ∨ k = 6 by omega) with rfl | rfl | rfl | rfl | rfl | rfl | rfl <;> simp) w (lt_of_block hw) (parts_2 op a b c i u B w hw)
theorem sum_2 (op a b c i : Int) (u : Bool) (h : I.May ⟨2, op, a, b, c, i, u⟩) : I.join (fun j => ([30, 29, 28, 24, 20, 16, 0] : List Int).getD j 0) (fun j => ([2, 1, 1, 4, 4, 4, 16] : List Int).getD j 0) (fun j => ([1, I.bit u, I.bit (decide (i < 0)), a, b, op, i] : List Int).getD j 0) 7 = I.word ⟨2, op, a, b, c, i, u⟩ := by
  have e := I.join7 (1) (I.bit u) (I.bit (decide (i < 0))) (a) (b) (op) (i)
  refine Eq.trans e ?_
  unfold I.May at h
  simp only at h
  unfold I.word
  simp only [Int.reduceEq, reduceIte]
  have B0 := I.bit_lo u
  have B1 := I.bit_hi u
  have S0 := I.bit_lo (decide (i < 0))
  have S1 := I.bit_hi (decide (i < 0))
  (try rw [I.bit_f]); (try rw [I.bit_t])
  omega
theorem parts_3 (op a b c i : Int) (u : Bool) (B : Nat) (w : World) (hw : w.heap[B]? = some (.cells #[.int .i64 (30), .int .i64 (2), .int .i64 (0), .int .i64 (29), .int .i64 (1), .int .i64 (1), .int .i64 (28), .int .i64 (1), .int .i64 (I.bit false), .int .i64 (24), .int .i64 (4), .int .i64 (a)] 86 (0, 0))) : Parts B 4 (fun j => ([30, 29, 28, 24] : List Int).getD j 0) (fun j => ([2, 1, 1, 4] : List Int).getD j 0) (fun j => ([0, 1, I.bit false, a] : List Int).getD j 0) w := by
  intro k hk
  rcases (show k = 0 ∨ k = 1 ∨ k = 2 ∨ k = 3 by omega) with rfl | rfl | rfl | rfl
  all_goals exact ⟨by simp [World.cell?, hw], by simp [World.cell?, hw], by simp [World.cell?, hw]⟩
theorem joined_3 (op a b c i : Int) (u : Bool) (B : Nat) (w : World) (hw : w.heap[B]? = some (.cells #[.int .i64 (30), .int .i64 (2), .int .i64 (0), .int .i64 (29), .int .i64 (1), .int .i64 (1), .int .i64 (28), .int .i64 (1), .int .i64 (I.bit false), .int .i64 (24), .int .i64 (4), .int .i64 (a)] 86 (0, 0))) (r : Int) (hr : I.join (fun j => ([30, 29, 28, 24] : List Int).getD j 0) (fun j => ([2, 1, 1, 4] : List Int).getD j 0) (fun j => ([0, 1, I.bit false, a] : List Int).getD j 0) 4 = r) :
    Calls Try.prog 35 #[.slice (some ⟨B, 0, none⟩) 4 4] w fun e w' => e = .returned (.int .u32 r) ∧ Kept w w' := by
  rw [← hr]
  exact join_any _ _ _ B 4 (by omega) (fun k hk => by rcases (show k = 0 ∨ k = 1 ∨ k = 2 ∨ k = 3 by omega) with rfl | rfl | rfl | rfl <;> simp) (fun k hk => by rcases (show k = 0 ∨ k = 1 ∨ k = 2 ∨ k = 3 by omega) with rfl | rfl | rfl | rfl <;> simp) w (lt_of_block hw) (parts_3 op a b c i u B w hw)
theorem sum_3 (op a b c i : Int) (u : Bool) (h : I.May ⟨3, op, a, b, c, i, u⟩) : I.join (fun j => ([30, 29, 28, 24] : List Int).getD j 0) (fun j => ([2, 1, 1, 4] : List Int).getD j 0) (fun j => ([0, 1, I.bit false, a] : List Int).getD j 0) 4 = I.word ⟨3, op, a, b, c, i, u⟩ := by
  have e := I.join3 (0) (1) (I.bit false) (a)
  refine Eq.trans e ?_
  unfold I.May at h
  simp only at h
  unfold I.word
  simp only [Int.reduceEq, reduceIte]
  have B0 := I.bit_lo u
  have B1 := I.bit_hi u
  have S0 := I.bit_lo (decide (i < 0))
  have S1 := I.bit_hi (decide (i < 0))
  (try rw [I.bit_f]); (try rw [I.bit_t])
  omega
theorem parts_4 (op a b c i : Int) (u : Bool) (B : Nat) (w : World) (hw : w.heap[B]? = some (.cells #[.int .i64 (30), .int .i64 (2), .int .i64 (0), .int .i64 (29), .int .i64 (1), .int .i64 (1), .int .i64 (28), .int .i64 (1), .int .i64 (I.bit true), .int .i64 (24), .int .i64 (4), .int .i64 (a)] 86 (0, 0))) : Parts B 4 (fun j => ([30, 29, 28, 24] : List Int).getD j 0) (fun j => ([2, 1, 1, 4] : List Int).getD j 0) (fun j => ([0, 1, I.bit true, a] : List Int).getD j 0) w := by
  intro k hk
  rcases (show k = 0 ∨ k = 1 ∨ k = 2 ∨ k = 3 by omega) with rfl | rfl | rfl | rfl
  all_goals exact ⟨by simp [World.cell?, hw], by simp [World.cell?, hw], by simp [World.cell?, hw]⟩
theorem joined_4 (op a b c i : Int) (u : Bool) (B : Nat) (w : World) (hw : w.heap[B]? = some (.cells #[.int .i64 (30), .int .i64 (2), .int .i64 (0), .int .i64 (29), .int .i64 (1), .int .i64 (1), .int .i64 (28), .int .i64 (1), .int .i64 (I.bit true), .int .i64 (24), .int .i64 (4), .int .i64 (a)] 86 (0, 0))) (r : Int) (hr : I.join (fun j => ([30, 29, 28, 24] : List Int).getD j 0) (fun j => ([2, 1, 1, 4] : List Int).getD j 0) (fun j => ([0, 1, I.bit true, a] : List Int).getD j 0) 4 = r) :
    Calls Try.prog 35 #[.slice (some ⟨B, 0, none⟩) 4 4] w fun e w' => e = .returned (.int .u32 r) ∧ Kept w w' := by
  rw [← hr]
  exact join_any _ _ _ B 4 (by omega) (fun k hk => by rcases (show k = 0 ∨ k = 1 ∨ k = 2 ∨ k = 3 by omega) with rfl | rfl | rfl | rfl <;> simp) (fun k hk => by rcases (show k = 0 ∨ k = 1 ∨ k = 2 ∨ k = 3 by omega) with rfl | rfl | rfl | rfl <;> simp) w (lt_of_block hw) (parts_4 op a b c i u B w hw)
theorem sum_4 (op a b c i : Int) (u : Bool) (h : I.May ⟨4, op, a, b, c, i, u⟩) : I.join (fun j => ([30, 29, 28, 24] : List Int).getD j 0) (fun j => ([2, 1, 1, 4] : List Int).getD j 0) (fun j => ([0, 1, I.bit true, a] : List Int).getD j 0) 4 = I.word ⟨4, op, a, b, c, i, u⟩ := by
  have e := I.join3 (0) (1) (I.bit true) (a)
  refine Eq.trans e ?_
  unfold I.May at h
  simp only at h
  unfold I.word
  simp only [Int.reduceEq, reduceIte]
  have B0 := I.bit_lo u
  have B1 := I.bit_hi u
  have S0 := I.bit_lo (decide (i < 0))
  have S1 := I.bit_hi (decide (i < 0))
  (try rw [I.bit_f]); (try rw [I.bit_t])
  omega
theorem parts_5 (op a b c i : Int) (u : Bool) (B : Nat) (w : World) (hw : w.heap[B]? = some (.cells #[.int .i64 (30), .int .i64 (2), .int .i64 (2), .int .i64 (28), .int .i64 (2), .int .i64 (op), .int .i64 (24), .int .i64 (4), .int .i64 (a), .int .i64 (20), .int .i64 (4), .int .i64 (b), .int .i64 (0), .int .i64 (20), .int .i64 (i)] 86 (0, 0))) : Parts B 5 (fun j => ([30, 28, 24, 20, 0] : List Int).getD j 0) (fun j => ([2, 2, 4, 4, 20] : List Int).getD j 0) (fun j => ([2, op, a, b, i] : List Int).getD j 0) w := by
  intro k hk
  rcases (show k = 0 ∨ k = 1 ∨ k = 2 ∨ k = 3 ∨ k = 4 by omega) with rfl | rfl | rfl | rfl | rfl
  all_goals exact ⟨by simp [World.cell?, hw], by simp [World.cell?, hw], by simp [World.cell?, hw]⟩
theorem joined_5 (op a b c i : Int) (u : Bool) (B : Nat) (w : World) (hw : w.heap[B]? = some (.cells #[.int .i64 (30), .int .i64 (2), .int .i64 (2), .int .i64 (28), .int .i64 (2), .int .i64 (op), .int .i64 (24), .int .i64 (4), .int .i64 (a), .int .i64 (20), .int .i64 (4), .int .i64 (b), .int .i64 (0), .int .i64 (20), .int .i64 (i)] 86 (0, 0))) (r : Int) (hr : I.join (fun j => ([30, 28, 24, 20, 0] : List Int).getD j 0) (fun j => ([2, 2, 4, 4, 20] : List Int).getD j 0) (fun j => ([2, op, a, b, i] : List Int).getD j 0) 5 = r) :
    Calls Try.prog 35 #[.slice (some ⟨B, 0, none⟩) 5 5] w fun e w' => e = .returned (.int .u32 r) ∧ Kept w w' := by
  rw [← hr]
  exact join_any _ _ _ B 5 (by omega) (fun k hk => by rcases (show k = 0 ∨ k = 1 ∨ k = 2 ∨ k = 3 ∨ k = 4 by omega) with rfl | rfl | rfl | rfl | rfl <;> simp) (fun k hk => by rcases (show k = 0 ∨ k = 1 ∨ k = 2 ∨ k = 3 ∨ k = 4 by omega) with rfl | rfl | rfl | rfl | rfl <;> simp) w (lt_of_block hw) (parts_5 op a b c i u B w hw)
theorem sum_5 (op a b c i : Int) (u : Bool) (h : I.May ⟨5, op, a, b, c, i, u⟩) : I.join (fun j => ([30, 28, 24, 20, 0] : List Int).getD j 0) (fun j => ([2, 2, 4, 4, 20] : List Int).getD j 0) (fun j => ([2, op, a, b, i] : List Int).getD j 0) 5 = I.word ⟨5, op, a, b, c, i, u⟩ := by
  have e := I.join5 (2) (op) (a) (b) (i)
  refine Eq.trans e ?_
  unfold I.May at h
  simp only at h
  unfold I.word
  simp only [Int.reduceEq, reduceIte]
  have B0 := I.bit_lo u
  have B1 := I.bit_hi u
  have S0 := I.bit_lo (decide (i < 0))
  have S1 := I.bit_hi (decide (i < 0))
  (try rw [I.bit_f]); (try rw [I.bit_t])
  omega
theorem parts_6 (op a b c i : Int) (u : Bool) (B : Nat) (w : World) (hw : w.heap[B]? = some (.cells #[.int .i64 (30), .int .i64 (2), .int .i64 (3), .int .i64 (28), .int .i64 (1), .int .i64 (I.bit u), .int .i64 (24), .int .i64 (4), .int .i64 (op), .int .i64 (0), .int .i64 (4), .int .i64 (c)] 86 (0, 0))) : Parts B 4 (fun j => ([30, 28, 24, 0] : List Int).getD j 0) (fun j => ([2, 1, 4, 4] : List Int).getD j 0) (fun j => ([3, I.bit u, op, c] : List Int).getD j 0) w := by
  intro k hk
  rcases (show k = 0 ∨ k = 1 ∨ k = 2 ∨ k = 3 by omega) with rfl | rfl | rfl | rfl
  all_goals exact ⟨by simp [World.cell?, hw], by simp [World.cell?, hw], by simp [World.cell?, hw]⟩
theorem joined_6 (op a b c i : Int) (u : Bool) (B : Nat) (w : World) (hw : w.heap[B]? = some (.cells #[.int .i64 (30), .int .i64 (2), .int .i64 (3), .int .i64 (28), .int .i64 (1), .int .i64 (I.bit u), .int .i64 (24), .int .i64 (4), .int .i64 (op), .int .i64 (0), .int .i64 (4), .int .i64 (c)] 86 (0, 0))) (r : Int) (hr : I.join (fun j => ([30, 28, 24, 0] : List Int).getD j 0) (fun j => ([2, 1, 4, 4] : List Int).getD j 0) (fun j => ([3, I.bit u, op, c] : List Int).getD j 0) 4 = r) :
    Calls Try.prog 35 #[.slice (some ⟨B, 0, none⟩) 4 4] w fun e w' => e = .returned (.int .u32 r) ∧ Kept w w' := by
  rw [← hr]
  exact join_any _ _ _ B 4 (by omega) (fun k hk => by rcases (show k = 0 ∨ k = 1 ∨ k = 2 ∨ k = 3 by omega) with rfl | rfl | rfl | rfl <;> simp) (fun k hk => by rcases (show k = 0 ∨ k = 1 ∨ k = 2 ∨ k = 3 by omega) with rfl | rfl | rfl | rfl <;> simp) w (lt_of_block hw) (parts_6 op a b c i u B w hw)
theorem sum_6 (op a b c i : Int) (u : Bool) (h : I.May ⟨6, op, a, b, c, i, u⟩) : I.join (fun j => ([30, 28, 24, 0] : List Int).getD j 0) (fun j => ([2, 1, 4, 4] : List Int).getD j 0) (fun j => ([3, I.bit u, op, c] : List Int).getD j 0) 4 = I.word ⟨6, op, a, b, c, i, u⟩ := by
  have e := I.joinB (3) (I.bit u) (op) (c)
  refine Eq.trans e ?_
  unfold I.May at h
  simp only at h
  unfold I.word
  simp only [Int.reduceEq, reduceIte]
  have B0 := I.bit_lo u
  have B1 := I.bit_hi u
  have S0 := I.bit_lo (decide (i < 0))
  have S1 := I.bit_hi (decide (i < 0))
  (try rw [I.bit_f]); (try rw [I.bit_t])
  omega
theorem parts_7 (op a b c i : Int) (u : Bool) (B : Nat) (w : World) (hw : w.heap[B]? = some (.cells #[.int .i64 (30), .int .i64 (2), .int .i64 (3), .int .i64 (29), .int .i64 (1), .int .i64 (1), .int .i64 (28), .int .i64 (1), .int .i64 (I.bit u), .int .i64 (24), .int .i64 (4), .int .i64 (op), .int .i64 (0), .int .i64 (24), .int .i64 (i)] 86 (0, 0))) : Parts B 5 (fun j => ([30, 29, 28, 24, 0] : List Int).getD j 0) (fun j => ([2, 1, 1, 4, 24] : List Int).getD j 0) (fun j => ([3, 1, I.bit u, op, i] : List Int).getD j 0) w := by
  intro k hk
  rcases (show k = 0 ∨ k = 1 ∨ k = 2 ∨ k = 3 ∨ k = 4 by omega) with rfl | rfl | rfl | rfl | rfl
  all_goals exact ⟨by simp [World.cell?, hw], by simp [World.cell?, hw], by simp [World.cell?, hw]⟩
theorem joined_7 (op a b c i : Int) (u : Bool) (B : Nat) (w : World) (hw : w.heap[B]? = some (.cells #[.int .i64 (30), .int .i64 (2), .int .i64 (3), .int .i64 (29), .int .i64 (1), .int .i64 (1), .int .i64 (28), .int .i64 (1), .int .i64 (I.bit u), .int .i64 (24), .int .i64 (4), .int .i64 (op), .int .i64 (0), .int .i64 (24), .int .i64 (i)] 86 (0, 0))) (r : Int) (hr : I.join (fun j => ([30, 29, 28, 24, 0] : List Int).getD j 0) (fun j => ([2, 1, 1, 4, 24] : List Int).getD j 0) (fun j => ([3, 1, I.bit u, op, i] : List Int).getD j 0) 5 = r) :
    Calls Try.prog 35 #[.slice (some ⟨B, 0, none⟩) 5 5] w fun e w' => e = .returned (.int .u32 r) ∧ Kept w w' := by
  rw [← hr]
  exact join_any _ _ _ B 5 (by omega) (fun k hk => by rcases (show k = 0 ∨ k = 1 ∨ k = 2 ∨ k = 3 ∨ k = 4 by omega) with rfl | rfl | rfl | rfl | rfl <;> simp) (fun k hk => by rcases (show k = 0 ∨ k = 1 ∨ k = 2 ∨ k = 3 ∨ k = 4 by omega) with rfl | rfl | rfl | rfl | rfl <;> simp) w (lt_of_block hw) (parts_7 op a b c i u B w hw)
theorem sum_7 (op a b c i : Int) (u : Bool) (h : I.May ⟨7, op, a, b, c, i, u⟩) : I.join (fun j => ([30, 29, 28, 24, 0] : List Int).getD j 0) (fun j => ([2, 1, 1, 4, 24] : List Int).getD j 0) (fun j => ([3, 1, I.bit u, op, i] : List Int).getD j 0) 5 = I.word ⟨7, op, a, b, c, i, u⟩ := by
  have e := I.joinJ (3) (1) (I.bit u) (op) (i)
  refine Eq.trans e ?_
  unfold I.May at h
  simp only at h
  unfold I.word
  simp only [Int.reduceEq, reduceIte]
  have B0 := I.bit_lo u
  have B1 := I.bit_hi u
  have S0 := I.bit_lo (decide (i < 0))
  have S1 := I.bit_hi (decide (i < 0))
  (try rw [I.bit_f]); (try rw [I.bit_t])
  omega
set_option maxHeartbeats 2000000 in
theorem wordOf_1 (op a b c i r : Int) (u : Bool) (HR : Hid (I.join (fun j => ([30, 29, 24, 20, 16, 0] : List Int).getD j 0) (fun j => ([2, 1, 4, 4, 4, 4] : List Int).getD j 0) (fun j => ([0, I.bit u, a, b, op, c] : List Int).getD j 0) 6 = r)) (w : World) :
    Calls Try.prog 23 #[.agg #[.int .i64 1, .int .i64 op, .int .i64 a, .int .i64 b, .int .i64 c, .int .i64 i, .bool u]] w fun e w' => e = .returned (.int .u32 r) ∧ Kept w w' := by
  have hK0 := Kept.refl (w.alloc (.cells #[.int .i64 1, .int .i64 op, .int .i64 a, .int .i64 b, .int .i64 c, .int .i64 i, .bool u] 23))
  have X1 := Box.new 1 op a b c i u w
  have hB := show Kept w (w.alloc (.cells #[.int .i64 1, .int .i64 op, .int .i64 a, .int .i64 b, .int .i64 c, .int .i64 i, .bool u] 23)) from (Kept.refl w).alloc _ _
  go_enter Try.func23, Try.ntmps23
  go_wp2_with fail
  generalize (w.alloc (.cells #[.int .i64 1, .int .i64 op, .int .i64 a, .int .i64 b, .int .i64 c, .int .i64 i, .bool u] 23)) = wB at hK0 hB X1
  have HB := Lib.hid hB
  have HX1 := Lib.hid X1
  have HW := Lib.hid (show (wB.drew.alloc (.cells #[.int .i64 (30), .int .i64 (2), .int .i64 (0), .int .i64 (29), .int .i64 (1), .int .i64 (I.bit u), .int .i64 (24), .int .i64 (4), .int .i64 (a), .int .i64 (20), .int .i64 (4), .int .i64 (b), .int .i64 (16), .int .i64 (4), .int .i64 (op), .int .i64 (0), .int .i64 (4), .int .i64 (c)] 86)).heap[wB.heap.size]? = some _ from heap_alloc_last wB.drew _)
  have HBB := Lib.hid (show Kept wB (wB.drew.alloc (.cells #[.int .i64 (30), .int .i64 (2), .int .i64 (0), .int .i64 (29), .int .i64 (1), .int .i64 (I.bit u), .int .i64 (24), .int .i64 (4), .int .i64 (a), .int .i64 (20), .int .i64 (4), .int .i64 (b), .int .i64 (16), .int .i64 (4), .int .i64 (op), .int .i64 (0), .int .i64 (4), .int .i64 (c)] 86)) from ((Kept.refl wB).drew).alloc _ _)
  clear hB X1
  refine wp_region_held_drew (S := fun w' => w'.cell? ⟨w.heap.size, 0, none⟩ = some (.int .i64 1) ∧ w'.cell? ⟨w.heap.size, 1, none⟩ = some (.int .i64 op) ∧ w'.cell? ⟨w.heap.size, 2, none⟩ = some (.int .i64 a) ∧ w'.cell? ⟨w.heap.size, 3, none⟩ = some (.int .i64 b) ∧ w'.cell? ⟨w.heap.size, 4, none⟩ = some (.int .i64 c) ∧ w'.cell? ⟨w.heap.size, 5, none⟩ = some (.int .i64 i) ∧ w'.cell? ⟨w.heap.size, 6, none⟩ = some (.bool u)) (by kernel_rfl) ?_ (fun hHeld => ?_)
  · exact (HX1.out.kept hK0.drew).cells
  refine wpAnyH_take (i := 0) (oi := { dst := some 7, op := Op.build 86 #[(0, Operand.const (Value.int IntKind.i64 30)), (1, Operand.const (Value.int IntKind.i64 2)), (2, Operand.const (Value.int IntKind.i64 0))], type := 86, pos := "isa.go:108", after := #[], guard := none }) (v := ?_) rfl (by kernel_rfl) (by kernel_rfl) (by kernel_rfl) (fun _ _ _ h => h) (Or.inl ⟨rfl, ?_⟩) hHeld ?_
  rotate_left
  · (intro w hSw; (try dsimp only at hSw); go_simp; try with_reducible rfl)
  try simp only [Act.put, List.setIfInBounds_toArray, List.set_cons_zero, List.set_cons_succ]
  refine wpAnyH_take (i := 1) (oi := { dst := some 8, op := Op.fieldAddr 23 (Operand.tmp 1) 6, type := 0, pos := "isa.go:108", after := #[], guard := none }) (v := ?_) rfl (by kernel_rfl) (by kernel_rfl) (by kernel_rfl) (fun _ _ _ h => h) (Or.inl ⟨rfl, ?_⟩) hHeld ?_
  rotate_left
  · (intro w hSw; (try dsimp only at hSw); go_simp; try with_reducible rfl)
  try simp only [Act.put, List.setIfInBounds_toArray, List.set_cons_zero, List.set_cons_succ]
  refine wpAnyH_take (i := 2) (oi := { dst := some 9, op := Op.load 4 (Operand.tmp 8), type := 4, pos := "isa.go:108", after := #[eD 1], guard := none }) (v := ?_) rfl (by kernel_rfl) (by kernel_rfl) (by kernel_rfl) (fun _ _ _ h => h) (Or.inl ⟨rfl, ?_⟩) hHeld ?_
  rotate_left
  · (intro w hSw; (try dsimp only at hSw); go_simp; try with_reducible rfl)
  try simp only [Act.put, List.setIfInBounds_toArray, List.set_cons_zero, List.set_cons_succ]
  refine wpAnyH_take (i := 5) (oi := { dst := some 12, op := Op.fieldAddr 23 (Operand.tmp 1) 2, type := 0, pos := "isa.go:108", after := #[], guard := none }) (v := ?_) rfl (by kernel_rfl) (by kernel_rfl) (by kernel_rfl) (fun _ _ _ h => h) (Or.inl ⟨rfl, ?_⟩) hHeld ?_
  rotate_left
  · (intro w hSw; (try dsimp only at hSw); go_simp; try with_reducible rfl)
  try simp only [Act.put, List.setIfInBounds_toArray, List.set_cons_zero, List.set_cons_succ]
  refine wpAnyH_take (i := 6) (oi := { dst := some 13, op := Op.load 3 (Operand.tmp 12), type := 3, pos := "isa.go:108", after := #[eD 5], guard := none }) (v := ?_) rfl (by kernel_rfl) (by kernel_rfl) (by kernel_rfl) (fun _ _ _ h => h) (Or.inl ⟨rfl, ?_⟩) hHeld ?_
  rotate_left
  · (intro w hSw; (try dsimp only at hSw); go_simp; try with_reducible rfl)
  try simp only [Act.put, List.setIfInBounds_toArray, List.set_cons_zero, List.set_cons_succ]
  refine wpAnyH_take (i := 7) (oi := { dst := some 14, op := Op.build 86 #[(0, Operand.const (Value.int IntKind.i64 24)), (1, Operand.const (Value.int IntKind.i64 4)), (2, Operand.tmp 13)], type := 86, pos := "isa.go:108", after := #[eD 6], guard := none }) (v := ?_) rfl (by kernel_rfl) (by kernel_rfl) (by kernel_rfl) (fun _ _ _ h => h) (Or.inl ⟨rfl, ?_⟩) hHeld ?_
  rotate_left
  · (intro w hSw; (try dsimp only at hSw); go_simp; try with_reducible rfl)
  try simp only [Act.put, List.setIfInBounds_toArray, List.set_cons_zero, List.set_cons_succ]
  refine wpAnyH_take (i := 8) (oi := { dst := some 15, op := Op.fieldAddr 23 (Operand.tmp 1) 3, type := 0, pos := "isa.go:108", after := #[], guard := none }) (v := ?_) rfl (by kernel_rfl) (by kernel_rfl) (by kernel_rfl) (fun _ _ _ h => h) (Or.inl ⟨rfl, ?_⟩) hHeld ?_
  rotate_left
  · (intro w hSw; (try dsimp only at hSw); go_simp; try with_reducible rfl)
  try simp only [Act.put, List.setIfInBounds_toArray, List.set_cons_zero, List.set_cons_succ]
  refine wpAnyH_take (i := 9) (oi := { dst := some 16, op := Op.load 3 (Operand.tmp 15), type := 3, pos := "isa.go:108", after := #[eD 8], guard := none }) (v := ?_) rfl (by kernel_rfl) (by kernel_rfl) (by kernel_rfl) (fun _ _ _ h => h) (Or.inl ⟨rfl, ?_⟩) hHeld ?_
  rotate_left
  · (intro w hSw; (try dsimp only at hSw); go_simp; try with_reducible rfl)
  try simp only [Act.put, List.setIfInBounds_toArray, List.set_cons_zero, List.set_cons_succ]
  refine wpAnyH_take (i := 10) (oi := { dst := some 17, op := Op.build 86 #[(0, Operand.const (Value.int IntKind.i64 20)), (1, Operand.const (Value.int IntKind.i64 4)), (2, Operand.tmp 16)], type := 86, pos := "isa.go:108", after := #[eD 9], guard := none }) (v := ?_) rfl (by kernel_rfl) (by kernel_rfl) (by kernel_rfl) (fun _ _ _ h => h) (Or.inl ⟨rfl, ?_⟩) hHeld ?_
  rotate_left
  · (intro w hSw; (try dsimp only at hSw); go_simp; try with_reducible rfl)
  try simp only [Act.put, List.setIfInBounds_toArray, List.set_cons_zero, List.set_cons_succ]
  refine wpAnyH_take (i := 11) (oi := { dst := some 18, op := Op.fieldAddr 23 (Operand.tmp 1) 1, type := 0, pos := "isa.go:108", after := #[], guard := none }) (v := ?_) rfl (by kernel_rfl) (by kernel_rfl) (by kernel_rfl) (fun _ _ _ h => h) (Or.inl ⟨rfl, ?_⟩) hHeld ?_
  rotate_left
  · (intro w hSw; (try dsimp only at hSw); go_simp; try with_reducible rfl)
  try simp only [Act.put, List.setIfInBounds_toArray, List.set_cons_zero, List.set_cons_succ]
  refine wpAnyH_take (i := 12) (oi := { dst := some 19, op := Op.load 3 (Operand.tmp 18), type := 3, pos := "isa.go:108", after := #[eD 11], guard := none }) (v := ?_) rfl (by kernel_rfl) (by kernel_rfl) (by kernel_rfl) (fun _ _ _ h => h) (Or.inl ⟨rfl, ?_⟩) hHeld ?_
  rotate_left
  · (intro w hSw; (try dsimp only at hSw); go_simp; try with_reducible rfl)
  try simp only [Act.put, List.setIfInBounds_toArray, List.set_cons_zero, List.set_cons_succ]
  refine wpAnyH_take (i := 13) (oi := { dst := some 20, op := Op.build 86 #[(0, Operand.const (Value.int IntKind.i64 16)), (1, Operand.const (Value.int IntKind.i64 4)), (2, Operand.tmp 19)], type := 86, pos := "isa.go:108", after := #[eD 12], guard := none }) (v := ?_) rfl (by kernel_rfl) (by kernel_rfl) (by kernel_rfl) (fun _ _ _ h => h) (Or.inl ⟨rfl, ?_⟩) hHeld ?_
  rotate_left
  · (intro w hSw; (try dsimp only at hSw); go_simp; try with_reducible rfl)
  try simp only [Act.put, List.setIfInBounds_toArray, List.set_cons_zero, List.set_cons_succ]
  refine wpAnyH_take (i := 14) (oi := { dst := some 21, op := Op.fieldAddr 23 (Operand.tmp 1) 4, type := 0, pos := "isa.go:108", after := #[], guard := none }) (v := ?_) rfl (by kernel_rfl) (by kernel_rfl) (by kernel_rfl) (fun _ _ _ h => h) (Or.inl ⟨rfl, ?_⟩) hHeld ?_
  rotate_left
  · (intro w hSw; (try dsimp only at hSw); go_simp; try with_reducible rfl)
  try simp only [Act.put, List.setIfInBounds_toArray, List.set_cons_zero, List.set_cons_succ]
  refine wpAnyH_take (i := 15) (oi := { dst := some 22, op := Op.load 3 (Operand.tmp 21), type := 3, pos := "isa.go:108", after := #[eD 14], guard := none }) (v := ?_) rfl (by kernel_rfl) (by kernel_rfl) (by kernel_rfl) (fun _ _ _ h => h) (Or.inl ⟨rfl, ?_⟩) hHeld ?_
  rotate_left
  · (intro w hSw; (try dsimp only at hSw); go_simp; try with_reducible rfl)
  try simp only [Act.put, List.setIfInBounds_toArray, List.set_cons_zero, List.set_cons_succ]
  refine wpAnyH_take (i := 16) (oi := { dst := some 23, op := Op.build 86 #[(0, Operand.const (Value.int IntKind.i64 0)), (1, Operand.const (Value.int IntKind.i64 4)), (2, Operand.tmp 22)], type := 86, pos := "isa.go:108", after := #[eD 15], guard := none }) (v := ?_) rfl (by kernel_rfl) (by kernel_rfl) (by kernel_rfl) (fun _ _ _ h => h) (Or.inl ⟨rfl, ?_⟩) hHeld ?_
  rotate_left
  · (intro w hSw; (try dsimp only at hSw); go_simp; try with_reducible rfl)
  try simp only [Act.put, List.setIfInBounds_toArray, List.set_cons_zero, List.set_cons_succ]
  refine wpAnyH_ready (rs := [3]) (by kernel_rfl) (by simp) ?_
  refine AllReadyH.cons (o := { dst := some 10, op := Op.call { callee := Callee.value (Operand.func 36), args := #[Operand.tmp 9], argTypes := #[4] }, type := 3, pos := "isa.go:108", after := #[eD 2], guard := none }) rfl (fun K hK => ?_) AllReadyH.nil
  go_simp
  go_at_call 36
  refine (bit_any _ _).mono ?_
  rintro e w6 ⟨rfl, rfl⟩
  clear hHeld
  refine hK.out _ _ ?_ (fun hHeld => ?_)
  · exact (HX1.out.kept hK0.drew).cells
  clear hK K
  try simp only [Act.put, List.setIfInBounds_toArray, List.set_cons_zero, List.set_cons_succ]
  refine wpAnyH_take (i := 4) (oi := { dst := some 11, op := Op.build 86 #[(0, Operand.const (Value.int IntKind.i64 29)), (1, Operand.const (Value.int IntKind.i64 1)), (2, Operand.tmp 10)], type := 86, pos := "isa.go:108", after := #[eD 3], guard := none }) (v := ?_) rfl (by kernel_rfl) (by kernel_rfl) (by kernel_rfl) (fun _ _ _ h => h) (Or.inl ⟨rfl, ?_⟩) hHeld ?_
  rotate_left
  · (intro w hSw; (try dsimp only at hSw); go_simp; try with_reducible rfl)
  try simp only [Act.put, List.setIfInBounds_toArray, List.set_cons_zero, List.set_cons_succ]
  refine wpAnyH_ready (rs := [17]) (by kernel_rfl) (by simp) ?_
  refine AllReadyH.cons (o := { dst := some 24, op := Op.buildSlice 97 6 #[(0, Operand.tmp 7), (1, Operand.tmp 11), (2, Operand.tmp 14), (3, Operand.tmp 17), (4, Operand.tmp 20), (5, Operand.tmp 23)], type := 97, pos := "isa.go:108", after := #[eD 0, eD 4, eD 7, eD 10, eD 13, eD 16], guard := none }) rfl (fun K hK => ?_) AllReadyH.nil
  go_simp
  clear hHeld
  refine hK.out _ _ ?_ (fun hHeld => ?_)
  · exact (HX1.out.kept HBB.out).cells
  clear hK K
  try simp only [Act.put, List.setIfInBounds_toArray, List.set_cons_zero, List.set_cons_succ]
  refine wpAnyH_ready (rs := [18]) (by kernel_rfl) (by simp) ?_
  refine AllReadyH.cons (o := { dst := some 25, op := Op.call { callee := Callee.value (Operand.func 35), args := #[Operand.tmp 24], argTypes := #[97] }, type := 24, pos := "isa.go:108", after := #[eD 17, eC 3], guard := none }) rfl (fun K hK => ?_) AllReadyH.nil
  go_simp
  go_at_call 35
  refine (joined_1 op a b c i u _ _ HW.out r HR.out).mono ?_
  rintro e w7 ⟨rfl, hK5⟩
  clear hHeld
  refine hK.out _ _ ?_ (fun hHeld => ?_)
  · exact ((HX1.out.kept HBB.out).kept hK5).cells
  clear hK K
  try simp only [Act.put, List.setIfInBounds_toArray, List.set_cons_zero, List.set_cons_succ]
  refine wpAnyH_take (i := 19) (oi := { dst := some 2, op := Op.assign (Operand.tmp 25), type := 24, pos := "isa.go:108", after := #[eD 18, eC 18, eP 0, eP 1, eP 2, eP 3, eP 4, eP 5, eP 6, eP 7, eP 8, eP 9, eP 10, eP 11, eP 12, eP 13, eP 14, eP 15, eP 16, eP 17, eP 18], guard := none }) (v := ?_) rfl (by kernel_rfl) (by kernel_rfl) (by kernel_rfl) (fun _ _ _ h => h) (Or.inl ⟨rfl, ?_⟩) hHeld ?_
  rotate_left
  · (intro w hSw; (try dsimp only at hSw); go_simp; try with_reducible rfl)
  try simp only [Act.put, List.setIfInBounds_toArray, List.set_cons_zero, List.set_cons_succ]
  refine wpAnyH_done (by kernel_rfl) ?_ _
  go_wp2_with fail
  go_ret
  exact ⟨rfl, (HB.out.trans HBB.out).trans hK5⟩
set_option maxHeartbeats 2000000 in
theorem wordOf_2 (op a b c i r : Int) (u : Bool) (HR : Hid (I.join (fun j => ([30, 29, 28, 24, 20, 16, 0] : List Int).getD j 0) (fun j => ([2, 1, 1, 4, 4, 4, 16] : List Int).getD j 0) (fun j => ([1, I.bit u, I.bit (decide (i < 0)), a, b, op, i] : List Int).getD j 0) 7 = r)) (w : World) :
    Calls Try.prog 23 #[.agg #[.int .i64 2, .int .i64 op, .int .i64 a, .int .i64 b, .int .i64 c, .int .i64 i, .bool u]] w fun e w' => e = .returned (.int .u32 r) ∧ Kept w w' := by
  have hK0 := Kept.refl (w.alloc (.cells #[.int .i64 2, .int .i64 op, .int .i64 a, .int .i64 b, .int .i64 c, .int .i64 i, .bool u] 23))
  have X1 := Box.new 2 op a b c i u w
  have hB := show Kept w (w.alloc (.cells #[.int .i64 2, .int .i64 op, .int .i64 a, .int .i64 b, .int .i64 c, .int .i64 i, .bool u] 23)) from (Kept.refl w).alloc _ _
  go_enter Try.func23, Try.ntmps23
  go_wp2_with fail
  generalize (w.alloc (.cells #[.int .i64 2, .int .i64 op, .int .i64 a, .int .i64 b, .int .i64 c, .int .i64 i, .bool u] 23)) = wB at hK0 hB X1
  have HB := Lib.hid hB
  have HX1 := Lib.hid X1
  have HW := Lib.hid (show (wB.drew.alloc (.cells #[.int .i64 (30), .int .i64 (2), .int .i64 (1), .int .i64 (29), .int .i64 (1), .int .i64 (I.bit u), .int .i64 (28), .int .i64 (1), .int .i64 (I.bit (decide (i < 0))), .int .i64 (24), .int .i64 (4), .int .i64 (a), .int .i64 (20), .int .i64 (4), .int .i64 (b), .int .i64 (16), .int .i64 (4), .int .i64 (op), .int .i64 (0), .int .i64 (16), .int .i64 (i)] 86)).heap[wB.heap.size]? = some _ from heap_alloc_last wB.drew _)
  have HBB := Lib.hid (show Kept wB (wB.drew.alloc (.cells #[.int .i64 (30), .int .i64 (2), .int .i64 (1), .int .i64 (29), .int .i64 (1), .int .i64 (I.bit u), .int .i64 (28), .int .i64 (1), .int .i64 (I.bit (decide (i < 0))), .int .i64 (24), .int .i64 (4), .int .i64 (a), .int .i64 (20), .int .i64 (4), .int .i64 (b), .int .i64 (16), .int .i64 (4), .int .i64 (op), .int .i64 (0), .int .i64 (16), .int .i64 (i)] 86)) from ((Kept.refl wB).drew).alloc _ _)
  clear hB X1
  refine wp_region_held_drew (S := fun w' => w'.cell? ⟨w.heap.size, 0, none⟩ = some (.int .i64 2) ∧ w'.cell? ⟨w.heap.size, 1, none⟩ = some (.int .i64 op) ∧ w'.cell? ⟨w.heap.size, 2, none⟩ = some (.int .i64 a) ∧ w'.cell? ⟨w.heap.size, 3, none⟩ = some (.int .i64 b) ∧ w'.cell? ⟨w.heap.size, 4, none⟩ = some (.int .i64 c) ∧ w'.cell? ⟨w.heap.size, 5, none⟩ = some (.int .i64 i) ∧ w'.cell? ⟨w.heap.size, 6, none⟩ = some (.bool u)) (by kernel_rfl) ?_ (fun hHeld => ?_)
  · exact (HX1.out.kept hK0.drew).cells
  refine wpAnyH_take (i := 0) (oi := { dst := some 43, op := Op.build 86 #[(0, Operand.const (Value.int IntKind.i64 30)), (1, Operand.const (Value.int IntKind.i64 2)), (2, Operand.const (Value.int IntKind.i64 1))], type := 86, pos := "isa.go:112", after := #[], guard := none }) (v := ?_) rfl (by kernel_rfl) (by kernel_rfl) (by kernel_rfl) (fun _ _ _ h => h) (Or.inl ⟨rfl, ?_⟩) hHeld ?_
  rotate_left
  · (intro w hSw; (try dsimp only at hSw); go_simp; try with_reducible rfl)
  try simp only [Act.put, List.setIfInBounds_toArray, List.set_cons_zero, List.set_cons_succ]
  refine wpAnyH_take (i := 1) (oi := { dst := some 44, op := Op.fieldAddr 23 (Operand.tmp 1) 6, type := 0, pos := "isa.go:112", after := #[], guard := none }) (v := ?_) rfl (by kernel_rfl) (by kernel_rfl) (by kernel_rfl) (fun _ _ _ h => h) (Or.inl ⟨rfl, ?_⟩) hHeld ?_
  rotate_left
  · (intro w hSw; (try dsimp only at hSw); go_simp; try with_reducible rfl)
  try simp only [Act.put, List.setIfInBounds_toArray, List.set_cons_zero, List.set_cons_succ]
  refine wpAnyH_take (i := 2) (oi := { dst := some 45, op := Op.load 4 (Operand.tmp 44), type := 4, pos := "isa.go:112", after := #[eD 1], guard := none }) (v := ?_) rfl (by kernel_rfl) (by kernel_rfl) (by kernel_rfl) (fun _ _ _ h => h) (Or.inl ⟨rfl, ?_⟩) hHeld ?_
  rotate_left
  · (intro w hSw; (try dsimp only at hSw); go_simp; try with_reducible rfl)
  try simp only [Act.put, List.setIfInBounds_toArray, List.set_cons_zero, List.set_cons_succ]
  refine wpAnyH_take (i := 5) (oi := { dst := some 48, op := Op.fieldAddr 23 (Operand.tmp 1) 5, type := 0, pos := "isa.go:112", after := #[], guard := none }) (v := ?_) rfl (by kernel_rfl) (by kernel_rfl) (by kernel_rfl) (fun _ _ _ h => h) (Or.inl ⟨rfl, ?_⟩) hHeld ?_
  rotate_left
  · (intro w hSw; (try dsimp only at hSw); go_simp; try with_reducible rfl)
  try simp only [Act.put, List.setIfInBounds_toArray, List.set_cons_zero, List.set_cons_succ]
  refine wpAnyH_take (i := 6) (oi := { dst := some 49, op := Op.load 3 (Operand.tmp 48), type := 3, pos := "isa.go:112", after := #[eD 5], guard := none }) (v := ?_) rfl (by kernel_rfl) (by kernel_rfl) (by kernel_rfl) (fun _ _ _ h => h) (Or.inl ⟨rfl, ?_⟩) hHeld ?_
  rotate_left
  · (intro w hSw; (try dsimp only at hSw); go_simp; try with_reducible rfl)
  try simp only [Act.put, List.setIfInBounds_toArray, List.set_cons_zero, List.set_cons_succ]
  refine wpAnyH_take (i := 7) (oi := { dst := some 50, op := Op.binOp BinOp.lss 3 (Operand.tmp 49) (Operand.const (Value.int IntKind.i64 0)) 3, type := 4, pos := "isa.go:112", after := #[eD 6], guard := none }) (v := ?_) rfl (by kernel_rfl) (by kernel_rfl) (by kernel_rfl) (fun _ _ _ h => h) (Or.inl ⟨rfl, ?_⟩) hHeld ?_
  rotate_left
  · (intro w hSw; (try dsimp only at hSw); go_simp; try with_reducible rfl)
  try simp only [Act.put, List.setIfInBounds_toArray, List.set_cons_zero, List.set_cons_succ]
  refine wpAnyH_take (i := 10) (oi := { dst := some 53, op := Op.fieldAddr 23 (Operand.tmp 1) 2, type := 0, pos := "isa.go:112", after := #[], guard := none }) (v := ?_) rfl (by kernel_rfl) (by kernel_rfl) (by kernel_rfl) (fun _ _ _ h => h) (Or.inl ⟨rfl, ?_⟩) hHeld ?_
  rotate_left
  · (intro w hSw; (try dsimp only at hSw); go_simp; try with_reducible rfl)
  try simp only [Act.put, List.setIfInBounds_toArray, List.set_cons_zero, List.set_cons_succ]
  refine wpAnyH_take (i := 11) (oi := { dst := some 54, op := Op.load 3 (Operand.tmp 53), type := 3, pos := "isa.go:112", after := #[eD 10], guard := none }) (v := ?_) rfl (by kernel_rfl) (by kernel_rfl) (by kernel_rfl) (fun _ _ _ h => h) (Or.inl ⟨rfl, ?_⟩) hHeld ?_
  rotate_left
  · (intro w hSw; (try dsimp only at hSw); go_simp; try with_reducible rfl)
  try simp only [Act.put, List.setIfInBounds_toArray, List.set_cons_zero, List.set_cons_succ]
  refine wpAnyH_take (i := 12) (oi := { dst := some 55, op := Op.build 86 #[(0, Operand.const (Value.int IntKind.i64 24)), (1, Operand.const (Value.int IntKind.i64 4)), (2, Operand.tmp 54)], type := 86, pos := "isa.go:112", after := #[eD 11], guard := none }) (v := ?_) rfl (by kernel_rfl) (by kernel_rfl) (by kernel_rfl) (fun _ _ _ h => h) (Or.inl ⟨rfl, ?_⟩) hHeld ?_
  rotate_left
  · (intro w hSw; (try dsimp only at hSw); go_simp; try with_reducible rfl)
  try simp only [Act.put, List.setIfInBounds_toArray, List.set_cons_zero, List.set_cons_succ]
  refine wpAnyH_take (i := 13) (oi := { dst := some 56, op := Op.fieldAddr 23 (Operand.tmp 1) 3, type := 0, pos := "isa.go:112", after := #[], guard := none }) (v := ?_) rfl (by kernel_rfl) (by kernel_rfl) (by kernel_rfl) (fun _ _ _ h => h) (Or.inl ⟨rfl, ?_⟩) hHeld ?_
  rotate_left
  · (intro w hSw; (try dsimp only at hSw); go_simp; try with_reducible rfl)
  try simp only [Act.put, List.setIfInBounds_toArray, List.set_cons_zero, List.set_cons_succ]
  refine wpAnyH_take (i := 14) (oi := { dst := some 57, op := Op.load 3 (Operand.tmp 56), type := 3, pos := "isa.go:112", after := #[eD 13], guard := none }) (v := ?_) rfl (by kernel_rfl) (by kernel_rfl) (by kernel_rfl) (fun _ _ _ h => h) (Or.inl ⟨rfl, ?_⟩) hHeld ?_
  rotate_left
  · (intro w hSw; (try dsimp only at hSw); go_simp; try with_reducible rfl)
  try simp only [Act.put, List.setIfInBounds_toArray, List.set_cons_zero, List.set_cons_succ]
  refine wpAnyH_take (i := 15) (oi := { dst := some 58, op := Op.build 86 #[(0, Operand.const (Value.int IntKind.i64 20)), (1, Operand.const (Value.int IntKind.i64 4)), (2, Operand.tmp 57)], type := 86, pos := "isa.go:112", after := #[eD 14], guard := none }) (v := ?_) rfl (by kernel_rfl) (by kernel_rfl) (by kernel_rfl) (fun _ _ _ h => h) (Or.inl ⟨rfl, ?_⟩) hHeld ?_
  rotate_left
  · (intro w hSw; (try dsimp only at hSw); go_simp; try with_reducible rfl)
  try simp only [Act.put, List.setIfInBounds_toArray, List.set_cons_zero, List.set_cons_succ]
  refine wpAnyH_take (i := 16) (oi := { dst := some 59, op := Op.fieldAddr 23 (Operand.tmp 1) 1, type := 0, pos := "isa.go:112", after := #[], guard := none }) (v := ?_) rfl (by kernel_rfl) (by kernel_rfl) (by kernel_rfl) (fun _ _ _ h => h) (Or.inl ⟨rfl, ?_⟩) hHeld ?_
  rotate_left
  · (intro w hSw; (try dsimp only at hSw); go_simp; try with_reducible rfl)
  try simp only [Act.put, List.setIfInBounds_toArray, List.set_cons_zero, List.set_cons_succ]
  refine wpAnyH_take (i := 17) (oi := { dst := some 60, op := Op.load 3 (Operand.tmp 59), type := 3, pos := "isa.go:112", after := #[eD 16], guard := none }) (v := ?_) rfl (by kernel_rfl) (by kernel_rfl) (by kernel_rfl) (fun _ _ _ h => h) (Or.inl ⟨rfl, ?_⟩) hHeld ?_
  rotate_left
  · (intro w hSw; (try dsimp only at hSw); go_simp; try with_reducible rfl)
  try simp only [Act.put, List.setIfInBounds_toArray, List.set_cons_zero, List.set_cons_succ]
  refine wpAnyH_take (i := 18) (oi := { dst := some 61, op := Op.build 86 #[(0, Operand.const (Value.int IntKind.i64 16)), (1, Operand.const (Value.int IntKind.i64 4)), (2, Operand.tmp 60)], type := 86, pos := "isa.go:112", after := #[eD 17], guard := none }) (v := ?_) rfl (by kernel_rfl) (by kernel_rfl) (by kernel_rfl) (fun _ _ _ h => h) (Or.inl ⟨rfl, ?_⟩) hHeld ?_
  rotate_left
  · (intro w hSw; (try dsimp only at hSw); go_simp; try with_reducible rfl)
  try simp only [Act.put, List.setIfInBounds_toArray, List.set_cons_zero, List.set_cons_succ]
  refine wpAnyH_take (i := 19) (oi := { dst := some 62, op := Op.fieldAddr 23 (Operand.tmp 1) 5, type := 0, pos := "isa.go:112", after := #[], guard := none }) (v := ?_) rfl (by kernel_rfl) (by kernel_rfl) (by kernel_rfl) (fun _ _ _ h => h) (Or.inl ⟨rfl, ?_⟩) hHeld ?_
  rotate_left
  · (intro w hSw; (try dsimp only at hSw); go_simp; try with_reducible rfl)
  try simp only [Act.put, List.setIfInBounds_toArray, List.set_cons_zero, List.set_cons_succ]
  refine wpAnyH_take (i := 20) (oi := { dst := some 63, op := Op.load 3 (Operand.tmp 62), type := 3, pos := "isa.go:112", after := #[eD 19], guard := none }) (v := ?_) rfl (by kernel_rfl) (by kernel_rfl) (by kernel_rfl) (fun _ _ _ h => h) (Or.inl ⟨rfl, ?_⟩) hHeld ?_
  rotate_left
  · (intro w hSw; (try dsimp only at hSw); go_simp; try with_reducible rfl)
  try simp only [Act.put, List.setIfInBounds_toArray, List.set_cons_zero, List.set_cons_succ]
  refine wpAnyH_take (i := 21) (oi := { dst := some 64, op := Op.build 86 #[(0, Operand.const (Value.int IntKind.i64 0)), (1, Operand.const (Value.int IntKind.i64 16)), (2, Operand.tmp 63)], type := 86, pos := "isa.go:112", after := #[eD 20], guard := none }) (v := ?_) rfl (by kernel_rfl) (by kernel_rfl) (by kernel_rfl) (fun _ _ _ h => h) (Or.inl ⟨rfl, ?_⟩) hHeld ?_
  rotate_left
  · (intro w hSw; (try dsimp only at hSw); go_simp; try with_reducible rfl)
  try simp only [Act.put, List.setIfInBounds_toArray, List.set_cons_zero, List.set_cons_succ]
  refine wpAnyH_ready (rs := [3]) (by kernel_rfl) (by simp) ?_
  refine AllReadyH.cons (o := { dst := some 46, op := Op.call { callee := Callee.value (Operand.func 36), args := #[Operand.tmp 45], argTypes := #[4] }, type := 3, pos := "isa.go:112", after := #[eD 2], guard := none }) rfl (fun K hK => ?_) AllReadyH.nil
  go_simp
  go_at_call 36
  refine (bit_any _ _).mono ?_
  rintro e w6 ⟨rfl, rfl⟩
  clear hHeld
  refine hK.out _ _ ?_ (fun hHeld => ?_)
  · exact (HX1.out.kept hK0.drew).cells
  clear hK K
  try simp only [Act.put, List.setIfInBounds_toArray, List.set_cons_zero, List.set_cons_succ]
  refine wpAnyH_take (i := 4) (oi := { dst := some 47, op := Op.build 86 #[(0, Operand.const (Value.int IntKind.i64 29)), (1, Operand.const (Value.int IntKind.i64 1)), (2, Operand.tmp 46)], type := 86, pos := "isa.go:112", after := #[eD 3], guard := none }) (v := ?_) rfl (by kernel_rfl) (by kernel_rfl) (by kernel_rfl) (fun _ _ _ h => h) (Or.inl ⟨rfl, ?_⟩) hHeld ?_
  rotate_left
  · (intro w hSw; (try dsimp only at hSw); go_simp; try with_reducible rfl)
  try simp only [Act.put, List.setIfInBounds_toArray, List.set_cons_zero, List.set_cons_succ]
  refine wpAnyH_ready (rs := [8]) (by kernel_rfl) (by simp) ?_
  refine AllReadyH.cons (o := { dst := some 51, op := Op.call { callee := Callee.value (Operand.func 36), args := #[Operand.tmp 50], argTypes := #[4] }, type := 3, pos := "isa.go:112", after := #[eD 7, eC 3], guard := none }) rfl (fun K hK => ?_) AllReadyH.nil
  go_simp
  go_at_call 36
  refine (bit_any _ _).mono ?_
  rintro e w6 ⟨rfl, rfl⟩
  clear hHeld
  refine hK.out _ _ ?_ (fun hHeld => ?_)
  · exact (HX1.out.kept hK0.drew).cells
  clear hK K
  try simp only [Act.put, List.setIfInBounds_toArray, List.set_cons_zero, List.set_cons_succ]
  refine wpAnyH_take (i := 9) (oi := { dst := some 52, op := Op.build 86 #[(0, Operand.const (Value.int IntKind.i64 28)), (1, Operand.const (Value.int IntKind.i64 1)), (2, Operand.tmp 51)], type := 86, pos := "isa.go:112", after := #[eD 8], guard := none }) (v := ?_) rfl (by kernel_rfl) (by kernel_rfl) (by kernel_rfl) (fun _ _ _ h => h) (Or.inl ⟨rfl, ?_⟩) hHeld ?_
  rotate_left
  · (intro w hSw; (try dsimp only at hSw); go_simp; try with_reducible rfl)
  try simp only [Act.put, List.setIfInBounds_toArray, List.set_cons_zero, List.set_cons_succ]
  refine wpAnyH_ready (rs := [22]) (by kernel_rfl) (by simp) ?_
  refine AllReadyH.cons (o := { dst := some 65, op := Op.buildSlice 97 7 #[(0, Operand.tmp 43), (1, Operand.tmp 47), (2, Operand.tmp 52), (3, Operand.tmp 55), (4, Operand.tmp 58), (5, Operand.tmp 61), (6, Operand.tmp 64)], type := 97, pos := "isa.go:112", after := #[eD 0, eD 4, eD 9, eD 12, eD 15, eD 18, eD 21], guard := none }) rfl (fun K hK => ?_) AllReadyH.nil
  go_simp
  clear hHeld
  refine hK.out _ _ ?_ (fun hHeld => ?_)
  · exact (HX1.out.kept HBB.out).cells
  clear hK K
  try simp only [Act.put, List.setIfInBounds_toArray, List.set_cons_zero, List.set_cons_succ]
  refine wpAnyH_ready (rs := [23]) (by kernel_rfl) (by simp) ?_
  refine AllReadyH.cons (o := { dst := some 66, op := Op.call { callee := Callee.value (Operand.func 35), args := #[Operand.tmp 65], argTypes := #[97] }, type := 24, pos := "isa.go:112", after := #[eD 22, eC 8], guard := none }) rfl (fun K hK => ?_) AllReadyH.nil
  go_simp
  go_at_call 35
  refine (joined_2 op a b c i u _ _ HW.out r HR.out).mono ?_
  rintro e w7 ⟨rfl, hK5⟩
  clear hHeld
  refine hK.out _ _ ?_ (fun hHeld => ?_)
  · exact ((HX1.out.kept HBB.out).kept hK5).cells
  clear hK K
  try simp only [Act.put, List.setIfInBounds_toArray, List.set_cons_zero, List.set_cons_succ]
  refine wpAnyH_take (i := 24) (oi := { dst := some 2, op := Op.assign (Operand.tmp 66), type := 24, pos := "isa.go:112", after := #[eD 23, eC 23, eP 0, eP 1, eP 2, eP 3, eP 4, eP 5, eP 6, eP 7, eP 8, eP 9, eP 10, eP 11, eP 12, eP 13, eP 14, eP 15, eP 16, eP 17, eP 18, eP 19, eP 20, eP 21, eP 22, eP 23], guard := none }) (v := ?_) rfl (by kernel_rfl) (by kernel_rfl) (by kernel_rfl) (fun _ _ _ h => h) (Or.inl ⟨rfl, ?_⟩) hHeld ?_
  rotate_left
  · (intro w hSw; (try dsimp only at hSw); go_simp; try with_reducible rfl)
  try simp only [Act.put, List.setIfInBounds_toArray, List.set_cons_zero, List.set_cons_succ]
  refine wpAnyH_done (by kernel_rfl) ?_ _
  go_wp2_with fail
  go_ret
  exact ⟨rfl, (HB.out.trans HBB.out).trans hK5⟩
set_option maxHeartbeats 2000000 in
theorem wordOf_3 (op a b c i r : Int) (u : Bool) (HR : Hid (I.join (fun j => ([30, 29, 28, 24] : List Int).getD j 0) (fun j => ([2, 1, 1, 4] : List Int).getD j 0) (fun j => ([0, 1, I.bit false, a] : List Int).getD j 0) 4 = r)) (w : World) :
    Calls Try.prog 23 #[.agg #[.int .i64 3, .int .i64 op, .int .i64 a, .int .i64 b, .int .i64 c, .int .i64 i, .bool u]] w fun e w' => e = .returned (.int .u32 r) ∧ Kept w w' := by
  have hK0 := Kept.refl (w.alloc (.cells #[.int .i64 3, .int .i64 op, .int .i64 a, .int .i64 b, .int .i64 c, .int .i64 i, .bool u] 23))
  have X1 := Box.new 3 op a b c i u w
  have hB := show Kept w (w.alloc (.cells #[.int .i64 3, .int .i64 op, .int .i64 a, .int .i64 b, .int .i64 c, .int .i64 i, .bool u] 23)) from (Kept.refl w).alloc _ _
  go_enter Try.func23, Try.ntmps23
  go_wp2_with fail
  generalize (w.alloc (.cells #[.int .i64 3, .int .i64 op, .int .i64 a, .int .i64 b, .int .i64 c, .int .i64 i, .bool u] 23)) = wB at hK0 hB X1
  have HB := Lib.hid hB
  have HX1 := Lib.hid X1
  have HW := Lib.hid (show (wB.drew.alloc (.cells #[.int .i64 (30), .int .i64 (2), .int .i64 (0), .int .i64 (29), .int .i64 (1), .int .i64 (1), .int .i64 (28), .int .i64 (1), .int .i64 (I.bit false), .int .i64 (24), .int .i64 (4), .int .i64 (a)] 86)).heap[wB.heap.size]? = some _ from heap_alloc_last wB.drew _)
  have HBB := Lib.hid (show Kept wB (wB.drew.alloc (.cells #[.int .i64 (30), .int .i64 (2), .int .i64 (0), .int .i64 (29), .int .i64 (1), .int .i64 (1), .int .i64 (28), .int .i64 (1), .int .i64 (I.bit false), .int .i64 (24), .int .i64 (4), .int .i64 (a)] 86)) from ((Kept.refl wB).drew).alloc _ _)
  clear hB X1
  refine wp_region_held_drew (S := fun w' => w'.cell? ⟨w.heap.size, 0, none⟩ = some (.int .i64 3) ∧ w'.cell? ⟨w.heap.size, 1, none⟩ = some (.int .i64 op) ∧ w'.cell? ⟨w.heap.size, 2, none⟩ = some (.int .i64 a) ∧ w'.cell? ⟨w.heap.size, 3, none⟩ = some (.int .i64 b) ∧ w'.cell? ⟨w.heap.size, 4, none⟩ = some (.int .i64 c) ∧ w'.cell? ⟨w.heap.size, 5, none⟩ = some (.int .i64 i) ∧ w'.cell? ⟨w.heap.size, 6, none⟩ = some (.bool u)) (by kernel_rfl) ?_ (fun hHeld => ?_)
  · exact (HX1.out.kept hK0.drew).cells
  refine wpAnyH_take (i := 0) (oi := { dst := some 29, op := Op.build 86 #[(0, Operand.const (Value.int IntKind.i64 30)), (1, Operand.const (Value.int IntKind.i64 2)), (2, Operand.const (Value.int IntKind.i64 0))], type := 86, pos := "isa.go:110", after := #[], guard := none }) (v := ?_) rfl (by kernel_rfl) (by kernel_rfl) (by kernel_rfl) (fun _ _ _ h => h) (Or.inl ⟨rfl, ?_⟩) hHeld ?_
  rotate_left
  · (intro w hSw; (try dsimp only at hSw); go_simp; try with_reducible rfl)
  try simp only [Act.put, List.setIfInBounds_toArray, List.set_cons_zero, List.set_cons_succ]
  refine wpAnyH_take (i := 1) (oi := { dst := some 30, op := Op.build 86 #[(0, Operand.const (Value.int IntKind.i64 29)), (1, Operand.const (Value.int IntKind.i64 1)), (2, Operand.const (Value.int IntKind.i64 1))], type := 86, pos := "isa.go:110", after := #[], guard := none }) (v := ?_) rfl (by kernel_rfl) (by kernel_rfl) (by kernel_rfl) (fun _ _ _ h => h) (Or.inl ⟨rfl, ?_⟩) hHeld ?_
  rotate_left
  · (intro w hSw; (try dsimp only at hSw); go_simp; try with_reducible rfl)
  try simp only [Act.put, List.setIfInBounds_toArray, List.set_cons_zero, List.set_cons_succ]
  refine wpAnyH_take (i := 2) (oi := { dst := some 31, op := Op.fieldAddr 23 (Operand.tmp 1) 0, type := 0, pos := "isa.go:110", after := #[], guard := none }) (v := ?_) rfl (by kernel_rfl) (by kernel_rfl) (by kernel_rfl) (fun _ _ _ h => h) (Or.inl ⟨rfl, ?_⟩) hHeld ?_
  rotate_left
  · (intro w hSw; (try dsimp only at hSw); go_simp; try with_reducible rfl)
  try simp only [Act.put, List.setIfInBounds_toArray, List.set_cons_zero, List.set_cons_succ]
  refine wpAnyH_take (i := 3) (oi := { dst := some 32, op := Op.load 3 (Operand.tmp 31), type := 3, pos := "isa.go:110", after := #[eD 2], guard := none }) (v := ?_) rfl (by kernel_rfl) (by kernel_rfl) (by kernel_rfl) (fun _ _ _ h => h) (Or.inl ⟨rfl, ?_⟩) hHeld ?_
  rotate_left
  · (intro w hSw; (try dsimp only at hSw); go_simp; try with_reducible rfl)
  try simp only [Act.put, List.setIfInBounds_toArray, List.set_cons_zero, List.set_cons_succ]
  refine wpAnyH_take (i := 4) (oi := { dst := some 33, op := Op.binOp BinOp.eql 3 (Operand.tmp 32) (Operand.const (Value.int IntKind.i64 4)) 3, type := 4, pos := "isa.go:110", after := #[eD 3], guard := none }) (v := ?_) rfl (by kernel_rfl) (by kernel_rfl) (by kernel_rfl) (fun _ _ _ h => h) (Or.inl ⟨rfl, ?_⟩) hHeld ?_
  rotate_left
  · (intro w hSw; (try dsimp only at hSw); go_simp; try with_reducible rfl)
  try simp only [Act.put, List.setIfInBounds_toArray, List.set_cons_zero, List.set_cons_succ]
  refine wpAnyH_take (i := 7) (oi := { dst := some 36, op := Op.fieldAddr 23 (Operand.tmp 1) 2, type := 0, pos := "isa.go:110", after := #[], guard := none }) (v := ?_) rfl (by kernel_rfl) (by kernel_rfl) (by kernel_rfl) (fun _ _ _ h => h) (Or.inl ⟨rfl, ?_⟩) hHeld ?_
  rotate_left
  · (intro w hSw; (try dsimp only at hSw); go_simp; try with_reducible rfl)
  try simp only [Act.put, List.setIfInBounds_toArray, List.set_cons_zero, List.set_cons_succ]
  refine wpAnyH_take (i := 8) (oi := { dst := some 37, op := Op.load 3 (Operand.tmp 36), type := 3, pos := "isa.go:110", after := #[eD 7], guard := none }) (v := ?_) rfl (by kernel_rfl) (by kernel_rfl) (by kernel_rfl) (fun _ _ _ h => h) (Or.inl ⟨rfl, ?_⟩) hHeld ?_
  rotate_left
  · (intro w hSw; (try dsimp only at hSw); go_simp; try with_reducible rfl)
  try simp only [Act.put, List.setIfInBounds_toArray, List.set_cons_zero, List.set_cons_succ]
  refine wpAnyH_take (i := 9) (oi := { dst := some 38, op := Op.build 86 #[(0, Operand.const (Value.int IntKind.i64 24)), (1, Operand.const (Value.int IntKind.i64 4)), (2, Operand.tmp 37)], type := 86, pos := "isa.go:110", after := #[eD 8], guard := none }) (v := ?_) rfl (by kernel_rfl) (by kernel_rfl) (by kernel_rfl) (fun _ _ _ h => h) (Or.inl ⟨rfl, ?_⟩) hHeld ?_
  rotate_left
  · (intro w hSw; (try dsimp only at hSw); go_simp; try with_reducible rfl)
  try simp only [Act.put, List.setIfInBounds_toArray, List.set_cons_zero, List.set_cons_succ]
  refine wpAnyH_ready (rs := [5]) (by kernel_rfl) (by simp) ?_
  refine AllReadyH.cons (o := { dst := some 34, op := Op.call { callee := Callee.value (Operand.func 36), args := #[Operand.tmp 33], argTypes := #[4] }, type := 3, pos := "isa.go:110", after := #[eD 4], guard := none }) rfl (fun K hK => ?_) AllReadyH.nil
  go_simp
  go_at_call 36
  refine (bit_any _ _).mono ?_
  rintro e w6 ⟨rfl, rfl⟩
  clear hHeld
  refine hK.out _ _ ?_ (fun hHeld => ?_)
  · exact (HX1.out.kept hK0.drew).cells
  clear hK K
  try simp only [Act.put, List.setIfInBounds_toArray, List.set_cons_zero, List.set_cons_succ]
  refine wpAnyH_take (i := 6) (oi := { dst := some 35, op := Op.build 86 #[(0, Operand.const (Value.int IntKind.i64 28)), (1, Operand.const (Value.int IntKind.i64 1)), (2, Operand.tmp 34)], type := 86, pos := "isa.go:110", after := #[eD 5], guard := none }) (v := ?_) rfl (by kernel_rfl) (by kernel_rfl) (by kernel_rfl) (fun _ _ _ h => h) (Or.inl ⟨rfl, ?_⟩) hHeld ?_
  rotate_left
  · (intro w hSw; (try dsimp only at hSw); go_simp; try with_reducible rfl)
  try simp only [Act.put, List.setIfInBounds_toArray, List.set_cons_zero, List.set_cons_succ]
  refine wpAnyH_ready (rs := [10]) (by kernel_rfl) (by simp) ?_
  refine AllReadyH.cons (o := { dst := some 39, op := Op.buildSlice 97 4 #[(0, Operand.tmp 29), (1, Operand.tmp 30), (2, Operand.tmp 35), (3, Operand.tmp 38)], type := 97, pos := "isa.go:110", after := #[eD 0, eD 1, eD 6, eD 9], guard := none }) rfl (fun K hK => ?_) AllReadyH.nil
  go_simp
  clear hHeld
  refine hK.out _ _ ?_ (fun hHeld => ?_)
  · exact (HX1.out.kept HBB.out).cells
  clear hK K
  try simp only [Act.put, List.setIfInBounds_toArray, List.set_cons_zero, List.set_cons_succ]
  refine wpAnyH_ready (rs := [11]) (by kernel_rfl) (by simp) ?_
  refine AllReadyH.cons (o := { dst := some 40, op := Op.call { callee := Callee.value (Operand.func 35), args := #[Operand.tmp 39], argTypes := #[97] }, type := 24, pos := "isa.go:110", after := #[eD 10, eC 5], guard := none }) rfl (fun K hK => ?_) AllReadyH.nil
  go_simp
  go_at_call 35
  refine (joined_3 op a b c i u _ _ HW.out r HR.out).mono ?_
  rintro e w7 ⟨rfl, hK5⟩
  clear hHeld
  refine hK.out _ _ ?_ (fun hHeld => ?_)
  · exact ((HX1.out.kept HBB.out).kept hK5).cells
  clear hK K
  try simp only [Act.put, List.setIfInBounds_toArray, List.set_cons_zero, List.set_cons_succ]
  refine wpAnyH_take (i := 12) (oi := { dst := some 2, op := Op.assign (Operand.tmp 40), type := 24, pos := "isa.go:110", after := #[eD 11, eC 11, eP 0, eP 1, eP 2, eP 3, eP 4, eP 5, eP 6, eP 7, eP 8, eP 9, eP 10, eP 11], guard := none }) (v := ?_) rfl (by kernel_rfl) (by kernel_rfl) (by kernel_rfl) (fun _ _ _ h => h) (Or.inl ⟨rfl, ?_⟩) hHeld ?_
  rotate_left
  · (intro w hSw; (try dsimp only at hSw); go_simp; try with_reducible rfl)
  try simp only [Act.put, List.setIfInBounds_toArray, List.set_cons_zero, List.set_cons_succ]
  refine wpAnyH_done (by kernel_rfl) ?_ _
  go_wp2_with fail
  go_ret
  exact ⟨rfl, (HB.out.trans HBB.out).trans hK5⟩
set_option maxHeartbeats 2000000 in
theorem wordOf_4 (op a b c i r : Int) (u : Bool) (HR : Hid (I.join (fun j => ([30, 29, 28, 24] : List Int).getD j 0) (fun j => ([2, 1, 1, 4] : List Int).getD j 0) (fun j => ([0, 1, I.bit true, a] : List Int).getD j 0) 4 = r)) (w : World) :
    Calls Try.prog 23 #[.agg #[.int .i64 4, .int .i64 op, .int .i64 a, .int .i64 b, .int .i64 c, .int .i64 i, .bool u]] w fun e w' => e = .returned (.int .u32 r) ∧ Kept w w' := by
  have hK0 := Kept.refl (w.alloc (.cells #[.int .i64 4, .int .i64 op, .int .i64 a, .int .i64 b, .int .i64 c, .int .i64 i, .bool u] 23))
  have X1 := Box.new 4 op a b c i u w
  have hB := show Kept w (w.alloc (.cells #[.int .i64 4, .int .i64 op, .int .i64 a, .int .i64 b, .int .i64 c, .int .i64 i, .bool u] 23)) from (Kept.refl w).alloc _ _
  go_enter Try.func23, Try.ntmps23
  go_wp2_with fail
  generalize (w.alloc (.cells #[.int .i64 4, .int .i64 op, .int .i64 a, .int .i64 b, .int .i64 c, .int .i64 i, .bool u] 23)) = wB at hK0 hB X1
  have HB := Lib.hid hB
  have HX1 := Lib.hid X1
  have HW := Lib.hid (show (wB.drew.alloc (.cells #[.int .i64 (30), .int .i64 (2), .int .i64 (0), .int .i64 (29), .int .i64 (1), .int .i64 (1), .int .i64 (28), .int .i64 (1), .int .i64 (I.bit true), .int .i64 (24), .int .i64 (4), .int .i64 (a)] 86)).heap[wB.heap.size]? = some _ from heap_alloc_last wB.drew _)
  have HBB := Lib.hid (show Kept wB (wB.drew.alloc (.cells #[.int .i64 (30), .int .i64 (2), .int .i64 (0), .int .i64 (29), .int .i64 (1), .int .i64 (1), .int .i64 (28), .int .i64 (1), .int .i64 (I.bit true), .int .i64 (24), .int .i64 (4), .int .i64 (a)] 86)) from ((Kept.refl wB).drew).alloc _ _)
  clear hB X1
  refine wp_region_held_drew (S := fun w' => w'.cell? ⟨w.heap.size, 0, none⟩ = some (.int .i64 4) ∧ w'.cell? ⟨w.heap.size, 1, none⟩ = some (.int .i64 op) ∧ w'.cell? ⟨w.heap.size, 2, none⟩ = some (.int .i64 a) ∧ w'.cell? ⟨w.heap.size, 3, none⟩ = some (.int .i64 b) ∧ w'.cell? ⟨w.heap.size, 4, none⟩ = some (.int .i64 c) ∧ w'.cell? ⟨w.heap.size, 5, none⟩ = some (.int .i64 i) ∧ w'.cell? ⟨w.heap.size, 6, none⟩ = some (.bool u)) (by kernel_rfl) ?_ (fun hHeld => ?_)
  · exact (HX1.out.kept hK0.drew).cells
  refine wpAnyH_take (i := 0) (oi := { dst := some 29, op := Op.build 86 #[(0, Operand.const (Value.int IntKind.i64 30)), (1, Operand.const (Value.int IntKind.i64 2)), (2, Operand.const (Value.int IntKind.i64 0))], type := 86, pos := "isa.go:110", after := #[], guard := none }) (v := ?_) rfl (by kernel_rfl) (by kernel_rfl) (by kernel_rfl) (fun _ _ _ h => h) (Or.inl ⟨rfl, ?_⟩) hHeld ?_
  rotate_left
  · (intro w hSw; (try dsimp only at hSw); go_simp; try with_reducible rfl)
  try simp only [Act.put, List.setIfInBounds_toArray, List.set_cons_zero, List.set_cons_succ]
  refine wpAnyH_take (i := 1) (oi := { dst := some 30, op := Op.build 86 #[(0, Operand.const (Value.int IntKind.i64 29)), (1, Operand.const (Value.int IntKind.i64 1)), (2, Operand.const (Value.int IntKind.i64 1))], type := 86, pos := "isa.go:110", after := #[], guard := none }) (v := ?_) rfl (by kernel_rfl) (by kernel_rfl) (by kernel_rfl) (fun _ _ _ h => h) (Or.inl ⟨rfl, ?_⟩) hHeld ?_
  rotate_left
  · (intro w hSw; (try dsimp only at hSw); go_simp; try with_reducible rfl)
  try simp only [Act.put, List.setIfInBounds_toArray, List.set_cons_zero, List.set_cons_succ]
  refine wpAnyH_take (i := 2) (oi := { dst := some 31, op := Op.fieldAddr 23 (Operand.tmp 1) 0, type := 0, pos := "isa.go:110", after := #[], guard := none }) (v := ?_) rfl (by kernel_rfl) (by kernel_rfl) (by kernel_rfl) (fun _ _ _ h => h) (Or.inl ⟨rfl, ?_⟩) hHeld ?_
  rotate_left
  · (intro w hSw; (try dsimp only at hSw); go_simp; try with_reducible rfl)
  try simp only [Act.put, List.setIfInBounds_toArray, List.set_cons_zero, List.set_cons_succ]
  refine wpAnyH_take (i := 3) (oi := { dst := some 32, op := Op.load 3 (Operand.tmp 31), type := 3, pos := "isa.go:110", after := #[eD 2], guard := none }) (v := ?_) rfl (by kernel_rfl) (by kernel_rfl) (by kernel_rfl) (fun _ _ _ h => h) (Or.inl ⟨rfl, ?_⟩) hHeld ?_
  rotate_left
  · (intro w hSw; (try dsimp only at hSw); go_simp; try with_reducible rfl)
  try simp only [Act.put, List.setIfInBounds_toArray, List.set_cons_zero, List.set_cons_succ]
  refine wpAnyH_take (i := 4) (oi := { dst := some 33, op := Op.binOp BinOp.eql 3 (Operand.tmp 32) (Operand.const (Value.int IntKind.i64 4)) 3, type := 4, pos := "isa.go:110", after := #[eD 3], guard := none }) (v := ?_) rfl (by kernel_rfl) (by kernel_rfl) (by kernel_rfl) (fun _ _ _ h => h) (Or.inl ⟨rfl, ?_⟩) hHeld ?_
  rotate_left
  · (intro w hSw; (try dsimp only at hSw); go_simp; try with_reducible rfl)
  try simp only [Act.put, List.setIfInBounds_toArray, List.set_cons_zero, List.set_cons_succ]
  refine wpAnyH_take (i := 7) (oi := { dst := some 36, op := Op.fieldAddr 23 (Operand.tmp 1) 2, type := 0, pos := "isa.go:110", after := #[], guard := none }) (v := ?_) rfl (by kernel_rfl) (by kernel_rfl) (by kernel_rfl) (fun _ _ _ h => h) (Or.inl ⟨rfl, ?_⟩) hHeld ?_
  rotate_left
  · (intro w hSw; (try dsimp only at hSw); go_simp; try with_reducible rfl)
  try simp only [Act.put, List.setIfInBounds_toArray, List.set_cons_zero, List.set_cons_succ]
  refine wpAnyH_take (i := 8) (oi := { dst := some 37, op := Op.load 3 (Operand.tmp 36), type := 3, pos := "isa.go:110", after := #[eD 7], guard := none }) (v := ?_) rfl (by kernel_rfl) (by kernel_rfl) (by kernel_rfl) (fun _ _ _ h => h) (Or.inl ⟨rfl, ?_⟩) hHeld ?_
  rotate_left
  · (intro w hSw; (try dsimp only at hSw); go_simp; try with_reducible rfl)
  try simp only [Act.put, List.setIfInBounds_toArray, List.set_cons_zero, List.set_cons_succ]
  refine wpAnyH_take (i := 9) (oi := { dst := some 38, op := Op.build 86 #[(0, Operand.const (Value.int IntKind.i64 24)), (1, Operand.const (Value.int IntKind.i64 4)), (2, Operand.tmp 37)], type := 86, pos := "isa.go:110", after := #[eD 8], guard := none }) (v := ?_) rfl (by kernel_rfl) (by kernel_rfl) (by kernel_rfl) (fun _ _ _ h => h) (Or.inl ⟨rfl, ?_⟩) hHeld ?_
  rotate_left
  · (intro w hSw; (try dsimp only at hSw); go_simp; try with_reducible rfl)
  try simp only [Act.put, List.setIfInBounds_toArray, List.set_cons_zero, List.set_cons_succ]
  refine wpAnyH_ready (rs := [5]) (by kernel_rfl) (by simp) ?_
  refine AllReadyH.cons (o := { dst := some 34, op := Op.call { callee := Callee.value (Operand.func 36), args := #[Operand.tmp 33], argTypes := #[4] }, type := 3, pos := "isa.go:110", after := #[eD 4], guard := none }) rfl (fun K hK => ?_) AllReadyH.nil
  go_simp
  go_at_call 36
  refine (bit_any _ _).mono ?_
  rintro e w6 ⟨rfl, rfl⟩
  clear hHeld
  refine hK.out _ _ ?_ (fun hHeld => ?_)
  · exact (HX1.out.kept hK0.drew).cells
  clear hK K
  try simp only [Act.put, List.setIfInBounds_toArray, List.set_cons_zero, List.set_cons_succ]
  refine wpAnyH_take (i := 6) (oi := { dst := some 35, op := Op.build 86 #[(0, Operand.const (Value.int IntKind.i64 28)), (1, Operand.const (Value.int IntKind.i64 1)), (2, Operand.tmp 34)], type := 86, pos := "isa.go:110", after := #[eD 5], guard := none }) (v := ?_) rfl (by kernel_rfl) (by kernel_rfl) (by kernel_rfl) (fun _ _ _ h => h) (Or.inl ⟨rfl, ?_⟩) hHeld ?_
  rotate_left
  · (intro w hSw; (try dsimp only at hSw); go_simp; try with_reducible rfl)
  try simp only [Act.put, List.setIfInBounds_toArray, List.set_cons_zero, List.set_cons_succ]
  refine wpAnyH_ready (rs := [10]) (by kernel_rfl) (by simp) ?_
  refine AllReadyH.cons (o := { dst := some 39, op := Op.buildSlice 97 4 #[(0, Operand.tmp 29), (1, Operand.tmp 30), (2, Operand.tmp 35), (3, Operand.tmp 38)], type := 97, pos := "isa.go:110", after := #[eD 0, eD 1, eD 6, eD 9], guard := none }) rfl (fun K hK => ?_) AllReadyH.nil
  go_simp
  clear hHeld
  refine hK.out _ _ ?_ (fun hHeld => ?_)
  · exact (HX1.out.kept HBB.out).cells
  clear hK K
  try simp only [Act.put, List.setIfInBounds_toArray, List.set_cons_zero, List.set_cons_succ]
  refine wpAnyH_ready (rs := [11]) (by kernel_rfl) (by simp) ?_
  refine AllReadyH.cons (o := { dst := some 40, op := Op.call { callee := Callee.value (Operand.func 35), args := #[Operand.tmp 39], argTypes := #[97] }, type := 24, pos := "isa.go:110", after := #[eD 10, eC 5], guard := none }) rfl (fun K hK => ?_) AllReadyH.nil
  go_simp
  go_at_call 35
  refine (joined_4 op a b c i u _ _ HW.out r HR.out).mono ?_
  rintro e w7 ⟨rfl, hK5⟩
  clear hHeld
  refine hK.out _ _ ?_ (fun hHeld => ?_)
  · exact ((HX1.out.kept HBB.out).kept hK5).cells
  clear hK K
  try simp only [Act.put, List.setIfInBounds_toArray, List.set_cons_zero, List.set_cons_succ]
  refine wpAnyH_take (i := 12) (oi := { dst := some 2, op := Op.assign (Operand.tmp 40), type := 24, pos := "isa.go:110", after := #[eD 11, eC 11, eP 0, eP 1, eP 2, eP 3, eP 4, eP 5, eP 6, eP 7, eP 8, eP 9, eP 10, eP 11], guard := none }) (v := ?_) rfl (by kernel_rfl) (by kernel_rfl) (by kernel_rfl) (fun _ _ _ h => h) (Or.inl ⟨rfl, ?_⟩) hHeld ?_
  rotate_left
  · (intro w hSw; (try dsimp only at hSw); go_simp; try with_reducible rfl)
  try simp only [Act.put, List.setIfInBounds_toArray, List.set_cons_zero, List.set_cons_succ]
  refine wpAnyH_done (by kernel_rfl) ?_ _
  go_wp2_with fail
  go_ret
  exact ⟨rfl, (HB.out.trans HBB.out).trans hK5⟩
set_option maxHeartbeats 2000000 in
theorem wordOf_5 (op a b c i r : Int) (u : Bool) (HR : Hid (I.join (fun j => ([30, 28, 24, 20, 0] : List Int).getD j 0) (fun j => ([2, 2, 4, 4, 20] : List Int).getD j 0) (fun j => ([2, op, a, b, i] : List Int).getD j 0) 5 = r)) (w : World) :
    Calls Try.prog 23 #[.agg #[.int .i64 5, .int .i64 op, .int .i64 a, .int .i64 b, .int .i64 c, .int .i64 i, .bool u]] w fun e w' => e = .returned (.int .u32 r) ∧ Kept w w' := by
  have HW := Lib.hid (show ((w.alloc (.cells #[.int .i64 5, .int .i64 op, .int .i64 a, .int .i64 b, .int .i64 c, .int .i64 i, .bool u] 23)).alloc (.cells #[.int .i64 (30), .int .i64 (2), .int .i64 (2), .int .i64 (28), .int .i64 (2), .int .i64 (op), .int .i64 (24), .int .i64 (4), .int .i64 (a), .int .i64 (20), .int .i64 (4), .int .i64 (b), .int .i64 (0), .int .i64 (20), .int .i64 (i)] 86)).heap[w.heap.size + 1]? = some _ from size_alloc1 w (.cells #[.int .i64 5, .int .i64 op, .int .i64 a, .int .i64 b, .int .i64 c, .int .i64 i, .bool u] 23) ▸ heap_alloc_last _ _)
  have HB := Lib.hid (show Kept w ((w.alloc (.cells #[.int .i64 5, .int .i64 op, .int .i64 a, .int .i64 b, .int .i64 c, .int .i64 i, .bool u] 23)).alloc (.cells #[.int .i64 (30), .int .i64 (2), .int .i64 (2), .int .i64 (28), .int .i64 (2), .int .i64 (op), .int .i64 (24), .int .i64 (4), .int .i64 (a), .int .i64 (20), .int .i64 (4), .int .i64 (b), .int .i64 (0), .int .i64 (20), .int .i64 (i)] 86)) from ((Kept.refl w).alloc _ _).alloc _ _)
  go_enter Try.func23, Try.ntmps23
  go_wp2_with fail
  refine (joined_5 op a b c i u _ _ HW.out r HR.out).mono ?_
  rintro e w7 ⟨rfl, hK5⟩
  go_wp2_with fail
  go_ret
  exact ⟨rfl, HB.out.trans hK5⟩
set_option maxHeartbeats 2000000 in
theorem wordOf_6 (op a b c i r : Int) (u : Bool) (HR : Hid (I.join (fun j => ([30, 28, 24, 0] : List Int).getD j 0) (fun j => ([2, 1, 4, 4] : List Int).getD j 0) (fun j => ([3, I.bit u, op, c] : List Int).getD j 0) 4 = r)) (w : World) :
    Calls Try.prog 23 #[.agg #[.int .i64 6, .int .i64 op, .int .i64 a, .int .i64 b, .int .i64 c, .int .i64 i, .bool u]] w fun e w' => e = .returned (.int .u32 r) ∧ Kept w w' := by
  have hK0 := Kept.refl (w.alloc (.cells #[.int .i64 6, .int .i64 op, .int .i64 a, .int .i64 b, .int .i64 c, .int .i64 i, .bool u] 23))
  have X1 := Box.new 6 op a b c i u w
  have hB := show Kept w (w.alloc (.cells #[.int .i64 6, .int .i64 op, .int .i64 a, .int .i64 b, .int .i64 c, .int .i64 i, .bool u] 23)) from (Kept.refl w).alloc _ _
  go_enter Try.func23, Try.ntmps23
  go_wp2_with fail
  generalize (w.alloc (.cells #[.int .i64 6, .int .i64 op, .int .i64 a, .int .i64 b, .int .i64 c, .int .i64 i, .bool u] 23)) = wB at hK0 hB X1
  have HB := Lib.hid hB
  have HX1 := Lib.hid X1
  have HW := Lib.hid (show (wB.drew.alloc (.cells #[.int .i64 (30), .int .i64 (2), .int .i64 (3), .int .i64 (28), .int .i64 (1), .int .i64 (I.bit u), .int .i64 (24), .int .i64 (4), .int .i64 (op), .int .i64 (0), .int .i64 (4), .int .i64 (c)] 86)).heap[wB.heap.size]? = some _ from heap_alloc_last wB.drew _)
  have HBB := Lib.hid (show Kept wB (wB.drew.alloc (.cells #[.int .i64 (30), .int .i64 (2), .int .i64 (3), .int .i64 (28), .int .i64 (1), .int .i64 (I.bit u), .int .i64 (24), .int .i64 (4), .int .i64 (op), .int .i64 (0), .int .i64 (4), .int .i64 (c)] 86)) from ((Kept.refl wB).drew).alloc _ _)
  clear hB X1
  refine wp_region_held_drew (S := fun w' => w'.cell? ⟨w.heap.size, 0, none⟩ = some (.int .i64 6) ∧ w'.cell? ⟨w.heap.size, 1, none⟩ = some (.int .i64 op) ∧ w'.cell? ⟨w.heap.size, 2, none⟩ = some (.int .i64 a) ∧ w'.cell? ⟨w.heap.size, 3, none⟩ = some (.int .i64 b) ∧ w'.cell? ⟨w.heap.size, 4, none⟩ = some (.int .i64 c) ∧ w'.cell? ⟨w.heap.size, 5, none⟩ = some (.int .i64 i) ∧ w'.cell? ⟨w.heap.size, 6, none⟩ = some (.bool u)) (by kernel_rfl) ?_ (fun hHeld => ?_)
  · exact (HX1.out.kept hK0.drew).cells
  refine wpAnyH_take (i := 0) (oi := { dst := some 86, op := Op.build 86 #[(0, Operand.const (Value.int IntKind.i64 30)), (1, Operand.const (Value.int IntKind.i64 2)), (2, Operand.const (Value.int IntKind.i64 3))], type := 86, pos := "isa.go:117", after := #[], guard := none }) (v := ?_) rfl (by kernel_rfl) (by kernel_rfl) (by kernel_rfl) (fun _ _ _ h => h) (Or.inl ⟨rfl, ?_⟩) hHeld ?_
  rotate_left
  · (intro w hSw; (try dsimp only at hSw); go_simp; try with_reducible rfl)
  try simp only [Act.put, List.setIfInBounds_toArray, List.set_cons_zero, List.set_cons_succ]
  refine wpAnyH_take (i := 1) (oi := { dst := some 87, op := Op.fieldAddr 23 (Operand.tmp 1) 6, type := 0, pos := "isa.go:117", after := #[], guard := none }) (v := ?_) rfl (by kernel_rfl) (by kernel_rfl) (by kernel_rfl) (fun _ _ _ h => h) (Or.inl ⟨rfl, ?_⟩) hHeld ?_
  rotate_left
  · (intro w hSw; (try dsimp only at hSw); go_simp; try with_reducible rfl)
  try simp only [Act.put, List.setIfInBounds_toArray, List.set_cons_zero, List.set_cons_succ]
  refine wpAnyH_take (i := 2) (oi := { dst := some 88, op := Op.load 4 (Operand.tmp 87), type := 4, pos := "isa.go:117", after := #[eD 1], guard := none }) (v := ?_) rfl (by kernel_rfl) (by kernel_rfl) (by kernel_rfl) (fun _ _ _ h => h) (Or.inl ⟨rfl, ?_⟩) hHeld ?_
  rotate_left
  · (intro w hSw; (try dsimp only at hSw); go_simp; try with_reducible rfl)
  try simp only [Act.put, List.setIfInBounds_toArray, List.set_cons_zero, List.set_cons_succ]
  refine wpAnyH_take (i := 5) (oi := { dst := some 91, op := Op.fieldAddr 23 (Operand.tmp 1) 1, type := 0, pos := "isa.go:117", after := #[], guard := none }) (v := ?_) rfl (by kernel_rfl) (by kernel_rfl) (by kernel_rfl) (fun _ _ _ h => h) (Or.inl ⟨rfl, ?_⟩) hHeld ?_
  rotate_left
  · (intro w hSw; (try dsimp only at hSw); go_simp; try with_reducible rfl)
  try simp only [Act.put, List.setIfInBounds_toArray, List.set_cons_zero, List.set_cons_succ]
  refine wpAnyH_take (i := 6) (oi := { dst := some 92, op := Op.load 3 (Operand.tmp 91), type := 3, pos := "isa.go:117", after := #[eD 5], guard := none }) (v := ?_) rfl (by kernel_rfl) (by kernel_rfl) (by kernel_rfl) (fun _ _ _ h => h) (Or.inl ⟨rfl, ?_⟩) hHeld ?_
  rotate_left
  · (intro w hSw; (try dsimp only at hSw); go_simp; try with_reducible rfl)
  try simp only [Act.put, List.setIfInBounds_toArray, List.set_cons_zero, List.set_cons_succ]
  refine wpAnyH_take (i := 7) (oi := { dst := some 93, op := Op.build 86 #[(0, Operand.const (Value.int IntKind.i64 24)), (1, Operand.const (Value.int IntKind.i64 4)), (2, Operand.tmp 92)], type := 86, pos := "isa.go:117", after := #[eD 6], guard := none }) (v := ?_) rfl (by kernel_rfl) (by kernel_rfl) (by kernel_rfl) (fun _ _ _ h => h) (Or.inl ⟨rfl, ?_⟩) hHeld ?_
  rotate_left
  · (intro w hSw; (try dsimp only at hSw); go_simp; try with_reducible rfl)
  try simp only [Act.put, List.setIfInBounds_toArray, List.set_cons_zero, List.set_cons_succ]
  refine wpAnyH_take (i := 8) (oi := { dst := some 94, op := Op.fieldAddr 23 (Operand.tmp 1) 4, type := 0, pos := "isa.go:117", after := #[], guard := none }) (v := ?_) rfl (by kernel_rfl) (by kernel_rfl) (by kernel_rfl) (fun _ _ _ h => h) (Or.inl ⟨rfl, ?_⟩) hHeld ?_
  rotate_left
  · (intro w hSw; (try dsimp only at hSw); go_simp; try with_reducible rfl)
  try simp only [Act.put, List.setIfInBounds_toArray, List.set_cons_zero, List.set_cons_succ]
  refine wpAnyH_take (i := 9) (oi := { dst := some 95, op := Op.load 3 (Operand.tmp 94), type := 3, pos := "isa.go:117", after := #[eD 8], guard := none }) (v := ?_) rfl (by kernel_rfl) (by kernel_rfl) (by kernel_rfl) (fun _ _ _ h => h) (Or.inl ⟨rfl, ?_⟩) hHeld ?_
  rotate_left
  · (intro w hSw; (try dsimp only at hSw); go_simp; try with_reducible rfl)
  try simp only [Act.put, List.setIfInBounds_toArray, List.set_cons_zero, List.set_cons_succ]
  refine wpAnyH_take (i := 10) (oi := { dst := some 96, op := Op.build 86 #[(0, Operand.const (Value.int IntKind.i64 0)), (1, Operand.const (Value.int IntKind.i64 4)), (2, Operand.tmp 95)], type := 86, pos := "isa.go:117", after := #[eD 9], guard := none }) (v := ?_) rfl (by kernel_rfl) (by kernel_rfl) (by kernel_rfl) (fun _ _ _ h => h) (Or.inl ⟨rfl, ?_⟩) hHeld ?_
  rotate_left
  · (intro w hSw; (try dsimp only at hSw); go_simp; try with_reducible rfl)
  try simp only [Act.put, List.setIfInBounds_toArray, List.set_cons_zero, List.set_cons_succ]
  refine wpAnyH_ready (rs := [3]) (by kernel_rfl) (by simp) ?_
  refine AllReadyH.cons (o := { dst := some 89, op := Op.call { callee := Callee.value (Operand.func 36), args := #[Operand.tmp 88], argTypes := #[4] }, type := 3, pos := "isa.go:117", after := #[eD 2], guard := none }) rfl (fun K hK => ?_) AllReadyH.nil
  go_simp
  go_at_call 36
  refine (bit_any _ _).mono ?_
  rintro e w6 ⟨rfl, rfl⟩
  clear hHeld
  refine hK.out _ _ ?_ (fun hHeld => ?_)
  · exact (HX1.out.kept hK0.drew).cells
  clear hK K
  try simp only [Act.put, List.setIfInBounds_toArray, List.set_cons_zero, List.set_cons_succ]
  refine wpAnyH_take (i := 4) (oi := { dst := some 90, op := Op.build 86 #[(0, Operand.const (Value.int IntKind.i64 28)), (1, Operand.const (Value.int IntKind.i64 1)), (2, Operand.tmp 89)], type := 86, pos := "isa.go:117", after := #[eD 3], guard := none }) (v := ?_) rfl (by kernel_rfl) (by kernel_rfl) (by kernel_rfl) (fun _ _ _ h => h) (Or.inl ⟨rfl, ?_⟩) hHeld ?_
  rotate_left
  · (intro w hSw; (try dsimp only at hSw); go_simp; try with_reducible rfl)
  try simp only [Act.put, List.setIfInBounds_toArray, List.set_cons_zero, List.set_cons_succ]
  refine wpAnyH_ready (rs := [11]) (by kernel_rfl) (by simp) ?_
  refine AllReadyH.cons (o := { dst := some 97, op := Op.buildSlice 97 4 #[(0, Operand.tmp 86), (1, Operand.tmp 90), (2, Operand.tmp 93), (3, Operand.tmp 96)], type := 97, pos := "isa.go:117", after := #[eD 0, eD 4, eD 7, eD 10], guard := none }) rfl (fun K hK => ?_) AllReadyH.nil
  go_simp
  clear hHeld
  refine hK.out _ _ ?_ (fun hHeld => ?_)
  · exact (HX1.out.kept HBB.out).cells
  clear hK K
  try simp only [Act.put, List.setIfInBounds_toArray, List.set_cons_zero, List.set_cons_succ]
  refine wpAnyH_ready (rs := [12]) (by kernel_rfl) (by simp) ?_
  refine AllReadyH.cons (o := { dst := some 98, op := Op.call { callee := Callee.value (Operand.func 35), args := #[Operand.tmp 97], argTypes := #[97] }, type := 24, pos := "isa.go:117", after := #[eD 11, eC 3], guard := none }) rfl (fun K hK => ?_) AllReadyH.nil
  go_simp
  go_at_call 35
  refine (joined_6 op a b c i u _ _ HW.out r HR.out).mono ?_
  rintro e w7 ⟨rfl, hK5⟩
  clear hHeld
  refine hK.out _ _ ?_ (fun hHeld => ?_)
  · exact ((HX1.out.kept HBB.out).kept hK5).cells
  clear hK K
  try simp only [Act.put, List.setIfInBounds_toArray, List.set_cons_zero, List.set_cons_succ]
  refine wpAnyH_take (i := 13) (oi := { dst := some 2, op := Op.assign (Operand.tmp 98), type := 24, pos := "isa.go:117", after := #[eD 12, eC 12, eP 0, eP 1, eP 2, eP 3, eP 4, eP 5, eP 6, eP 7, eP 8, eP 9, eP 10, eP 11, eP 12], guard := none }) (v := ?_) rfl (by kernel_rfl) (by kernel_rfl) (by kernel_rfl) (fun _ _ _ h => h) (Or.inl ⟨rfl, ?_⟩) hHeld ?_
  rotate_left
  · (intro w hSw; (try dsimp only at hSw); go_simp; try with_reducible rfl)
  try simp only [Act.put, List.setIfInBounds_toArray, List.set_cons_zero, List.set_cons_succ]
  refine wpAnyH_done (by kernel_rfl) ?_ _
  go_wp2_with fail
  go_ret
  exact ⟨rfl, (HB.out.trans HBB.out).trans hK5⟩
set_option maxHeartbeats 2000000 in
theorem wordOf_7 (op a b c i r : Int) (u : Bool) (HR : Hid (I.join (fun j => ([30, 29, 28, 24, 0] : List Int).getD j 0) (fun j => ([2, 1, 1, 4, 24] : List Int).getD j 0) (fun j => ([3, 1, I.bit u, op, i] : List Int).getD j 0) 5 = r)) (w : World) :
    Calls Try.prog 23 #[.agg #[.int .i64 7, .int .i64 op, .int .i64 a, .int .i64 b, .int .i64 c, .int .i64 i, .bool u]] w fun e w' => e = .returned (.int .u32 r) ∧ Kept w w' := by
  have hK0 := Kept.refl (w.alloc (.cells #[.int .i64 7, .int .i64 op, .int .i64 a, .int .i64 b, .int .i64 c, .int .i64 i, .bool u] 23))
  have X1 := Box.new 7 op a b c i u w
  have hB := show Kept w (w.alloc (.cells #[.int .i64 7, .int .i64 op, .int .i64 a, .int .i64 b, .int .i64 c, .int .i64 i, .bool u] 23)) from (Kept.refl w).alloc _ _
  go_enter Try.func23, Try.ntmps23
  go_wp2_with fail
  generalize (w.alloc (.cells #[.int .i64 7, .int .i64 op, .int .i64 a, .int .i64 b, .int .i64 c, .int .i64 i, .bool u] 23)) = wB at hK0 hB X1
  have HB := Lib.hid hB
  have HX1 := Lib.hid X1
  have HW := Lib.hid (show (wB.drew.alloc (.cells #[.int .i64 (30), .int .i64 (2), .int .i64 (3), .int .i64 (29), .int .i64 (1), .int .i64 (1), .int .i64 (28), .int .i64 (1), .int .i64 (I.bit u), .int .i64 (24), .int .i64 (4), .int .i64 (op), .int .i64 (0), .int .i64 (24), .int .i64 (i)] 86)).heap[wB.heap.size]? = some _ from heap_alloc_last wB.drew _)
  have HBB := Lib.hid (show Kept wB (wB.drew.alloc (.cells #[.int .i64 (30), .int .i64 (2), .int .i64 (3), .int .i64 (29), .int .i64 (1), .int .i64 (1), .int .i64 (28), .int .i64 (1), .int .i64 (I.bit u), .int .i64 (24), .int .i64 (4), .int .i64 (op), .int .i64 (0), .int .i64 (24), .int .i64 (i)] 86)) from ((Kept.refl wB).drew).alloc _ _)
  clear hB X1
  refine wp_region_held_drew (S := fun w' => w'.cell? ⟨w.heap.size, 0, none⟩ = some (.int .i64 7) ∧ w'.cell? ⟨w.heap.size, 1, none⟩ = some (.int .i64 op) ∧ w'.cell? ⟨w.heap.size, 2, none⟩ = some (.int .i64 a) ∧ w'.cell? ⟨w.heap.size, 3, none⟩ = some (.int .i64 b) ∧ w'.cell? ⟨w.heap.size, 4, none⟩ = some (.int .i64 c) ∧ w'.cell? ⟨w.heap.size, 5, none⟩ = some (.int .i64 i) ∧ w'.cell? ⟨w.heap.size, 6, none⟩ = some (.bool u)) (by kernel_rfl) ?_ (fun hHeld => ?_)
  · exact (HX1.out.kept hK0.drew).cells
  refine wpAnyH_take (i := 0) (oi := { dst := some 99, op := Op.build 86 #[(0, Operand.const (Value.int IntKind.i64 30)), (1, Operand.const (Value.int IntKind.i64 2)), (2, Operand.const (Value.int IntKind.i64 3))], type := 86, pos := "isa.go:119", after := #[], guard := none }) (v := ?_) rfl (by kernel_rfl) (by kernel_rfl) (by kernel_rfl) (fun _ _ _ h => h) (Or.inl ⟨rfl, ?_⟩) hHeld ?_
  rotate_left
  · (intro w hSw; (try dsimp only at hSw); go_simp; try with_reducible rfl)
  try simp only [Act.put, List.setIfInBounds_toArray, List.set_cons_zero, List.set_cons_succ]
  refine wpAnyH_take (i := 1) (oi := { dst := some 100, op := Op.build 86 #[(0, Operand.const (Value.int IntKind.i64 29)), (1, Operand.const (Value.int IntKind.i64 1)), (2, Operand.const (Value.int IntKind.i64 1))], type := 86, pos := "isa.go:119", after := #[], guard := none }) (v := ?_) rfl (by kernel_rfl) (by kernel_rfl) (by kernel_rfl) (fun _ _ _ h => h) (Or.inl ⟨rfl, ?_⟩) hHeld ?_
  rotate_left
  · (intro w hSw; (try dsimp only at hSw); go_simp; try with_reducible rfl)
  try simp only [Act.put, List.setIfInBounds_toArray, List.set_cons_zero, List.set_cons_succ]
  refine wpAnyH_take (i := 2) (oi := { dst := some 101, op := Op.fieldAddr 23 (Operand.tmp 1) 6, type := 0, pos := "isa.go:119", after := #[], guard := none }) (v := ?_) rfl (by kernel_rfl) (by kernel_rfl) (by kernel_rfl) (fun _ _ _ h => h) (Or.inl ⟨rfl, ?_⟩) hHeld ?_
  rotate_left
  · (intro w hSw; (try dsimp only at hSw); go_simp; try with_reducible rfl)
  try simp only [Act.put, List.setIfInBounds_toArray, List.set_cons_zero, List.set_cons_succ]
  refine wpAnyH_take (i := 3) (oi := { dst := some 102, op := Op.load 4 (Operand.tmp 101), type := 4, pos := "isa.go:119", after := #[eD 2], guard := none }) (v := ?_) rfl (by kernel_rfl) (by kernel_rfl) (by kernel_rfl) (fun _ _ _ h => h) (Or.inl ⟨rfl, ?_⟩) hHeld ?_
  rotate_left
  · (intro w hSw; (try dsimp only at hSw); go_simp; try with_reducible rfl)
  try simp only [Act.put, List.setIfInBounds_toArray, List.set_cons_zero, List.set_cons_succ]
  refine wpAnyH_take (i := 6) (oi := { dst := some 105, op := Op.fieldAddr 23 (Operand.tmp 1) 1, type := 0, pos := "isa.go:119", after := #[], guard := none }) (v := ?_) rfl (by kernel_rfl) (by kernel_rfl) (by kernel_rfl) (fun _ _ _ h => h) (Or.inl ⟨rfl, ?_⟩) hHeld ?_
  rotate_left
  · (intro w hSw; (try dsimp only at hSw); go_simp; try with_reducible rfl)
  try simp only [Act.put, List.setIfInBounds_toArray, List.set_cons_zero, List.set_cons_succ]
  refine wpAnyH_take (i := 7) (oi := { dst := some 106, op := Op.load 3 (Operand.tmp 105), type := 3, pos := "isa.go:119", after := #[eD 6], guard := none }) (v := ?_) rfl (by kernel_rfl) (by kernel_rfl) (by kernel_rfl) (fun _ _ _ h => h) (Or.inl ⟨rfl, ?_⟩) hHeld ?_
  rotate_left
  · (intro w hSw; (try dsimp only at hSw); go_simp; try with_reducible rfl)
  try simp only [Act.put, List.setIfInBounds_toArray, List.set_cons_zero, List.set_cons_succ]
  refine wpAnyH_take (i := 8) (oi := { dst := some 107, op := Op.build 86 #[(0, Operand.const (Value.int IntKind.i64 24)), (1, Operand.const (Value.int IntKind.i64 4)), (2, Operand.tmp 106)], type := 86, pos := "isa.go:119", after := #[eD 7], guard := none }) (v := ?_) rfl (by kernel_rfl) (by kernel_rfl) (by kernel_rfl) (fun _ _ _ h => h) (Or.inl ⟨rfl, ?_⟩) hHeld ?_
  rotate_left
  · (intro w hSw; (try dsimp only at hSw); go_simp; try with_reducible rfl)
  try simp only [Act.put, List.setIfInBounds_toArray, List.set_cons_zero, List.set_cons_succ]
  refine wpAnyH_take (i := 9) (oi := { dst := some 108, op := Op.fieldAddr 23 (Operand.tmp 1) 5, type := 0, pos := "isa.go:119", after := #[], guard := none }) (v := ?_) rfl (by kernel_rfl) (by kernel_rfl) (by kernel_rfl) (fun _ _ _ h => h) (Or.inl ⟨rfl, ?_⟩) hHeld ?_
  rotate_left
  · (intro w hSw; (try dsimp only at hSw); go_simp; try with_reducible rfl)
  try simp only [Act.put, List.setIfInBounds_toArray, List.set_cons_zero, List.set_cons_succ]
  refine wpAnyH_take (i := 10) (oi := { dst := some 109, op := Op.load 3 (Operand.tmp 108), type := 3, pos := "isa.go:119", after := #[eD 9], guard := none }) (v := ?_) rfl (by kernel_rfl) (by kernel_rfl) (by kernel_rfl) (fun _ _ _ h => h) (Or.inl ⟨rfl, ?_⟩) hHeld ?_
  rotate_left
  · (intro w hSw; (try dsimp only at hSw); go_simp; try with_reducible rfl)
  try simp only [Act.put, List.setIfInBounds_toArray, List.set_cons_zero, List.set_cons_succ]
  refine wpAnyH_take (i := 11) (oi := { dst := some 110, op := Op.build 86 #[(0, Operand.const (Value.int IntKind.i64 0)), (1, Operand.const (Value.int IntKind.i64 24)), (2, Operand.tmp 109)], type := 86, pos := "isa.go:119", after := #[eD 10], guard := none }) (v := ?_) rfl (by kernel_rfl) (by kernel_rfl) (by kernel_rfl) (fun _ _ _ h => h) (Or.inl ⟨rfl, ?_⟩) hHeld ?_
  rotate_left
  · (intro w hSw; (try dsimp only at hSw); go_simp; try with_reducible rfl)
  try simp only [Act.put, List.setIfInBounds_toArray, List.set_cons_zero, List.set_cons_succ]
  refine wpAnyH_ready (rs := [4]) (by kernel_rfl) (by simp) ?_
  refine AllReadyH.cons (o := { dst := some 103, op := Op.call { callee := Callee.value (Operand.func 36), args := #[Operand.tmp 102], argTypes := #[4] }, type := 3, pos := "isa.go:119", after := #[eD 3], guard := none }) rfl (fun K hK => ?_) AllReadyH.nil
  go_simp
  go_at_call 36
  refine (bit_any _ _).mono ?_
  rintro e w6 ⟨rfl, rfl⟩
  clear hHeld
  refine hK.out _ _ ?_ (fun hHeld => ?_)
  · exact (HX1.out.kept hK0.drew).cells
  clear hK K
  try simp only [Act.put, List.setIfInBounds_toArray, List.set_cons_zero, List.set_cons_succ]
  refine wpAnyH_take (i := 5) (oi := { dst := some 104, op := Op.build 86 #[(0, Operand.const (Value.int IntKind.i64 28)), (1, Operand.const (Value.int IntKind.i64 1)), (2, Operand.tmp 103)], type := 86, pos := "isa.go:119", after := #[eD 4], guard := none }) (v := ?_) rfl (by kernel_rfl) (by kernel_rfl) (by kernel_rfl) (fun _ _ _ h => h) (Or.inl ⟨rfl, ?_⟩) hHeld ?_
  rotate_left
  · (intro w hSw; (try dsimp only at hSw); go_simp; try with_reducible rfl)
  try simp only [Act.put, List.setIfInBounds_toArray, List.set_cons_zero, List.set_cons_succ]
  refine wpAnyH_ready (rs := [12]) (by kernel_rfl) (by simp) ?_
  refine AllReadyH.cons (o := { dst := some 111, op := Op.buildSlice 97 5 #[(0, Operand.tmp 99), (1, Operand.tmp 100), (2, Operand.tmp 104), (3, Operand.tmp 107), (4, Operand.tmp 110)], type := 97, pos := "isa.go:119", after := #[eD 0, eD 1, eD 5, eD 8, eD 11], guard := none }) rfl (fun K hK => ?_) AllReadyH.nil
  go_simp
  clear hHeld
  refine hK.out _ _ ?_ (fun hHeld => ?_)
  · exact (HX1.out.kept HBB.out).cells
  clear hK K
  try simp only [Act.put, List.setIfInBounds_toArray, List.set_cons_zero, List.set_cons_succ]
  refine wpAnyH_ready (rs := [13]) (by kernel_rfl) (by simp) ?_
  refine AllReadyH.cons (o := { dst := some 112, op := Op.call { callee := Callee.value (Operand.func 35), args := #[Operand.tmp 111], argTypes := #[97] }, type := 24, pos := "isa.go:119", after := #[eD 12, eC 4], guard := none }) rfl (fun K hK => ?_) AllReadyH.nil
  go_simp
  go_at_call 35
  refine (joined_7 op a b c i u _ _ HW.out r HR.out).mono ?_
  rintro e w7 ⟨rfl, hK5⟩
  clear hHeld
  refine hK.out _ _ ?_ (fun hHeld => ?_)
  · exact ((HX1.out.kept HBB.out).kept hK5).cells
  clear hK K
  try simp only [Act.put, List.setIfInBounds_toArray, List.set_cons_zero, List.set_cons_succ]
  refine wpAnyH_take (i := 14) (oi := { dst := some 2, op := Op.assign (Operand.tmp 112), type := 24, pos := "isa.go:119", after := #[eD 13, eC 13, eP 0, eP 1, eP 2, eP 3, eP 4, eP 5, eP 6, eP 7, eP 8, eP 9, eP 10, eP 11, eP 12, eP 13], guard := none }) (v := ?_) rfl (by kernel_rfl) (by kernel_rfl) (by kernel_rfl) (fun _ _ _ h => h) (Or.inl ⟨rfl, ?_⟩) hHeld ?_
  rotate_left
  · (intro w hSw; (try dsimp only at hSw); go_simp; try with_reducible rfl)
  try simp only [Act.put, List.setIfInBounds_toArray, List.set_cons_zero, List.set_cons_succ]
  refine wpAnyH_done (by kernel_rfl) ?_ _
  go_wp2_with fail
  go_ret
  exact ⟨rfl, (HB.out.trans HBB.out).trans hK5⟩
theorem wordOf_any (k op a b c i : Int) (u : Bool) (h : I.May ⟨k, op, a, b, c, i, u⟩) (w : World) :
    Calls Try.prog 23 #[.agg #[.int .i64 k, .int .i64 op, .int .i64 a, .int .i64 b, .int .i64 c, .int .i64 i, .bool u]] w fun e w' => e = .returned (.int .u32 (I.word ⟨k, op, a, b, c, i, u⟩)) ∧ Kept w w' := by
  have hk : k = 1 ∨ k = 2 ∨ k = 3 ∨ k = 4 ∨ k = 5 ∨ k = 6 ∨ k = 7 := by unfold I.May at h; simp only at h; omega
  rcases hk with rfl | rfl | rfl | rfl | rfl | rfl | rfl
  · exact wordOf_1 op a b c i _ u (Lib.hid (sum_1 op a b c i u h)) w
  · exact wordOf_2 op a b c i _ u (Lib.hid (sum_2 op a b c i u h)) w
  · exact wordOf_3 op a b c i _ u (Lib.hid (sum_3 op a b c i u h)) w
  · exact wordOf_4 op a b c i _ u (Lib.hid (sum_4 op a b c i u h)) w
  · exact wordOf_5 op a b c i _ u (Lib.hid (sum_5 op a b c i u h)) w
  · exact wordOf_6 op a b c i _ u (Lib.hid (sum_6 op a b c i u h)) w
  · exact wordOf_7 op a b c i _ u (Lib.hid (sum_7 op a b c i u h)) w
end Go.Proofs.Ytlmddkciamdldaa

/-
  The contract of Encode.
-/
namespace Go.Proofs.Ytlmddkciamdldaa
open Go.RowKit
set_option linter.unusedVariables false
set_option linter.unusedSimpArgs false
set_option maxRecDepth 100000
theorem enc_any (k op a b c i : Int) (u : Bool) (w : World) :
    Calls Try.prog 9 #[.agg #[.int .i64 k, .int .i64 op, .int .i64 a, .int .i64 b, .int .i64 c, .int .i64 i, .bool u]] w fun e w' => e = .returned (.tuple #[.int .u32 (I.enc ⟨k, op, a, b, c, i, u⟩), .int .i64 (I.err ⟨k, op, a, b, c, i, u⟩)]) ∧ Kept w w' := by
  have HM := Lib.hid (may_any k op a b c i u)
  have HB := Lib.hid (show Kept w (w.alloc (.cells #[.int .i64 k, .int .i64 op, .int .i64 a, .int .i64 b, .int .i64 c, .int .i64 i, .bool u] 23)) from (Kept.refl w).alloc _ _)
  have HX := Lib.hid (Box.new k op a b c i u w)
  by_cases h : I.May ⟨k, op, a, b, c, i, u⟩
  · have e1 : I.may ⟨k, op, a, b, c, i, u⟩ = true := decide_eq_true h
    have HW := Lib.hid (wordOf_any k op a b c i u h)
    simp only [I.enc, I.err, e1, reduceIte] at *
    generalize I.word ⟨k, op, a, b, c, i, u⟩ = r at *
    clear h e1
    go_enter Try.func9, Try.ntmps9
    go_wp2_with fail
    refine (HM.out _).mono ?_; rintro e w1 ⟨rfl, hK⟩
    obtain ⟨c0, c1, c2, c3, c4, c5, c6⟩ := (HX.out.kept hK).cells
    have HK := Lib.hid (HB.out.trans hK)
    clear hK HX HB HM
    go_wp2_with fail
    refine (HW.out _).mono ?_; rintro e w2 ⟨rfl, hK2⟩
    clear c0 c1 c2 c3 c4 c5 c6
    go_wp2_with fail
    exact bodyPost_ret (v := .tuple #[.int .u32 r, .int .i64 0]) (by simp [results, Try.results9, go_sem]) rfl ⟨rfl, HK.out.trans hK2⟩
  · have e1 : I.may ⟨k, op, a, b, c, i, u⟩ = false := decide_eq_false h
    simp only [I.enc, I.err, e1, Bool.false_eq_true, reduceIte] at *
    clear h e1
    go_enter Try.func9, Try.ntmps9
    go_wp2_with fail
    refine (HM.out _).mono ?_; rintro e w1 ⟨rfl, hK⟩
    go_wp2_with fail
    exact bodyPost_ret (v := .tuple #[.int .u32 0, .int .i64 1]) (by simp [results, Try.results9, go_sem]) rfl ⟨rfl, HB.out.trans hK⟩
end Go.Proofs.Ytlmddkciamdldaa

/-
  The contracts of get, isSet and readImm.
-/
namespace Go.Proofs.Ytlmddkciamdldaa
open Go.RowKit
set_option linter.unusedVariables false
set_option linter.unusedSimpArgs false
set_option maxRecDepth 100000
/-- a word -/
def U32 (x : Int) : Prop := 0 ≤ x ∧ x < 4294967296
theorem get_lit (x : Int) (hx : U32 x) (i n D M : Int) (hi : 0 ≤ i) (hi' : i ≤ 32) (hn : 0 ≤ n) (hn' : n ≤ 32) (hD : (2 : Int) ^ i.toNat = D) (hM : (2 : Int) ^ n.toNat = M) (w : World) :
    Calls Try.prog 57 #[.int .u32 x, .int .i64 i, .int .i64 n] w fun e w' => e = .returned (.int .u32 (x / D % M)) ∧ Kept w w' := by
  have h := get_any x i n hx.1 hx.2 (by omega) (by omega) (by omega) w
  rw [F.get_div x i n hx.1 hx.2 hi hn, hD, hM] at h
  exact h
theorem mod_lo (x D M : Int) (hM : 0 < M) : 0 ≤ x / D % M := Int.emod_nonneg _ (by omega)
theorem mod_hi (x D M : Int) (hM : 0 < M) : x / D % M < M := Int.emod_lt_of_pos _ hM
theorem iget_lit (x : Int) (hx : U32 x) (i n D M : Int) (hi : 0 ≤ i) (hi' : i ≤ 32) (hn : 0 ≤ n) (hn' : n ≤ 16) (hD : (2 : Int) ^ i.toNat = D) (hM : (2 : Int) ^ n.toNat = M) (hMl : 0 < M) (hMh : M ≤ 65536) (w : World) :
    Calls Try.prog 59 #[.int .u32 x, .int .i64 i, .int .i64 n] w fun e w' => e = .returned (.int .i64 (x / D % M)) ∧ Kept w w' := by
  have C := Lib.hid (get_lit x hx i n D M hi hi' hn (by omega) hD hM)
  have b0 := mod_lo x D M hMl
  have b1 := mod_hi x D M hMl
  generalize x / D % M = r at *
  clear hD hM
  go_enter Try.func59, Try.ntmps59
  go_wp2_with fail
  refine (C.out _).mono ?_; rintro e w1 ⟨rfl, hK⟩
  go_wp2_with fail
  go_ret
  exact ⟨rfl, hK⟩
theorem isSet_lit (x : Int) (hx : U32 x) (i D : Int) (hi : 0 ≤ i) (hi' : i ≤ 32) (hD : (2 : Int) ^ i.toNat = D) (w : World) :
    Calls Try.prog 61 #[.int .u32 x, .int .i64 i] w fun e w' => e = .returned (.bool (decide (x / D % 2 = 1))) ∧ Kept w w' := by
  have C := Lib.hid (get_lit x hx i 1 D 2 hi hi' (by omega) (by omega) hD rfl)
  generalize x / D % 2 = r at *
  clear hD
  go_enter Try.func61, Try.ntmps61
  go_wp2_with fail
  refine (C.out _).mono ?_; rintro e w1 ⟨rfl, hK⟩
  go_wp2_with fail
  go_ret
  exact ⟨rfl, hK⟩
theorem readImm_any (x : Int) (hx : U32 x) (w : World) :
    Calls Try.prog 60 #[.int .u32 x] w fun e w' => e = .returned (.int .i64 (if x / 268435456 % 2 = 1 then x % 65536 - 65536 else x % 65536)) ∧ Kept w w' := by
  have C := Lib.hid (get_lit x hx 28 1 268435456 2 (by omega) (by omega) (by omega) (by omega) rfl rfl)
  have b0 := mod_lo x 268435456 2 (by omega)
  have b1 := mod_hi x 268435456 2 (by omega)
  generalize x / 268435456 % 2 = s at *
  have HE := F.set16 x s hx.1 hx.2 b0 (by omega)
  generalize (if s = 1 then x % 65536 - 65536 else x % 65536) = r at *
  have HS := Lib.hid (set_any x 16 1 s hx.1 hx.2 b0 (by omega) (by omega) (by omega) (by omega))
  have y0 := F.set_lo x 16 1 s
  have y1 := F.set_hi x 16 1 s
  generalize F.set x 16 1 s = y at *
  have HG := Lib.hid (fun w => show Calls Try.prog 62 #[.int .u32 y, .int .i64 17] w fun e w' => e = .returned (.int .i64 r) ∧ w = w' from HE ▸ fsigned_any y 17 y0 y1 w)
  clear HE
  go_enter Try.func60, Try.ntmps60
  go_wp2_with fail
  refine (C.out _).mono ?_; rintro e w1 ⟨rfl, hK⟩
  go_wp2_with fail
  refine (HS.out _).mono ?_; rintro e w2 ⟨rfl, hK2⟩
  go_wp2_with fail
  refine (HG.out _).mono ?_; rintro e w3 ⟨rfl, rfl⟩
  go_wp2_with fail
  go_ret
  exact ⟨rfl, hK.trans hK2⟩
/-- the number with its sign -/
def I.im (x : Int) : Int := if x / 268435456 % 2 = 1 then x % 65536 - 65536 else x % 65536
theorem sgn_lit (x : Int) (hx : U32 x) (n r : Int) (hr : F.sgnd x (F.clamp n) = r) (w : World) :
    Calls Try.prog 62 #[.int .u32 x, .int .i64 n] w fun e w' => e = .returned (.int .i64 r) ∧ w = w' := hr ▸ fsigned_any x n hx.1 hx.2 w
theorem I.sx20 (x : Int) : F.sgnd x (F.clamp 20) = I.sx 524288 (x % 1048576) := by
  have : F.clamp 20 = 20 := rfl
  rw [this]; unfold F.sgnd I.sx; simp only [Int.reduceToNat, Int.reducePow, Nat.reduceSub]; split <;> omega
theorem I.sx24 (x : Int) : F.sgnd x (F.clamp 24) = I.sx 8388608 (x % 16777216) := by
  have : F.clamp 24 = 24 := rfl
  rw [this]; unfold F.sgnd I.sx; simp only [Int.reduceToNat, Int.reducePow, Nat.reduceSub]; split <;> omega
end Go.Proofs.Ytlmddkciamdldaa

/-
  The contracts of readReg and read.
-/
namespace Go.Proofs.Ytlmddkciamdldaa
open Go.RowKit
set_option linter.unusedVariables false
set_option linter.unusedSimpArgs false
set_option maxRecDepth 100000
set_option maxHeartbeats 2000000 in
theorem readReg_1 (x op a b c : Int) (u : Bool) (w : World) (hz : ¬ op = 0)
    (Cop : Hid (∀ w, Calls Try.prog 59 #[.int .u32 x, .int .i64 16, .int .i64 4] w fun e w' => e = .returned (.int .i64 op) ∧ Kept w w'))
    (Ca : Hid (∀ w, Calls Try.prog 59 #[.int .u32 x, .int .i64 24, .int .i64 4] w fun e w' => e = .returned (.int .i64 a) ∧ Kept w w'))
    (Cb : Hid (∀ w, Calls Try.prog 59 #[.int .u32 x, .int .i64 20, .int .i64 4] w fun e w' => e = .returned (.int .i64 b) ∧ Kept w w'))
    (Cc : Hid (∀ w, Calls Try.prog 59 #[.int .u32 x, .int .i64 0, .int .i64 4] w fun e w' => e = .returned (.int .i64 c) ∧ Kept w w'))
    (Cu : Hid (∀ w, Calls Try.prog 61 #[.int .u32 x, .int .i64 29] w fun e w' => e = .returned (.bool u) ∧ Kept w w')) :
    Calls Try.prog 58 #[.int .u32 x] w fun e w' => e = .returned (.agg #[.int .i64 1, .int .i64 op, .int .i64 a, .int .i64 b, .int .i64 c, .int .i64 0, .bool u]) ∧ Kept w w' := by
  have X1 := Lib.hid (Box.new 0 0 0 0 0 0 false w)
  have HB := Lib.hid (show Kept w (w.alloc (.cells #[.int .i64 0, .int .i64 0, .int .i64 0, .int .i64 0, .int .i64 0, .int .i64 0, .bool false] 23)) from (Kept.refl w).alloc _ _)
  have HL := Lib.hid (show w.heap.size < (w.alloc (.cells #[.int .i64 0, .int .i64 0, .int .i64 0, .int .i64 0, .int .i64 0, .int .i64 0, .bool false] 23)).heap.size from by simp)
  go_enter Try.func58, Try.ntmps58
  go_wp2_with fail
  refine (Cop.out _).mono ?_; rintro e w1 ⟨rfl, hK1⟩
  go_wp2_with fail
  refine (Ca.out _).mono ?_; rintro e w2 ⟨rfl, hK2⟩
  go_wp2_with fail
  refine (Cb.out _).mono ?_; rintro e w3 ⟨rfl, hK3⟩
  go_wp2_with fail
  refine (Cc.out _).mono ?_; rintro e w4 ⟨rfl, hK4⟩
  go_wp2_with fail
  refine (Cu.out _).mono ?_; rintro e w5 ⟨rfl, hK5⟩
  have HK := Lib.hid ((((hK1.trans hK2).trans hK3).trans hK4).trans hK5)
  clear hK1 hK2 hK3 hK4 hK5
  have HN := Lib.hid (show w.heap.size ≠ w5.heap.size from by have := HK.out.size; have := HL.out; omega)
  go_upto_region 2 with (fail)
  have XI := Box.new 1 op a b c 0 u w5
  have XZ := (X1.out.kept HK.out).alloc (.cells #[.int .i64 1, .int .i64 op, .int .i64 a, .int .i64 b, .int .i64 c, .int .i64 0, .bool u] 23)
  have KK := (HB.out.trans HK.out).alloc #[.int .i64 1, .int .i64 op, .int .i64 a, .int .i64 b, .int .i64 c, .int .i64 0, .bool u] 23
  generalize (w5.alloc (.cells #[.int .i64 1, .int .i64 op, .int .i64 a, .int .i64 b, .int .i64 c, .int .i64 0, .bool u] 23)) = w6 at XI XZ KK ⊢
  generalize w5.heap.size = B2 at HN XI ⊢
  have HI := Lib.hid XI
  have HZ := Lib.hid XZ
  have HKK := Lib.hid KK
  clear HK X1 HB HL XI XZ KK
  obtain ⟨i0, i1, i2, i3, i4, i5, i6⟩ := HI.out.cells
  obtain ⟨z0, z1, z2, z3, z4, z5, z6⟩ := (HZ.out).cells
  obtain ⟨f0, f1, f2, f3, f4, f5, f6⟩ := (HZ.out).free
  have R := Lib.hid ((HZ.out).stored (k' := 1) (op' := op) (a' := a) (b' := b) (c' := c) (i' := 0) (u' := u))
  have RK := Lib.hid ((HKK.out).store7 (B' := w.heap.size) (by omega) (1) (op) (a) (b) (c) (0) (u))
  go_wp2_with fail
  clear z0 z1 z2 z3 z4 z5 z6 f0 f1 f2 f3 f4 f5 f6
  have R := R.out
  have RK := RK.out
  unfold store7 at R RK
  generalize (((((((w6.setCell ⟨w.heap.size, 0, none⟩ (.int .i64 (1))).setCell ⟨w.heap.size, 1, none⟩ (.int .i64 (op))).setCell ⟨w.heap.size, 2, none⟩ (.int .i64 (a))).setCell ⟨w.heap.size, 3, none⟩ (.int .i64 (b))).setCell ⟨w.heap.size, 4, none⟩ (.int .i64 (c))).setCell ⟨w.heap.size, 5, none⟩ (.int .i64 (0))).setCell ⟨w.heap.size, 6, none⟩ (.bool (u))) = w9 at R RK ⊢
  obtain ⟨r0, r1, r2, r3, r4, r5, r6⟩ := R.cells
  exact bodyPost_ret (v := .agg #[.int .i64 1, .int .i64 op, .int .i64 a, .int .i64 b, .int .i64 c, .int .i64 0, .bool u]) (by simp [results, Try.results58, go_sem, r0, r1, r2, r3, r4, r5, r6]) rfl ⟨rfl, RK⟩
set_option maxHeartbeats 2000000 in
theorem readReg_2 (x a b c : Int) (w : World)
    (Cop : Hid (∀ w, Calls Try.prog 59 #[.int .u32 x, .int .i64 16, .int .i64 4] w fun e w' => e = .returned (.int .i64 0) ∧ Kept w w'))
    (Ca : Hid (∀ w, Calls Try.prog 59 #[.int .u32 x, .int .i64 24, .int .i64 4] w fun e w' => e = .returned (.int .i64 a) ∧ Kept w w'))
    (Cb : Hid (∀ w, Calls Try.prog 59 #[.int .u32 x, .int .i64 20, .int .i64 4] w fun e w' => e = .returned (.int .i64 b) ∧ Kept w w'))
    (Cc : Hid (∀ w, Calls Try.prog 59 #[.int .u32 x, .int .i64 0, .int .i64 4] w fun e w' => e = .returned (.int .i64 c) ∧ Kept w w'))
    (Cu : Hid (∀ w, Calls Try.prog 61 #[.int .u32 x, .int .i64 29] w fun e w' => e = .returned (.bool false) ∧ Kept w w')) :
    Calls Try.prog 58 #[.int .u32 x] w fun e w' => e = .returned (.agg #[.int .i64 1, .int .i64 0, .int .i64 a, .int .i64 b, .int .i64 c, .int .i64 0, .bool false]) ∧ Kept w w' := by
  have X1 := Lib.hid (Box.new 0 0 0 0 0 0 false w)
  have HB := Lib.hid (show Kept w (w.alloc (.cells #[.int .i64 0, .int .i64 0, .int .i64 0, .int .i64 0, .int .i64 0, .int .i64 0, .bool false] 23)) from (Kept.refl w).alloc _ _)
  have HL := Lib.hid (show w.heap.size < (w.alloc (.cells #[.int .i64 0, .int .i64 0, .int .i64 0, .int .i64 0, .int .i64 0, .int .i64 0, .bool false] 23)).heap.size from by simp)
  go_enter Try.func58, Try.ntmps58
  go_wp2_with fail
  refine (Cop.out _).mono ?_; rintro e w1 ⟨rfl, hK1⟩
  go_wp2_with fail
  refine (Ca.out _).mono ?_; rintro e w2 ⟨rfl, hK2⟩
  go_wp2_with fail
  refine (Cb.out _).mono ?_; rintro e w3 ⟨rfl, hK3⟩
  go_wp2_with fail
  refine (Cc.out _).mono ?_; rintro e w4 ⟨rfl, hK4⟩
  go_wp2_with fail
  refine (Cu.out _).mono ?_; rintro e w5 ⟨rfl, hK5⟩
  have HK := Lib.hid ((((hK1.trans hK2).trans hK3).trans hK4).trans hK5)
  clear hK1 hK2 hK3 hK4 hK5
  have HN := Lib.hid (show w.heap.size ≠ w5.heap.size from by have := HK.out.size; have := HL.out; omega)
  go_upto_region 2 with (fail)
  have XI := Box.new 1 0 a b c 0 false w5
  have XZ := (X1.out.kept HK.out).alloc (.cells #[.int .i64 1, .int .i64 0, .int .i64 a, .int .i64 b, .int .i64 c, .int .i64 0, .bool false] 23)
  have KK := (HB.out.trans HK.out).alloc #[.int .i64 1, .int .i64 0, .int .i64 a, .int .i64 b, .int .i64 c, .int .i64 0, .bool false] 23
  generalize (w5.alloc (.cells #[.int .i64 1, .int .i64 0, .int .i64 a, .int .i64 b, .int .i64 c, .int .i64 0, .bool false] 23)) = w6 at XI XZ KK ⊢
  generalize w5.heap.size = B2 at HN XI ⊢
  have HI := Lib.hid XI
  have HZ := Lib.hid XZ
  have HKK := Lib.hid KK
  clear HK X1 HB HL XI XZ KK
  obtain ⟨i0, i1, i2, i3, i4, i5, i6⟩ := HI.out.cells
  obtain ⟨z0, z1, z2, z3, z4, z5, z6⟩ := (HZ.out).cells
  obtain ⟨f0, f1, f2, f3, f4, f5, f6⟩ := (HZ.out).free
  have R := Lib.hid ((HZ.out).stored (k' := 1) (op' := 0) (a' := a) (b' := b) (c' := c) (i' := 0) (u' := false))
  have RK := Lib.hid ((HKK.out).store7 (B' := w.heap.size) (by omega) (1) (0) (a) (b) (c) (0) (false))
  go_wp2_with fail
  clear z0 z1 z2 z3 z4 z5 z6 f0 f1 f2 f3 f4 f5 f6
  have R := R.out
  have RK := RK.out
  unfold store7 at R RK
  generalize (((((((w6.setCell ⟨w.heap.size, 0, none⟩ (.int .i64 (1))).setCell ⟨w.heap.size, 1, none⟩ (.int .i64 (0))).setCell ⟨w.heap.size, 2, none⟩ (.int .i64 (a))).setCell ⟨w.heap.size, 3, none⟩ (.int .i64 (b))).setCell ⟨w.heap.size, 4, none⟩ (.int .i64 (c))).setCell ⟨w.heap.size, 5, none⟩ (.int .i64 (0))).setCell ⟨w.heap.size, 6, none⟩ (.bool (false))) = w9 at R RK ⊢
  obtain ⟨r0, r1, r2, r3, r4, r5, r6⟩ := R.cells
  exact bodyPost_ret (v := .agg #[.int .i64 1, .int .i64 0, .int .i64 a, .int .i64 b, .int .i64 c, .int .i64 0, .bool false]) (by simp [results, Try.results58, go_sem, r0, r1, r2, r3, r4, r5, r6]) rfl ⟨rfl, RK⟩
set_option maxHeartbeats 2000000 in
theorem readReg_3 (x a b c : Int) (w : World)
    (Cop : Hid (∀ w, Calls Try.prog 59 #[.int .u32 x, .int .i64 16, .int .i64 4] w fun e w' => e = .returned (.int .i64 0) ∧ Kept w w'))
    (Ca : Hid (∀ w, Calls Try.prog 59 #[.int .u32 x, .int .i64 24, .int .i64 4] w fun e w' => e = .returned (.int .i64 a) ∧ Kept w w'))
    (Cb : Hid (∀ w, Calls Try.prog 59 #[.int .u32 x, .int .i64 20, .int .i64 4] w fun e w' => e = .returned (.int .i64 b) ∧ Kept w w'))
    (Cc : Hid (∀ w, Calls Try.prog 59 #[.int .u32 x, .int .i64 0, .int .i64 4] w fun e w' => e = .returned (.int .i64 c) ∧ Kept w w'))
    (Cu : Hid (∀ w, Calls Try.prog 61 #[.int .u32 x, .int .i64 29] w fun e w' => e = .returned (.bool true) ∧ Kept w w'))
    (Cv : Hid (∀ w, Calls Try.prog 61 #[.int .u32 x, .int .i64 28] w fun e w' => e = .returned (.bool false) ∧ Kept w w')) :
    Calls Try.prog 58 #[.int .u32 x] w fun e w' => e = .returned (.agg #[.int .i64 3, .int .i64 0, .int .i64 a, .int .i64 0, .int .i64 0, .int .i64 0, .bool false]) ∧ Kept w w' := by
  have X1 := Lib.hid (Box.new 0 0 0 0 0 0 false w)
  have HB := Lib.hid (show Kept w (w.alloc (.cells #[.int .i64 0, .int .i64 0, .int .i64 0, .int .i64 0, .int .i64 0, .int .i64 0, .bool false] 23)) from (Kept.refl w).alloc _ _)
  have HL := Lib.hid (show w.heap.size < (w.alloc (.cells #[.int .i64 0, .int .i64 0, .int .i64 0, .int .i64 0, .int .i64 0, .int .i64 0, .bool false] 23)).heap.size from by simp)
  go_enter Try.func58, Try.ntmps58
  go_wp2_with fail
  refine (Cop.out _).mono ?_; rintro e w1 ⟨rfl, hK1⟩
  go_wp2_with fail
  refine (Ca.out _).mono ?_; rintro e w2 ⟨rfl, hK2⟩
  go_wp2_with fail
  refine (Cb.out _).mono ?_; rintro e w3 ⟨rfl, hK3⟩
  go_wp2_with fail
  refine (Cc.out _).mono ?_; rintro e w4 ⟨rfl, hK4⟩
  go_wp2_with fail
  refine (Cu.out _).mono ?_; rintro e w5 ⟨rfl, hK5⟩
  have HK := Lib.hid ((((hK1.trans hK2).trans hK3).trans hK4).trans hK5)
  clear hK1 hK2 hK3 hK4 hK5
  have HN := Lib.hid (show w.heap.size ≠ w5.heap.size from by have := HK.out.size; have := HL.out; omega)
  go_upto_region 2 with (fail)
  have XI := Box.new 1 0 a b c 0 true w5
  have XZ := (X1.out.kept HK.out).alloc (.cells #[.int .i64 1, .int .i64 0, .int .i64 a, .int .i64 b, .int .i64 c, .int .i64 0, .bool true] 23)
  have KK := (HB.out.trans HK.out).alloc #[.int .i64 1, .int .i64 0, .int .i64 a, .int .i64 b, .int .i64 c, .int .i64 0, .bool true] 23
  generalize (w5.alloc (.cells #[.int .i64 1, .int .i64 0, .int .i64 a, .int .i64 b, .int .i64 c, .int .i64 0, .bool true] 23)) = w6 at XI XZ KK ⊢
  generalize w5.heap.size = B2 at HN XI ⊢
  have HI := Lib.hid XI
  have HZ := Lib.hid XZ
  have HKK := Lib.hid KK
  clear HK X1 HB HL XI XZ KK
  obtain ⟨i0, i1, i2, i3, i4, i5, i6⟩ := HI.out.cells
  go_wp2_with fail
  refine (Cv.out _).mono ?_; rintro e w7 ⟨rfl, hK6⟩
  clear i0 i1 i2 i3 i4 i5 i6
  obtain ⟨i0, i1, i2, i3, i4, i5, i6⟩ := (HI.out.kept hK6).cells
  obtain ⟨z0, z1, z2, z3, z4, z5, z6⟩ := (HZ.out.kept hK6).cells
  obtain ⟨f0, f1, f2, f3, f4, f5, f6⟩ := (HZ.out.kept hK6).free
  have R := Lib.hid ((HZ.out.kept hK6).stored (k' := 3) (op' := 0) (a' := a) (b' := 0) (c' := 0) (i' := 0) (u' := false))
  have RK := Lib.hid ((HKK.out.trans hK6).store7 (B' := w.heap.size) (by omega) (3) (0) (a) (0) (0) (0) (false))
  go_wp2_with fail
  clear z0 z1 z2 z3 z4 z5 z6 f0 f1 f2 f3 f4 f5 f6
  have R := R.out
  have RK := RK.out
  unfold store7 at R RK
  generalize (((((((w7.setCell ⟨w.heap.size, 0, none⟩ (.int .i64 (3))).setCell ⟨w.heap.size, 1, none⟩ (.int .i64 (0))).setCell ⟨w.heap.size, 2, none⟩ (.int .i64 (a))).setCell ⟨w.heap.size, 3, none⟩ (.int .i64 (0))).setCell ⟨w.heap.size, 4, none⟩ (.int .i64 (0))).setCell ⟨w.heap.size, 5, none⟩ (.int .i64 (0))).setCell ⟨w.heap.size, 6, none⟩ (.bool (false))) = w9 at R RK ⊢
  obtain ⟨r0, r1, r2, r3, r4, r5, r6⟩ := R.cells
  exact bodyPost_ret (v := .agg #[.int .i64 3, .int .i64 0, .int .i64 a, .int .i64 0, .int .i64 0, .int .i64 0, .bool false]) (by simp [results, Try.results58, go_sem, r0, r1, r2, r3, r4, r5, r6]) rfl ⟨rfl, RK⟩
set_option maxHeartbeats 2000000 in
theorem readReg_4 (x a b c : Int) (w : World)
    (Cop : Hid (∀ w, Calls Try.prog 59 #[.int .u32 x, .int .i64 16, .int .i64 4] w fun e w' => e = .returned (.int .i64 0) ∧ Kept w w'))
    (Ca : Hid (∀ w, Calls Try.prog 59 #[.int .u32 x, .int .i64 24, .int .i64 4] w fun e w' => e = .returned (.int .i64 a) ∧ Kept w w'))
    (Cb : Hid (∀ w, Calls Try.prog 59 #[.int .u32 x, .int .i64 20, .int .i64 4] w fun e w' => e = .returned (.int .i64 b) ∧ Kept w w'))
    (Cc : Hid (∀ w, Calls Try.prog 59 #[.int .u32 x, .int .i64 0, .int .i64 4] w fun e w' => e = .returned (.int .i64 c) ∧ Kept w w'))
    (Cu : Hid (∀ w, Calls Try.prog 61 #[.int .u32 x, .int .i64 29] w fun e w' => e = .returned (.bool true) ∧ Kept w w'))
    (Cv : Hid (∀ w, Calls Try.prog 61 #[.int .u32 x, .int .i64 28] w fun e w' => e = .returned (.bool true) ∧ Kept w w')) :
    Calls Try.prog 58 #[.int .u32 x] w fun e w' => e = .returned (.agg #[.int .i64 4, .int .i64 0, .int .i64 a, .int .i64 0, .int .i64 0, .int .i64 0, .bool false]) ∧ Kept w w' := by
  have X1 := Lib.hid (Box.new 0 0 0 0 0 0 false w)
  have HB := Lib.hid (show Kept w (w.alloc (.cells #[.int .i64 0, .int .i64 0, .int .i64 0, .int .i64 0, .int .i64 0, .int .i64 0, .bool false] 23)) from (Kept.refl w).alloc _ _)
  have HL := Lib.hid (show w.heap.size < (w.alloc (.cells #[.int .i64 0, .int .i64 0, .int .i64 0, .int .i64 0, .int .i64 0, .int .i64 0, .bool false] 23)).heap.size from by simp)
  go_enter Try.func58, Try.ntmps58
  go_wp2_with fail
  refine (Cop.out _).mono ?_; rintro e w1 ⟨rfl, hK1⟩
  go_wp2_with fail
  refine (Ca.out _).mono ?_; rintro e w2 ⟨rfl, hK2⟩
  go_wp2_with fail
  refine (Cb.out _).mono ?_; rintro e w3 ⟨rfl, hK3⟩
  go_wp2_with fail
  refine (Cc.out _).mono ?_; rintro e w4 ⟨rfl, hK4⟩
  go_wp2_with fail
  refine (Cu.out _).mono ?_; rintro e w5 ⟨rfl, hK5⟩
  have HK := Lib.hid ((((hK1.trans hK2).trans hK3).trans hK4).trans hK5)
  clear hK1 hK2 hK3 hK4 hK5
  have HN := Lib.hid (show w.heap.size ≠ w5.heap.size from by have := HK.out.size; have := HL.out; omega)
  go_upto_region 2 with (fail)
  have XI := Box.new 1 0 a b c 0 true w5
  have XZ := (X1.out.kept HK.out).alloc (.cells #[.int .i64 1, .int .i64 0, .int .i64 a, .int .i64 b, .int .i64 c, .int .i64 0, .bool true] 23)
  have KK := (HB.out.trans HK.out).alloc #[.int .i64 1, .int .i64 0, .int .i64 a, .int .i64 b, .int .i64 c, .int .i64 0, .bool true] 23
  generalize (w5.alloc (.cells #[.int .i64 1, .int .i64 0, .int .i64 a, .int .i64 b, .int .i64 c, .int .i64 0, .bool true] 23)) = w6 at XI XZ KK ⊢
  generalize w5.heap.size = B2 at HN XI ⊢
  have HI := Lib.hid XI
  have HZ := Lib.hid XZ
  have HKK := Lib.hid KK
  clear HK X1 HB HL XI XZ KK
  obtain ⟨i0, i1, i2, i3, i4, i5, i6⟩ := HI.out.cells
  go_wp2_with fail
  refine (Cv.out _).mono ?_; rintro e w7 ⟨rfl, hK6⟩
  clear i0 i1 i2 i3 i4 i5 i6
  obtain ⟨i0, i1, i2, i3, i4, i5, i6⟩ := (HI.out.kept hK6).cells
  obtain ⟨z0, z1, z2, z3, z4, z5, z6⟩ := (HZ.out.kept hK6).cells
  obtain ⟨f0, f1, f2, f3, f4, f5, f6⟩ := (HZ.out.kept hK6).free
  have R := Lib.hid ((HZ.out.kept hK6).stored (k' := 4) (op' := 0) (a' := a) (b' := 0) (c' := 0) (i' := 0) (u' := false))
  have RK := Lib.hid ((HKK.out.trans hK6).store7 (B' := w.heap.size) (by omega) (4) (0) (a) (0) (0) (0) (false))
  go_wp2_with fail
  clear z0 z1 z2 z3 z4 z5 z6 f0 f1 f2 f3 f4 f5 f6
  have R := R.out
  have RK := RK.out
  unfold store7 at R RK
  generalize (((((((w7.setCell ⟨w.heap.size, 0, none⟩ (.int .i64 (4))).setCell ⟨w.heap.size, 1, none⟩ (.int .i64 (0))).setCell ⟨w.heap.size, 2, none⟩ (.int .i64 (a))).setCell ⟨w.heap.size, 3, none⟩ (.int .i64 (0))).setCell ⟨w.heap.size, 4, none⟩ (.int .i64 (0))).setCell ⟨w.heap.size, 5, none⟩ (.int .i64 (0))).setCell ⟨w.heap.size, 6, none⟩ (.bool (false))) = w9 at R RK ⊢
  obtain ⟨r0, r1, r2, r3, r4, r5, r6⟩ := R.cells
  exact bodyPost_ret (v := .agg #[.int .i64 4, .int .i64 0, .int .i64 a, .int .i64 0, .int .i64 0, .int .i64 0, .bool false]) (by simp [results, Try.results58, go_sem, r0, r1, r2, r3, r4, r5, r6]) rfl ⟨rfl, RK⟩
set_option maxHeartbeats 2000000 in
theorem read_0 (x k op a b c i : Int) (u : Bool) (w : World)
    (C0 : Hid (∀ w, Calls Try.prog 57 #[.int .u32 x, .int .i64 30, .int .i64 2] w fun e w' => e = .returned (.int .u32 0) ∧ Kept w w'))
    (CR : Hid (∀ w, Calls Try.prog 58 #[.int .u32 x] w fun e w' => e = .returned (.agg #[.int .i64 k, .int .i64 op, .int .i64 a, .int .i64 b, .int .i64 c, .int .i64 i, .bool u]) ∧ Kept w w')) :
    Calls Try.prog 48 #[.int .u32 x] w fun e w' => e = .returned (.agg #[.int .i64 k, .int .i64 op, .int .i64 a, .int .i64 b, .int .i64 c, .int .i64 i, .bool u]) ∧ Kept w w' := by
  have X1 := Lib.hid (Box.new 0 0 0 0 0 0 false w)
  have HB := Lib.hid (show Kept w (w.alloc (.cells #[.int .i64 0, .int .i64 0, .int .i64 0, .int .i64 0, .int .i64 0, .int .i64 0, .bool false] 23)) from (Kept.refl w).alloc _ _)
  go_enter Try.func48, Try.ntmps48
  go_wp2_with fail
  refine (C0.out _).mono ?_; rintro e w0 ⟨rfl, hK0⟩
  have HK := Lib.hid hK0
  clear hK0
  go_wp2_with fail
  refine (CR.out _).mono ?_; rintro e w1 ⟨rfl, hK1⟩
  replace HK := Lib.hid (HK.out.trans hK1)
  clear hK1
  obtain ⟨z0, z1, z2, z3, z4, z5, z6⟩ := (X1.out.kept HK.out).cells
  obtain ⟨f0, f1, f2, f3, f4, f5, f6⟩ := (X1.out.kept HK.out).free
  have R := Lib.hid ((X1.out.kept HK.out).stored (k' := k) (op' := op) (a' := a) (b' := b) (c' := c) (i' := i) (u' := u))
  have RK := Lib.hid ((HB.out.trans HK.out).store7 (B' := w.heap.size) (by omega) (k) (op) (a) (b) (c) (i) (u))
  go_wp2_with fail
  clear z0 z1 z2 z3 z4 z5 z6 f0 f1 f2 f3 f4 f5 f6
  have R := R.out
  have RK := RK.out
  unfold store7 at R RK
  generalize (((((((w1.setCell ⟨w.heap.size, 0, none⟩ (.int .i64 (k))).setCell ⟨w.heap.size, 1, none⟩ (.int .i64 (op))).setCell ⟨w.heap.size, 2, none⟩ (.int .i64 (a))).setCell ⟨w.heap.size, 3, none⟩ (.int .i64 (b))).setCell ⟨w.heap.size, 4, none⟩ (.int .i64 (c))).setCell ⟨w.heap.size, 5, none⟩ (.int .i64 (i))).setCell ⟨w.heap.size, 6, none⟩ (.bool (u))) = w9 at R RK ⊢
  obtain ⟨r0, r1, r2, r3, r4, r5, r6⟩ := R.cells
  exact bodyPost_ret (v := .agg #[.int .i64 k, .int .i64 op, .int .i64 a, .int .i64 b, .int .i64 c, .int .i64 i, .bool u]) (by simp [results, Try.results48, go_sem, r0, r1, r2, r3, r4, r5, r6]) rfl ⟨rfl, RK⟩
set_option maxHeartbeats 2000000 in
theorem read_1 (x op a b i : Int) (u : Bool) (w : World)
    (C0 : Hid (∀ w, Calls Try.prog 57 #[.int .u32 x, .int .i64 30, .int .i64 2] w fun e w' => e = .returned (.int .u32 1) ∧ Kept w w'))
    (Cop : Hid (∀ w, Calls Try.prog 59 #[.int .u32 x, .int .i64 16, .int .i64 4] w fun e w' => e = .returned (.int .i64 op) ∧ Kept w w'))
    (Ca : Hid (∀ w, Calls Try.prog 59 #[.int .u32 x, .int .i64 24, .int .i64 4] w fun e w' => e = .returned (.int .i64 a) ∧ Kept w w'))
    (Cb : Hid (∀ w, Calls Try.prog 59 #[.int .u32 x, .int .i64 20, .int .i64 4] w fun e w' => e = .returned (.int .i64 b) ∧ Kept w w'))
    (Ci : Hid (∀ w, Calls Try.prog 60 #[.int .u32 x] w fun e w' => e = .returned (.int .i64 i) ∧ Kept w w'))
    (Cu : Hid (∀ w, Calls Try.prog 61 #[.int .u32 x, .int .i64 29] w fun e w' => e = .returned (.bool u) ∧ Kept w w')) :
    Calls Try.prog 48 #[.int .u32 x] w fun e w' => e = .returned (.agg #[.int .i64 2, .int .i64 op, .int .i64 a, .int .i64 b, .int .i64 0, .int .i64 i, .bool u]) ∧ Kept w w' := by
  have X1 := Lib.hid (Box.new 0 0 0 0 0 0 false w)
  have HB := Lib.hid (show Kept w (w.alloc (.cells #[.int .i64 0, .int .i64 0, .int .i64 0, .int .i64 0, .int .i64 0, .int .i64 0, .bool false] 23)) from (Kept.refl w).alloc _ _)
  go_enter Try.func48, Try.ntmps48
  go_wp2_with fail
  refine (C0.out _).mono ?_; rintro e w0 ⟨rfl, hK0⟩
  have HK := Lib.hid hK0
  clear hK0
  go_wp2_with fail
  refine (Cop.out _).mono ?_; rintro e w1 ⟨rfl, hK1⟩
  replace HK := Lib.hid (HK.out.trans hK1)
  clear hK1
  go_wp2_with fail
  refine (Ca.out _).mono ?_; rintro e w2 ⟨rfl, hK1⟩
  replace HK := Lib.hid (HK.out.trans hK1)
  clear hK1
  go_wp2_with fail
  refine (Cb.out _).mono ?_; rintro e w3 ⟨rfl, hK1⟩
  replace HK := Lib.hid (HK.out.trans hK1)
  clear hK1
  go_wp2_with fail
  refine (Ci.out _).mono ?_; rintro e w4 ⟨rfl, hK1⟩
  replace HK := Lib.hid (HK.out.trans hK1)
  clear hK1
  go_wp2_with fail
  refine (Cu.out _).mono ?_; rintro e w5 ⟨rfl, hK1⟩
  replace HK := Lib.hid (HK.out.trans hK1)
  clear hK1
  obtain ⟨z0, z1, z2, z3, z4, z5, z6⟩ := (X1.out.kept HK.out).cells
  obtain ⟨f0, f1, f2, f3, f4, f5, f6⟩ := (X1.out.kept HK.out).free
  have R := Lib.hid ((X1.out.kept HK.out).stored (k' := 2) (op' := op) (a' := a) (b' := b) (c' := 0) (i' := i) (u' := u))
  have RK := Lib.hid ((HB.out.trans HK.out).store7 (B' := w.heap.size) (by omega) (2) (op) (a) (b) (0) (i) (u))
  go_wp2_with fail
  clear z0 z1 z2 z3 z4 z5 z6 f0 f1 f2 f3 f4 f5 f6
  have R := R.out
  have RK := RK.out
  unfold store7 at R RK
  generalize (((((((w5.setCell ⟨w.heap.size, 0, none⟩ (.int .i64 (2))).setCell ⟨w.heap.size, 1, none⟩ (.int .i64 (op))).setCell ⟨w.heap.size, 2, none⟩ (.int .i64 (a))).setCell ⟨w.heap.size, 3, none⟩ (.int .i64 (b))).setCell ⟨w.heap.size, 4, none⟩ (.int .i64 (0))).setCell ⟨w.heap.size, 5, none⟩ (.int .i64 (i))).setCell ⟨w.heap.size, 6, none⟩ (.bool (u))) = w9 at R RK ⊢
  obtain ⟨r0, r1, r2, r3, r4, r5, r6⟩ := R.cells
  exact bodyPost_ret (v := .agg #[.int .i64 2, .int .i64 op, .int .i64 a, .int .i64 b, .int .i64 0, .int .i64 i, .bool u]) (by simp [results, Try.results48, go_sem, r0, r1, r2, r3, r4, r5, r6]) rfl ⟨rfl, RK⟩
set_option maxHeartbeats 2000000 in
theorem read_2 (x op a b i : Int) (w : World)
    (C0 : Hid (∀ w, Calls Try.prog 57 #[.int .u32 x, .int .i64 30, .int .i64 2] w fun e w' => e = .returned (.int .u32 2) ∧ Kept w w'))
    (Cop : Hid (∀ w, Calls Try.prog 59 #[.int .u32 x, .int .i64 28, .int .i64 2] w fun e w' => e = .returned (.int .i64 op) ∧ Kept w w'))
    (Ca : Hid (∀ w, Calls Try.prog 59 #[.int .u32 x, .int .i64 24, .int .i64 4] w fun e w' => e = .returned (.int .i64 a) ∧ Kept w w'))
    (Cb : Hid (∀ w, Calls Try.prog 59 #[.int .u32 x, .int .i64 20, .int .i64 4] w fun e w' => e = .returned (.int .i64 b) ∧ Kept w w'))
    (Ci : Hid (∀ w, Calls Try.prog 62 #[.int .u32 x, .int .i64 20] w fun e w' => e = .returned (.int .i64 i) ∧ w = w')) :
    Calls Try.prog 48 #[.int .u32 x] w fun e w' => e = .returned (.agg #[.int .i64 5, .int .i64 op, .int .i64 a, .int .i64 b, .int .i64 0, .int .i64 i, .bool false]) ∧ Kept w w' := by
  have X1 := Lib.hid (Box.new 0 0 0 0 0 0 false w)
  have HB := Lib.hid (show Kept w (w.alloc (.cells #[.int .i64 0, .int .i64 0, .int .i64 0, .int .i64 0, .int .i64 0, .int .i64 0, .bool false] 23)) from (Kept.refl w).alloc _ _)
  go_enter Try.func48, Try.ntmps48
  go_wp2_with fail
  refine (C0.out _).mono ?_; rintro e w0 ⟨rfl, hK0⟩
  have HK := Lib.hid hK0
  clear hK0
  go_wp2_with fail
  refine (Cop.out _).mono ?_; rintro e w1 ⟨rfl, hK1⟩
  replace HK := Lib.hid (HK.out.trans hK1)
  clear hK1
  go_wp2_with fail
  refine (Ca.out _).mono ?_; rintro e w2 ⟨rfl, hK1⟩
  replace HK := Lib.hid (HK.out.trans hK1)
  clear hK1
  go_wp2_with fail
  refine (Cb.out _).mono ?_; rintro e w3 ⟨rfl, hK1⟩
  replace HK := Lib.hid (HK.out.trans hK1)
  clear hK1
  go_wp2_with fail
  refine (Ci.out _).mono ?_; rintro e w' ⟨rfl, rfl⟩
  obtain ⟨z0, z1, z2, z3, z4, z5, z6⟩ := (X1.out.kept HK.out).cells
  obtain ⟨f0, f1, f2, f3, f4, f5, f6⟩ := (X1.out.kept HK.out).free
  have R := Lib.hid ((X1.out.kept HK.out).stored (k' := 5) (op' := op) (a' := a) (b' := b) (c' := 0) (i' := i) (u' := false))
  have RK := Lib.hid ((HB.out.trans HK.out).store7 (B' := w.heap.size) (by omega) (5) (op) (a) (b) (0) (i) (false))
  go_wp2_with fail
  clear z0 z1 z2 z3 z4 z5 z6 f0 f1 f2 f3 f4 f5 f6
  have R := R.out
  have RK := RK.out
  unfold store7 at R RK
  generalize (((((((w3.setCell ⟨w.heap.size, 0, none⟩ (.int .i64 (5))).setCell ⟨w.heap.size, 1, none⟩ (.int .i64 (op))).setCell ⟨w.heap.size, 2, none⟩ (.int .i64 (a))).setCell ⟨w.heap.size, 3, none⟩ (.int .i64 (b))).setCell ⟨w.heap.size, 4, none⟩ (.int .i64 (0))).setCell ⟨w.heap.size, 5, none⟩ (.int .i64 (i))).setCell ⟨w.heap.size, 6, none⟩ (.bool (false))) = w9 at R RK ⊢
  obtain ⟨r0, r1, r2, r3, r4, r5, r6⟩ := R.cells
  exact bodyPost_ret (v := .agg #[.int .i64 5, .int .i64 op, .int .i64 a, .int .i64 b, .int .i64 0, .int .i64 i, .bool false]) (by simp [results, Try.results48, go_sem, r0, r1, r2, r3, r4, r5, r6]) rfl ⟨rfl, RK⟩
set_option maxHeartbeats 2000000 in
theorem read_3j (x op i : Int) (v : Bool) (w : World)
    (C0 : Hid (∀ w, Calls Try.prog 57 #[.int .u32 x, .int .i64 30, .int .i64 2] w fun e w' => e = .returned (.int .u32 3) ∧ Kept w w'))
    (Cu : Hid (∀ w, Calls Try.prog 61 #[.int .u32 x, .int .i64 29] w fun e w' => e = .returned (.bool true) ∧ Kept w w'))
    (Cop : Hid (∀ w, Calls Try.prog 59 #[.int .u32 x, .int .i64 24, .int .i64 4] w fun e w' => e = .returned (.int .i64 op) ∧ Kept w w'))
    (Ci : Hid (∀ w, Calls Try.prog 62 #[.int .u32 x, .int .i64 24] w fun e w' => e = .returned (.int .i64 i) ∧ w = w'))
    (Cv : Hid (∀ w, Calls Try.prog 61 #[.int .u32 x, .int .i64 28] w fun e w' => e = .returned (.bool v) ∧ Kept w w')) :
    Calls Try.prog 48 #[.int .u32 x] w fun e w' => e = .returned (.agg #[.int .i64 7, .int .i64 op, .int .i64 0, .int .i64 0, .int .i64 0, .int .i64 i, .bool v]) ∧ Kept w w' := by
  have X1 := Lib.hid (Box.new 0 0 0 0 0 0 false w)
  have HB := Lib.hid (show Kept w (w.alloc (.cells #[.int .i64 0, .int .i64 0, .int .i64 0, .int .i64 0, .int .i64 0, .int .i64 0, .bool false] 23)) from (Kept.refl w).alloc _ _)
  go_enter Try.func48, Try.ntmps48
  go_wp2_with fail
  refine (C0.out _).mono ?_; rintro e w0 ⟨rfl, hK0⟩
  have HK := Lib.hid hK0
  clear hK0
  go_wp2_with fail
  refine (Cu.out _).mono ?_; rintro e w1 ⟨rfl, hK1⟩
  replace HK := Lib.hid (HK.out.trans hK1)
  clear hK1
  go_wp2_with fail
  refine (Cop.out _).mono ?_; rintro e w2 ⟨rfl, hK1⟩
  replace HK := Lib.hid (HK.out.trans hK1)
  clear hK1
  go_wp2_with fail
  refine (Ci.out _).mono ?_; rintro e w' ⟨rfl, rfl⟩
  go_wp2_with fail
  refine (Cv.out _).mono ?_; rintro e w4 ⟨rfl, hK1⟩
  replace HK := Lib.hid (HK.out.trans hK1)
  clear hK1
  obtain ⟨z0, z1, z2, z3, z4, z5, z6⟩ := (X1.out.kept HK.out).cells
  obtain ⟨f0, f1, f2, f3, f4, f5, f6⟩ := (X1.out.kept HK.out).free
  have R := Lib.hid ((X1.out.kept HK.out).stored (k' := 7) (op' := op) (a' := 0) (b' := 0) (c' := 0) (i' := i) (u' := v))
  have RK := Lib.hid ((HB.out.trans HK.out).store7 (B' := w.heap.size) (by omega) (7) (op) (0) (0) (0) (i) (v))
  go_wp2_with fail
  clear z0 z1 z2 z3 z4 z5 z6 f0 f1 f2 f3 f4 f5 f6
  have R := R.out
  have RK := RK.out
  unfold store7 at R RK
  generalize (((((((w4.setCell ⟨w.heap.size, 0, none⟩ (.int .i64 (7))).setCell ⟨w.heap.size, 1, none⟩ (.int .i64 (op))).setCell ⟨w.heap.size, 2, none⟩ (.int .i64 (0))).setCell ⟨w.heap.size, 3, none⟩ (.int .i64 (0))).setCell ⟨w.heap.size, 4, none⟩ (.int .i64 (0))).setCell ⟨w.heap.size, 5, none⟩ (.int .i64 (i))).setCell ⟨w.heap.size, 6, none⟩ (.bool (v))) = w9 at R RK ⊢
  obtain ⟨r0, r1, r2, r3, r4, r5, r6⟩ := R.cells
  exact bodyPost_ret (v := .agg #[.int .i64 7, .int .i64 op, .int .i64 0, .int .i64 0, .int .i64 0, .int .i64 i, .bool v]) (by simp [results, Try.results48, go_sem, r0, r1, r2, r3, r4, r5, r6]) rfl ⟨rfl, RK⟩
set_option maxHeartbeats 2000000 in
theorem read_3b (x op c : Int) (v : Bool) (w : World)
    (C0 : Hid (∀ w, Calls Try.prog 57 #[.int .u32 x, .int .i64 30, .int .i64 2] w fun e w' => e = .returned (.int .u32 3) ∧ Kept w w'))
    (Cu : Hid (∀ w, Calls Try.prog 61 #[.int .u32 x, .int .i64 29] w fun e w' => e = .returned (.bool false) ∧ Kept w w'))
    (Cop : Hid (∀ w, Calls Try.prog 59 #[.int .u32 x, .int .i64 24, .int .i64 4] w fun e w' => e = .returned (.int .i64 op) ∧ Kept w w'))
    (Cc : Hid (∀ w, Calls Try.prog 59 #[.int .u32 x, .int .i64 0, .int .i64 4] w fun e w' => e = .returned (.int .i64 c) ∧ Kept w w'))
    (Cv : Hid (∀ w, Calls Try.prog 61 #[.int .u32 x, .int .i64 28] w fun e w' => e = .returned (.bool v) ∧ Kept w w')) :
    Calls Try.prog 48 #[.int .u32 x] w fun e w' => e = .returned (.agg #[.int .i64 6, .int .i64 op, .int .i64 0, .int .i64 0, .int .i64 c, .int .i64 0, .bool v]) ∧ Kept w w' := by
  have X1 := Lib.hid (Box.new 0 0 0 0 0 0 false w)
  have HB := Lib.hid (show Kept w (w.alloc (.cells #[.int .i64 0, .int .i64 0, .int .i64 0, .int .i64 0, .int .i64 0, .int .i64 0, .bool false] 23)) from (Kept.refl w).alloc _ _)
  go_enter Try.func48, Try.ntmps48
  go_wp2_with fail
  refine (C0.out _).mono ?_; rintro e w0 ⟨rfl, hK0⟩
  have HK := Lib.hid hK0
  clear hK0
  go_wp2_with fail
  refine (Cu.out _).mono ?_; rintro e w1 ⟨rfl, hK1⟩
  replace HK := Lib.hid (HK.out.trans hK1)
  clear hK1
  go_wp2_with fail
  refine (Cop.out _).mono ?_; rintro e w2 ⟨rfl, hK1⟩
  replace HK := Lib.hid (HK.out.trans hK1)
  clear hK1
  go_wp2_with fail
  refine (Cc.out _).mono ?_; rintro e w3 ⟨rfl, hK1⟩
  replace HK := Lib.hid (HK.out.trans hK1)
  clear hK1
  go_wp2_with fail
  refine (Cv.out _).mono ?_; rintro e w4 ⟨rfl, hK1⟩
  replace HK := Lib.hid (HK.out.trans hK1)
  clear hK1
  obtain ⟨z0, z1, z2, z3, z4, z5, z6⟩ := (X1.out.kept HK.out).cells
  obtain ⟨f0, f1, f2, f3, f4, f5, f6⟩ := (X1.out.kept HK.out).free
  have R := Lib.hid ((X1.out.kept HK.out).stored (k' := 6) (op' := op) (a' := 0) (b' := 0) (c' := c) (i' := 0) (u' := v))
  have RK := Lib.hid ((HB.out.trans HK.out).store7 (B' := w.heap.size) (by omega) (6) (op) (0) (0) (c) (0) (v))
  go_wp2_with fail
  clear z0 z1 z2 z3 z4 z5 z6 f0 f1 f2 f3 f4 f5 f6
  have R := R.out
  have RK := RK.out
  unfold store7 at R RK
  generalize (((((((w4.setCell ⟨w.heap.size, 0, none⟩ (.int .i64 (6))).setCell ⟨w.heap.size, 1, none⟩ (.int .i64 (op))).setCell ⟨w.heap.size, 2, none⟩ (.int .i64 (0))).setCell ⟨w.heap.size, 3, none⟩ (.int .i64 (0))).setCell ⟨w.heap.size, 4, none⟩ (.int .i64 (c))).setCell ⟨w.heap.size, 5, none⟩ (.int .i64 (0))).setCell ⟨w.heap.size, 6, none⟩ (.bool (v))) = w9 at R RK ⊢
  obtain ⟨r0, r1, r2, r3, r4, r5, r6⟩ := R.cells
  exact bodyPost_ret (v := .agg #[.int .i64 6, .int .i64 op, .int .i64 0, .int .i64 0, .int .i64 c, .int .i64 0, .bool v]) (by simp [results, Try.results48, go_sem, r0, r1, r2, r3, r4, r5, r6]) rfl ⟨rfl, RK⟩
end Go.Proofs.Ytlmddkciamdldaa

/-
  The contract of Decode.
-/
namespace Go.Proofs.Ytlmddkciamdldaa
open Go.RowKit
set_option linter.unusedVariables false
set_option linter.unusedSimpArgs false
set_option maxRecDepth 100000
theorem readReg_any (x : Int) (hx : U32 x) (h0 : x / 1073741824 = 0) (w : World) :
    Calls Try.prog 58 #[.int .u32 x] w fun e w' => e = .returned (.agg #[.int .i64 (I.guess x).k, .int .i64 (I.guess x).op, .int .i64 (I.guess x).a, .int .i64 (I.guess x).b, .int .i64 (I.guess x).c, .int .i64 (I.guess x).i, .bool (I.guess x).u]) ∧ Kept w w' := by
  have Cop := iget_lit x hx 16 4 65536 16 (by omega) (by omega) (by omega) (by omega) rfl rfl (by omega) (by omega)
  have Ca := iget_lit x hx 24 4 16777216 16 (by omega) (by omega) (by omega) (by omega) rfl rfl (by omega) (by omega)
  have Cb := iget_lit x hx 20 4 1048576 16 (by omega) (by omega) (by omega) (by omega) rfl rfl (by omega) (by omega)
  have Cc := iget_lit x hx 0 4 1 16 (by omega) (by omega) (by omega) (by omega) rfl rfl (by omega) (by omega)
  have Cu := isSet_lit x hx 29 536870912 (by omega) (by omega) rfl
  have Cv := isSet_lit x hx 28 268435456 (by omega) (by omega) rfl
  rw [Int.ediv_one] at Cc
  by_cases hz : x / 65536 % 16 = 0
  · rw [hz] at Cop
    by_cases hu : x / 536870912 % 2 = 1
    · rw [decide_eq_true hu] at Cu
      by_cases hv : x / 268435456 % 2 = 1
      · rw [decide_eq_true hv] at Cv
        have e : I.guess x = ⟨4, 0, x / 16777216 % 16, 0, 0, 0, false⟩ := by unfold I.guess; rw [if_pos h0, if_pos ⟨hu, hz⟩, if_pos hv]
        rw [e]
        exact readReg_4 x _ _ _ w (Lib.hid Cop) (Lib.hid Ca) (Lib.hid Cb) (Lib.hid Cc) (Lib.hid Cu) (Lib.hid Cv)
      · rw [decide_eq_false hv] at Cv
        have e : I.guess x = ⟨3, 0, x / 16777216 % 16, 0, 0, 0, false⟩ := by unfold I.guess; rw [if_pos h0, if_pos ⟨hu, hz⟩, if_neg hv]
        rw [e]
        exact readReg_3 x _ _ _ w (Lib.hid Cop) (Lib.hid Ca) (Lib.hid Cb) (Lib.hid Cc) (Lib.hid Cu) (Lib.hid Cv)
    · rw [decide_eq_false hu] at Cu
      have e : I.guess x = ⟨1, 0, x / 16777216 % 16, x / 1048576 % 16, x % 16, 0, false⟩ := by unfold I.guess; rw [if_pos h0, if_neg (fun h => hu h.1), hz, decide_eq_false hu]
      rw [e]
      exact readReg_2 x _ _ _ w (Lib.hid Cop) (Lib.hid Ca) (Lib.hid Cb) (Lib.hid Cc) (Lib.hid Cu)
  · have e : I.guess x = ⟨1, x / 65536 % 16, x / 16777216 % 16, x / 1048576 % 16, x % 16, 0, decide (x / 536870912 % 2 = 1)⟩ := by unfold I.guess; rw [if_pos h0, if_neg (fun h => hz h.2)]
    rw [e]
    exact readReg_1 x _ _ _ _ _ w hz (Lib.hid Cop) (Lib.hid Ca) (Lib.hid Cb) (Lib.hid Cc) (Lib.hid Cu)
theorem read_any (x : Int) (hx : U32 x) (w : World) :
    Calls Try.prog 48 #[.int .u32 x] w fun e w' => e = .returned (.agg #[.int .i64 (I.guess x).k, .int .i64 (I.guess x).op, .int .i64 (I.guess x).a, .int .i64 (I.guess x).b, .int .i64 (I.guess x).c, .int .i64 (I.guess x).i, .bool (I.guess x).u]) ∧ Kept w w' := by
  have C0 := get_lit x hx 30 2 1073741824 4 (by omega) (by omega) (by omega) (by omega) rfl rfl
  have Ca := iget_lit x hx 24 4 16777216 16 (by omega) (by omega) (by omega) (by omega) rfl rfl (by omega) (by omega)
  have Cb := iget_lit x hx 20 4 1048576 16 (by omega) (by omega) (by omega) (by omega) rfl rfl (by omega) (by omega)
  have Cu := isSet_lit x hx 29 536870912 (by omega) (by omega) rfl
  have Cv := isSet_lit x hx 28 268435456 (by omega) (by omega) rfl
  have hf : x / 1073741824 = 0 ∨ x / 1073741824 = 1 ∨ x / 1073741824 = 2 ∨ x / 1073741824 = 3 := by have := hx.1; have := hx.2; omega
  rcases hf with h | h | h | h
  · rw [h] at C0
    exact read_0 x _ _ _ _ _ _ _ w (Lib.hid C0) (Lib.hid (readReg_any x hx h))
  · rw [h] at C0
    have Cop := iget_lit x hx 16 4 65536 16 (by omega) (by omega) (by omega) (by omega) rfl rfl (by omega) (by omega)
    have e : I.guess x = ⟨2, x / 65536 % 16, x / 16777216 % 16, x / 1048576 % 16, 0, if x / 268435456 % 2 = 1 then x % 65536 - 65536 else x % 65536, decide (x / 536870912 % 2 = 1)⟩ := by unfold I.guess; rw [if_neg (by omega), if_pos h]
    rw [e]
    exact read_1 x _ _ _ _ _ w (Lib.hid C0) (Lib.hid Cop) (Lib.hid Ca) (Lib.hid Cb) (Lib.hid (readImm_any x hx)) (Lib.hid Cu)
  · rw [h] at C0
    have Cop := iget_lit x hx 28 2 268435456 4 (by omega) (by omega) (by omega) (by omega) rfl rfl (by omega) (by omega)
    have e : I.guess x = ⟨5, x / 268435456 % 4, x / 16777216 % 16, x / 1048576 % 16, 0, I.sx 524288 (x % 1048576), false⟩ := by unfold I.guess; rw [if_neg (by omega), if_neg (by omega), if_pos h]
    rw [e]
    exact read_2 x _ _ _ _ w (Lib.hid C0) (Lib.hid Cop) (Lib.hid Ca) (Lib.hid Cb) (Lib.hid (sgn_lit x hx 20 _ (I.sx20 x)))
  · rw [h] at C0
    by_cases hu : x / 536870912 % 2 = 1
    · rw [decide_eq_true hu] at Cu
      have e : I.guess x = ⟨7, x / 16777216 % 16, 0, 0, 0, I.sx 8388608 (x % 16777216), decide (x / 268435456 % 2 = 1)⟩ := by unfold I.guess; rw [if_neg (by omega), if_neg (by omega), if_neg (by omega), if_pos hu]
      rw [e]
      exact read_3j x _ _ _ w (Lib.hid C0) (Lib.hid Cu) (Lib.hid Ca) (Lib.hid (sgn_lit x hx 24 _ (I.sx24 x))) (Lib.hid Cv)
    · rw [decide_eq_false hu] at Cu
      have Cc := iget_lit x hx 0 4 1 16 (by omega) (by omega) (by omega) (by omega) rfl rfl (by omega) (by omega)
      rw [Int.ediv_one] at Cc
      have e : I.guess x = ⟨6, x / 16777216 % 16, 0, 0, x % 16, 0, decide (x / 268435456 % 2 = 1)⟩ := by unfold I.guess; rw [if_neg (by omega), if_neg (by omega), if_neg (by omega), if_neg hu]
      rw [e]
      exact read_3b x _ _ _ w (Lib.hid C0) (Lib.hid Cu) (Lib.hid Ca) (Lib.hid Cc) (Lib.hid Cv)
set_option maxHeartbeats 2000000 in
theorem dec_1 (x k op a b c i : Int) (u : Bool) (w : World)
    (CR : Hid (∀ w, Calls Try.prog 48 #[.int .u32 x] w fun e w' => e = .returned (.agg #[.int .i64 k, .int .i64 op, .int .i64 a, .int .i64 b, .int .i64 c, .int .i64 i, .bool u]) ∧ Kept w w'))
    (CE : Hid (∀ w, Calls Try.prog 9 #[.agg #[.int .i64 k, .int .i64 op, .int .i64 a, .int .i64 b, .int .i64 c, .int .i64 i, .bool u]] w fun e w' => e = .returned (.tuple #[.int .u32 0, .int .i64 1]) ∧ Kept w w')) :
    Calls Try.prog 38 #[.int .u32 x] w fun e w' => e = .returned (.tuple #[.agg #[.int .i64 0, .int .i64 0, .int .i64 0, .int .i64 0, .int .i64 0, .int .i64 0, .bool false], .bool false]) ∧ Kept w w' := by
  have X1 := Lib.hid (Box.new 0 0 0 0 0 0 false w)
  have HB := Lib.hid (show Kept w (w.alloc (.cells #[.int .i64 0, .int .i64 0, .int .i64 0, .int .i64 0, .int .i64 0, .int .i64 0, .bool false] 23)) from (Kept.refl w).alloc _ _)
  have HL := Lib.hid (show w.heap.size < (w.alloc (.cells #[.int .i64 0, .int .i64 0, .int .i64 0, .int .i64 0, .int .i64 0, .int .i64 0, .bool false] 23)).heap.size from by simp)
  go_enter Try.func38, Try.ntmps38
  go_wp2_with fail
  refine (CR.out _).mono ?_; rintro e w5 ⟨rfl, hK1⟩
  have HK := Lib.hid hK1
  have HN := Lib.hid (show w.heap.size ≠ w5.heap.size from by have := HK.out.size; have := HL.out; omega)
  clear hK1
  go_upto_region 2 with (fail)
  have XI := Box.new k op a b c i u w5
  have XZ := (X1.out.kept HK.out).alloc (.cells #[.int .i64 k, .int .i64 op, .int .i64 a, .int .i64 b, .int .i64 c, .int .i64 i, .bool u] 23)
  have KK := (HB.out.trans HK.out).alloc #[.int .i64 k, .int .i64 op, .int .i64 a, .int .i64 b, .int .i64 c, .int .i64 i, .bool u] 23
  generalize (w5.alloc (.cells #[.int .i64 k, .int .i64 op, .int .i64 a, .int .i64 b, .int .i64 c, .int .i64 i, .bool u] 23)) = w6 at XI XZ KK ⊢
  generalize w5.heap.size = B2 at HN XI ⊢
  have HI := Lib.hid XI
  have HZ := Lib.hid XZ
  have HKK := Lib.hid KK
  clear HK X1 HB HL XI XZ KK
  obtain ⟨i0, i1, i2, i3, i4, i5, i6⟩ := HI.out.cells
  go_wp2_with fail
  refine (CE.out _).mono ?_; rintro e w7 ⟨rfl, hK6⟩
  clear i0 i1 i2 i3 i4 i5 i6
  obtain ⟨i0, i1, i2, i3, i4, i5, i6⟩ := (HI.out.kept hK6).cells
  obtain ⟨z0, z1, z2, z3, z4, z5, z6⟩ := (HZ.out.kept hK6).cells
  obtain ⟨f0, f1, f2, f3, f4, f5, f6⟩ := (HZ.out.kept hK6).free
  have R := Lib.hid ((HZ.out.kept hK6).stored (k' := 0) (op' := 0) (a' := 0) (b' := 0) (c' := 0) (i' := 0) (u' := false))
  have RK := Lib.hid ((HKK.out.trans hK6).store7 (B' := w.heap.size) (by omega) (0) (0) (0) (0) (0) (0) (false))
  go_wp2_with fail
  clear z0 z1 z2 z3 z4 z5 z6 f0 f1 f2 f3 f4 f5 f6
  have R := R.out
  have RK := RK.out
  unfold store7 at R RK
  generalize (((((((w7.setCell ⟨w.heap.size, 0, none⟩ (.int .i64 (0))).setCell ⟨w.heap.size, 1, none⟩ (.int .i64 (0))).setCell ⟨w.heap.size, 2, none⟩ (.int .i64 (0))).setCell ⟨w.heap.size, 3, none⟩ (.int .i64 (0))).setCell ⟨w.heap.size, 4, none⟩ (.int .i64 (0))).setCell ⟨w.heap.size, 5, none⟩ (.int .i64 (0))).setCell ⟨w.heap.size, 6, none⟩ (.bool (false))) = w9 at R RK ⊢
  obtain ⟨r0, r1, r2, r3, r4, r5, r6⟩ := R.cells
  exact bodyPost_ret (v := .tuple #[.agg #[.int .i64 0, .int .i64 0, .int .i64 0, .int .i64 0, .int .i64 0, .int .i64 0, .bool false], .bool false]) (by simp [results, Try.results38, go_sem, r0, r1, r2, r3, r4, r5, r6]) rfl ⟨rfl, RK⟩
set_option maxHeartbeats 2000000 in
theorem dec_2 (x k op a b c i own : Int) (u : Bool) (hne : ¬ own = x) (hn1 : (own == x) = false) (hn2 : (own != x) = true) (w : World)
    (CR : Hid (∀ w, Calls Try.prog 48 #[.int .u32 x] w fun e w' => e = .returned (.agg #[.int .i64 k, .int .i64 op, .int .i64 a, .int .i64 b, .int .i64 c, .int .i64 i, .bool u]) ∧ Kept w w'))
    (CE : Hid (∀ w, Calls Try.prog 9 #[.agg #[.int .i64 k, .int .i64 op, .int .i64 a, .int .i64 b, .int .i64 c, .int .i64 i, .bool u]] w fun e w' => e = .returned (.tuple #[.int .u32 own, .int .i64 0]) ∧ Kept w w')) :
    Calls Try.prog 38 #[.int .u32 x] w fun e w' => e = .returned (.tuple #[.agg #[.int .i64 0, .int .i64 0, .int .i64 0, .int .i64 0, .int .i64 0, .int .i64 0, .bool false], .bool false]) ∧ Kept w w' := by
  have X1 := Lib.hid (Box.new 0 0 0 0 0 0 false w)
  have HB := Lib.hid (show Kept w (w.alloc (.cells #[.int .i64 0, .int .i64 0, .int .i64 0, .int .i64 0, .int .i64 0, .int .i64 0, .bool false] 23)) from (Kept.refl w).alloc _ _)
  have HL := Lib.hid (show w.heap.size < (w.alloc (.cells #[.int .i64 0, .int .i64 0, .int .i64 0, .int .i64 0, .int .i64 0, .int .i64 0, .bool false] 23)).heap.size from by simp)
  go_enter Try.func38, Try.ntmps38
  go_wp2_with fail
  refine (CR.out _).mono ?_; rintro e w5 ⟨rfl, hK1⟩
  have HK := Lib.hid hK1
  have HN := Lib.hid (show w.heap.size ≠ w5.heap.size from by have := HK.out.size; have := HL.out; omega)
  clear hK1
  go_upto_region 2 with (fail)
  have XI := Box.new k op a b c i u w5
  have XZ := (X1.out.kept HK.out).alloc (.cells #[.int .i64 k, .int .i64 op, .int .i64 a, .int .i64 b, .int .i64 c, .int .i64 i, .bool u] 23)
  have KK := (HB.out.trans HK.out).alloc #[.int .i64 k, .int .i64 op, .int .i64 a, .int .i64 b, .int .i64 c, .int .i64 i, .bool u] 23
  generalize (w5.alloc (.cells #[.int .i64 k, .int .i64 op, .int .i64 a, .int .i64 b, .int .i64 c, .int .i64 i, .bool u] 23)) = w6 at XI XZ KK ⊢
  generalize w5.heap.size = B2 at HN XI ⊢
  have HI := Lib.hid XI
  have HZ := Lib.hid XZ
  have HKK := Lib.hid KK
  clear HK X1 HB HL XI XZ KK
  obtain ⟨i0, i1, i2, i3, i4, i5, i6⟩ := HI.out.cells
  go_wp2_with fail
  refine (CE.out _).mono ?_; rintro e w7 ⟨rfl, hK6⟩
  clear i0 i1 i2 i3 i4 i5 i6
  obtain ⟨i0, i1, i2, i3, i4, i5, i6⟩ := (HI.out.kept hK6).cells
  obtain ⟨z0, z1, z2, z3, z4, z5, z6⟩ := (HZ.out.kept hK6).cells
  obtain ⟨f0, f1, f2, f3, f4, f5, f6⟩ := (HZ.out.kept hK6).free
  have R := Lib.hid ((HZ.out.kept hK6).stored (k' := 0) (op' := 0) (a' := 0) (b' := 0) (c' := 0) (i' := 0) (u' := false))
  have RK := Lib.hid ((HKK.out.trans hK6).store7 (B' := w.heap.size) (by omega) (0) (0) (0) (0) (0) (0) (false))
  go_wp2_with fail
  clear z0 z1 z2 z3 z4 z5 z6 f0 f1 f2 f3 f4 f5 f6
  have R := R.out
  have RK := RK.out
  unfold store7 at R RK
  generalize (((((((w7.setCell ⟨w.heap.size, 0, none⟩ (.int .i64 (0))).setCell ⟨w.heap.size, 1, none⟩ (.int .i64 (0))).setCell ⟨w.heap.size, 2, none⟩ (.int .i64 (0))).setCell ⟨w.heap.size, 3, none⟩ (.int .i64 (0))).setCell ⟨w.heap.size, 4, none⟩ (.int .i64 (0))).setCell ⟨w.heap.size, 5, none⟩ (.int .i64 (0))).setCell ⟨w.heap.size, 6, none⟩ (.bool (false))) = w9 at R RK ⊢
  obtain ⟨r0, r1, r2, r3, r4, r5, r6⟩ := R.cells
  exact bodyPost_ret (v := .tuple #[.agg #[.int .i64 0, .int .i64 0, .int .i64 0, .int .i64 0, .int .i64 0, .int .i64 0, .bool false], .bool false]) (by simp [results, Try.results38, go_sem, r0, r1, r2, r3, r4, r5, r6]) rfl ⟨rfl, RK⟩
set_option maxHeartbeats 2000000 in
theorem dec_3 (x k op a b c i : Int) (u : Bool) (w : World)
    (CR : Hid (∀ w, Calls Try.prog 48 #[.int .u32 x] w fun e w' => e = .returned (.agg #[.int .i64 k, .int .i64 op, .int .i64 a, .int .i64 b, .int .i64 c, .int .i64 i, .bool u]) ∧ Kept w w'))
    (CE : Hid (∀ w, Calls Try.prog 9 #[.agg #[.int .i64 k, .int .i64 op, .int .i64 a, .int .i64 b, .int .i64 c, .int .i64 i, .bool u]] w fun e w' => e = .returned (.tuple #[.int .u32 x, .int .i64 0]) ∧ Kept w w')) :
    Calls Try.prog 38 #[.int .u32 x] w fun e w' => e = .returned (.tuple #[.agg #[.int .i64 k, .int .i64 op, .int .i64 a, .int .i64 b, .int .i64 c, .int .i64 i, .bool u], .bool true]) ∧ Kept w w' := by
  have X1 := Lib.hid (Box.new 0 0 0 0 0 0 false w)
  have HB := Lib.hid (show Kept w (w.alloc (.cells #[.int .i64 0, .int .i64 0, .int .i64 0, .int .i64 0, .int .i64 0, .int .i64 0, .bool false] 23)) from (Kept.refl w).alloc _ _)
  have HL := Lib.hid (show w.heap.size < (w.alloc (.cells #[.int .i64 0, .int .i64 0, .int .i64 0, .int .i64 0, .int .i64 0, .int .i64 0, .bool false] 23)).heap.size from by simp)
  go_enter Try.func38, Try.ntmps38
  go_wp2_with fail
  refine (CR.out _).mono ?_; rintro e w5 ⟨rfl, hK1⟩
  have HK := Lib.hid hK1
  have HN := Lib.hid (show w.heap.size ≠ w5.heap.size from by have := HK.out.size; have := HL.out; omega)
  clear hK1
  go_upto_region 2 with (fail)
  have XI := Box.new k op a b c i u w5
  have XZ := (X1.out.kept HK.out).alloc (.cells #[.int .i64 k, .int .i64 op, .int .i64 a, .int .i64 b, .int .i64 c, .int .i64 i, .bool u] 23)
  have KK := (HB.out.trans HK.out).alloc #[.int .i64 k, .int .i64 op, .int .i64 a, .int .i64 b, .int .i64 c, .int .i64 i, .bool u] 23
  generalize (w5.alloc (.cells #[.int .i64 k, .int .i64 op, .int .i64 a, .int .i64 b, .int .i64 c, .int .i64 i, .bool u] 23)) = w6 at XI XZ KK ⊢
  generalize w5.heap.size = B2 at HN XI ⊢
  have HI := Lib.hid XI
  have HZ := Lib.hid XZ
  have HKK := Lib.hid KK
  clear HK X1 HB HL XI XZ KK
  obtain ⟨i0, i1, i2, i3, i4, i5, i6⟩ := HI.out.cells
  go_wp2_with fail
  refine (CE.out _).mono ?_; rintro e w7 ⟨rfl, hK6⟩
  clear i0 i1 i2 i3 i4 i5 i6
  obtain ⟨i0, i1, i2, i3, i4, i5, i6⟩ := (HI.out.kept hK6).cells
  obtain ⟨z0, z1, z2, z3, z4, z5, z6⟩ := (HZ.out.kept hK6).cells
  obtain ⟨f0, f1, f2, f3, f4, f5, f6⟩ := (HZ.out.kept hK6).free
  have R := Lib.hid ((HZ.out.kept hK6).stored (k' := k) (op' := op) (a' := a) (b' := b) (c' := c) (i' := i) (u' := u))
  have RK := Lib.hid ((HKK.out.trans hK6).store7 (B' := w.heap.size) (by omega) (k) (op) (a) (b) (c) (i) (u))
  go_wp2_with fail
  clear z0 z1 z2 z3 z4 z5 z6 f0 f1 f2 f3 f4 f5 f6
  have R := R.out
  have RK := RK.out
  unfold store7 at R RK
  generalize (((((((w7.setCell ⟨w.heap.size, 0, none⟩ (.int .i64 (k))).setCell ⟨w.heap.size, 1, none⟩ (.int .i64 (op))).setCell ⟨w.heap.size, 2, none⟩ (.int .i64 (a))).setCell ⟨w.heap.size, 3, none⟩ (.int .i64 (b))).setCell ⟨w.heap.size, 4, none⟩ (.int .i64 (c))).setCell ⟨w.heap.size, 5, none⟩ (.int .i64 (i))).setCell ⟨w.heap.size, 6, none⟩ (.bool (u))) = w9 at R RK ⊢
  obtain ⟨r0, r1, r2, r3, r4, r5, r6⟩ := R.cells
  exact bodyPost_ret (v := .tuple #[.agg #[.int .i64 k, .int .i64 op, .int .i64 a, .int .i64 b, .int .i64 c, .int .i64 i, .bool u], .bool true]) (by simp [results, Try.results38, go_sem, r0, r1, r2, r3, r4, r5, r6]) rfl ⟨rfl, RK⟩
theorem dec_any (x : Int) (hx : U32 x) (w : World) :
    Calls Try.prog 38 #[.int .u32 x] w fun e w' => e = .returned (.tuple #[.agg #[.int .i64 (I.dec x).k, .int .i64 (I.dec x).op, .int .i64 (I.dec x).a, .int .i64 (I.dec x).b, .int .i64 (I.dec x).c, .int .i64 (I.dec x).i, .bool (I.dec x).u], .bool (I.is x)]) ∧ Kept w w' := by
  have CR := read_any x hx
  have CE := enc_any (I.guess x).k (I.guess x).op (I.guess x).a (I.guess x).b (I.guess x).c (I.guess x).i (I.guess x).u
  by_cases hm : I.may (I.guess x) = true
  · have e1 : I.err (I.guess x) = 0 := by simp [I.err, hm]
    have e2 : I.enc (I.guess x) = I.word (I.guess x) := by simp [I.enc, hm]
    have CE : ∀ w, Calls Try.prog 9 #[.agg #[.int .i64 (I.guess x).k, .int .i64 (I.guess x).op, .int .i64 (I.guess x).a, .int .i64 (I.guess x).b, .int .i64 (I.guess x).c, .int .i64 (I.guess x).i, .bool (I.guess x).u]] w fun e w' => e = .returned (.tuple #[.int .u32 (I.enc (I.guess x)), .int .i64 (I.err (I.guess x))]) ∧ Kept w w' := CE
    rw [e1, e2] at CE
    by_cases ho : I.word (I.guess x) = x
    · have e3 : I.is x = true := by simp [I.is, hm, ho]
      rw [ho] at CE
      rw [show I.dec x = I.guess x by simp [I.dec, e3], e3]
      exact dec_3 x _ _ _ _ _ _ _ w (Lib.hid CR) (Lib.hid CE)
    · have e3 : I.is x = false := by simp [I.is, ho]
      rw [show I.dec x = ⟨0, 0, 0, 0, 0, 0, false⟩ by simp [I.dec, e3], e3]
      exact dec_2 x _ _ _ _ _ _ _ _ ho (by simpa using ho) (by simpa using ho) w (Lib.hid CR) (Lib.hid CE)
  · have hm : I.may (I.guess x) = false := by simpa using hm
    have e1 : I.err (I.guess x) = 1 := by simp [I.err, hm]
    have e2 : I.enc (I.guess x) = 0 := by simp [I.enc, hm]
    have CE : ∀ w, Calls Try.prog 9 #[.agg #[.int .i64 (I.guess x).k, .int .i64 (I.guess x).op, .int .i64 (I.guess x).a, .int .i64 (I.guess x).b, .int .i64 (I.guess x).c, .int .i64 (I.guess x).i, .bool (I.guess x).u]] w fun e w' => e = .returned (.tuple #[.int .u32 (I.enc (I.guess x)), .int .i64 (I.err (I.guess x))]) ∧ Kept w w' := CE
    rw [e1, e2] at CE
    have e3 : I.is x = false := by simp [I.is, hm]
    rw [show I.dec x = ⟨0, 0, 0, 0, 0, 0, false⟩ by simp [I.dec, e3], e3]
    exact dec_1 x _ _ _ _ _ _ _ w (Lib.hid CR) (Lib.hid CE)
end Go.Proofs.Ytlmddkciamdldaa

/-
  A step of a machine, plainly; the contract of do.
-/
namespace Go.Proofs.Ytlmddkciamdldaa
open Go.RowKit
set_option linter.unusedVariables false
set_option linter.unusedSimpArgs false
set_option maxRecDepth 100000
namespace X
def beh (x : St) : Int := (x.pc + 4) % 4294967296
def adr (x : St) (j : I.Ins) : Int := (x.s.r j.b.toNat + j.i % 4294967296) % 4294967296
noncomputable def doS (x : St) (j : I.Ins) : A.Regs :=
  if j.k = 5 then (if j.op = 0 then A.show' (A.set x.s j.a.toNat (ldV x (adr x j))) (ldV x (adr x j)) else if j.op = 1 then A.show' (A.set x.s j.a.toNat (M.byte x.ws (adr x j))) (M.byte x.ws (adr x j)) else x.s)
  else if j.k = 6 ∨ j.k = 7 then brS x.s (beh x) j.op j.u else (A.run x.s j).1
def doP (x : St) (j : I.Ins) : Int := if j.k = 6 ∨ j.k = 7 then brP x.s (beh x) j.k j.op j.c j.i else beh x
noncomputable def doT (x : St) (j : I.Ins) : Int :=
  if j.k = 5 then (if j.op = 0 then ldT x (adr x j) else if j.op = 1 then M.bt x.ws (adr x j) else if j.op = 2 then swT x (adr x j) else M.bt x.ws (adr x j))
  else if j.k = 6 ∨ j.k = 7 then 0 else (A.run x.s j).2
def doX (x : St) (j : I.Ins) : St :=
  if j.k = 5 then (if j.op = 0 then ⟨x.ws, x.s, x.pc, x.st, ldI x (adr x j), x.outs⟩ else if j.op = 1 then x else if j.op = 2 then ⟨swW x (adr x j) (x.s.r j.a.toNat), x.s, x.pc, x.st, x.ins, swO x (adr x j) (x.s.r j.a.toNat)⟩ else ⟨M.setB x.ws (adr x j) (x.s.r j.a.toNat % 256), x.s, x.pc, x.st, x.ins, x.outs⟩)
  else x
noncomputable def nextT (x : St) : Int := if M.wt x.ws x.pc = 0 then (if I.is (M.word x.ws x.pc) = true then doT x (I.dec (M.word x.ws x.pc)) else 2) else M.wt x.ws x.pc
noncomputable def nextX (x : St) : St :=
  if M.wt x.ws x.pc = 0 ∧ I.is (M.word x.ws x.pc) = true then
    (if doT x (I.dec (M.word x.ws x.pc)) = 0 ∨ doT x (I.dec (M.word x.ws x.pc)) = 1 then ⟨(doX x (I.dec (M.word x.ws x.pc))).ws, doS x (I.dec (M.word x.ws x.pc)), doP x (I.dec (M.word x.ws x.pc)), x.st, (doX x (I.dec (M.word x.ws x.pc))).ins, (doX x (I.dec (M.word x.ws x.pc))).outs⟩
    else doX x (I.dec (M.word x.ws x.pc)))
  else x
noncomputable def step (x : St) : St := if x.st = 0 then ⟨(nextX x).ws, (nextX x).s, (nextX x).pc, nextT x, (nextX x).ins, (nextX x).outs⟩ else x
theorem beh_ok (x : St) : 0 ≤ beh x ∧ beh x < 4294967296 := by unfold beh; omega
theorem adr_ok (x : St) (j : I.Ins) : 0 ≤ adr x j ∧ adr x j < 4294967296 := by unfold adr; omega
theorem doX_eq (x : St) (j : I.Ins) : (doX x j).s = x.s ∧ (doX x j).pc = x.pc ∧ (doX x j).st = x.st := by
  unfold doX
  split
  · split
    · exact ⟨rfl, rfl, rfl⟩
    · split
      · exact ⟨rfl, rfl, rfl⟩
      · split <;> exact ⟨rfl, rfl, rfl⟩
  · exact ⟨rfl, rfl, rfl⟩
theorem swO_len (x : St) (a v : Int) : (swO x a v).length ≤ x.outs.length + 1 := by
  unfold swO
  split
  · simp
  · omega
theorem doX_outs (x : St) (j : I.Ins) : (doX x j).outs.length ≤ x.outs.length + 1 := by
  unfold doX
  split
  · split
    · simp
    · split
      · omega
      · split
        · exact swO_len _ _ _
        · simp
  · omega
theorem step_outs (x : St) : (step x).outs.length ≤ x.outs.length + 1 := by
  unfold step
  split
  · show (nextX x).outs.length ≤ _
    unfold nextX
    split
    · split <;> exact doX_outs _ _
    · omega
  · omega
theorem word_ok (ws : List Int) (a : Int) (h : ∀ y ∈ ws, 0 ≤ y ∧ y < 4294967296) : 0 ≤ M.word ws a ∧ M.word ws a < 4294967296 := by
  unfold M.word
  split
  · by_cases c : (a / 4).toNat < ws.length
    · rw [show ws.getD (a / 4).toNat 0 = ws[(a / 4).toNat] by simp [c]]
      exact h _ (List.getElem_mem c)
    · rw [show ws.getD (a / 4).toNat 0 = 0 by simp [List.getElem?_eq_none (by omega : ws.length ≤ (a / 4).toNat)]]
      omega
  · omega
theorem byte_ok (ws : List Int) (a : Int) : 0 ≤ M.byte ws a ∧ M.byte ws a < 256 := by
  unfold M.byte
  split <;> omega
theorem head_ok (l : List Int) (h : ∀ y ∈ l, 0 ≤ y ∧ y < 4294967296) : 0 ≤ l.headD 0 ∧ l.headD 0 < 4294967296 := by
  cases l with
  | nil => simp
  | cons y r => exact h y (by simp)
theorem ldV_ok (x : St) (a : Int) (h1 : ∀ y ∈ x.ws, 0 ≤ y ∧ y < 4294967296) (h2 : ∀ y ∈ x.ins, 0 ≤ y ∧ y < 4294967296) : 0 ≤ ldV x a ∧ ldV x a < 4294967296 := by
  unfold ldV
  split
  · exact head_ok _ h2
  · exact word_ok _ _ h1
theorem brS_ok (s : A.Regs) (y op : Int) (u : Bool) (hs : A.Ok s) (h0 : 0 ≤ y) (h1 : y < 4294967296) : A.Ok (brS s y op u) := by
  unfold brS
  split
  · exact A.ok_set s 15 y hs h0 h1
  · exact hs
theorem brP_ok (s : A.Regs) (y k op c i : Int) (hs : A.Ok s) (h0 : 0 ≤ y) (h1 : y < 4294967296) (c1 : c < 16) : 0 ≤ brP s y k op c i ∧ brP s y k op c i < 4294967296 := by
  unfold brP
  split
  · split
    · exact hs.1 _ (by omega)
    · omega
  · exact ⟨h0, h1⟩
theorem doS_ok (x : St) (j : I.Ins) (hs : A.Ok x.s) (h1 : ∀ y ∈ x.ws, 0 ≤ y ∧ y < 4294967296) (h2 : ∀ y ∈ x.ins, 0 ≤ y ∧ y < 4294967296) : A.Ok (doS x j) := by
  unfold doS
  split
  · split
    · have := ldV_ok x (adr x j) h1 h2
      exact A.ok_show _ _ (A.ok_set _ _ _ hs this.1 this.2)
    · split
      · have := byte_ok x.ws (adr x j)
        exact A.ok_show _ _ (A.ok_set _ _ _ hs this.1 (by omega))
      · exact hs
  · split
    · exact brS_ok _ _ _ _ hs (beh_ok x).1 (beh_ok x).2
    · exact A.run_ok _ _ hs
theorem doP_ok (x : St) (j : I.Ins) (hs : A.Ok x.s) (hc : j.c < 16) : 0 ≤ doP x j ∧ doP x j < 4294967296 := by
  unfold doP
  split
  · exact brP_ok _ _ _ _ _ _ hs (beh_ok x).1 (beh_ok x).2 hc
  · exact beh_ok x
end X
theorem move_any {F : Nat → Prop} {B : Nat} {x : X.St} {w : World} (h : Mac F B x w) (op a b c i : Int) (u : Bool) (hm : I.May ⟨5, op, a, b, c, i, u⟩) (hn : x.outs.length < 1000000) :
    Calls Try.prog 49 #[.pointer (some ⟨B, 0, none⟩), .agg #[.int .i64 5, .int .i64 op, .int .i64 a, .int .i64 b, .int .i64 c, .int .i64 i, .bool u]] w fun e w' => e = .returned (.tuple #[.agg (A.cells (X.doS x ⟨5, op, a, b, c, i, u⟩)), .int .i64 (X.doT x ⟨5, op, a, b, c, i, u⟩)]) ∧ ∃ F', Mac F' B (X.doX x ⟨5, op, a, b, c, i, u⟩) w' ∧ Turn F w w' ∧ ∀ k, F' k → F k ∨ w.heap.size ≤ k := by
  obtain ⟨⟨a0, a1, b0, b1, c0, c1⟩, hm2⟩ := hm
  simp only at a0 a1 b0 b1 c0 c1 hm2
  have ho : op = 0 ∨ op = 1 ∨ op = 2 ∨ op = 3 := by omega
  obtain ⟨ai, ni, ci, ao, no, co, hA⟩ := h
  have hws := hA.mem.rng
  have hin := hA.ins.rng
  have hadr := X.adr_ok x ⟨5, op, a, b, c, i, u⟩
  rcases ho with rfl | rfl | rfl | rfl
  · have hv := X.ldV_ok x (X.adr x ⟨5, 0, a, b, c, i, u⟩) hws hin
    refine (move_0 hA 5 a b c i _ _ _ u a0 (by omega) b0 (by omega) hadr.1 hadr.2 rfl hv.1 hv.2 fun w' h' => busLoad_any h' _ hadr.1 hadr.2).mono ?_
    rintro e w' ⟨he, hB, ai', ni', ci', h3⟩
    exact ⟨he, F, ⟨_, _, _, _, _, _, h3⟩, hB.turn hA.inB, fun k hk => Or.inl hk⟩
  · have hv := X.byte_ok x.ws (X.adr x ⟨5, 1, a, b, c, i, u⟩)
    refine (move_1 hA 5 a b c i _ _ _ u a0 (by omega) b0 (by omega) hadr.1 hadr.2 rfl hv.1 hv.2 fun w' h' => M.byte_any h'.mem _ hadr.1 hadr.2).mono ?_
    rintro e w' ⟨he, hK⟩
    exact ⟨he, F, ⟨_, _, _, _, _, _, hA.kept hK⟩, hK.turn F, fun k hk => Or.inl hk⟩
  · have hr := hA.ok.1 a.toNat (by omega)
    refine (move_2 hA 5 a b c i _ _ _ u a0 (by omega) b0 (by omega) hadr.1 hadr.2 rfl rfl _ _ fun w' h' => busStore_any h' _ _ hadr.1 hadr.2 hr.1 hr.2 hn).mono ?_
    rintro e w' ⟨he, F', ao', no', co', h3, h4, h5⟩
    exact ⟨he, F', ⟨_, _, _, _, _, _, h3⟩, h4, h5⟩
  · refine (move_3 hA 5 a b c i (X.adr x ⟨5, 3, a, b, c, i, u⟩) (M.bt x.ws (X.adr x ⟨5, 3, a, b, c, i, u⟩)) (x.s.r a.toNat % 256) u a0 (by omega) b0 (by omega) hadr.1 hadr.2 rfl rfl (M.setB x.ws (X.adr x ⟨5, 3, a, b, c, i, u⟩) (x.s.r a.toNat % 256)) fun w' h' => (M.setB_any h'.mem _ _ hadr.1 hadr.2 (by omega) (by omega)).mono ?_).mono ?_
    · rintro e w2 ⟨he, h3, hB⟩
      exact ⟨he, hB, h'.own hB _ _ _ _ h3 h'.ok h'.pc0 h'.pc1⟩
    · rintro e w' ⟨he, hB, h3⟩
      exact ⟨he, F, ⟨_, _, _, _, _, _, h3⟩, hB.turn hA.inB, fun k hk => Or.inl hk⟩
theorem do_any {F : Nat → Prop} {B : Nat} {x : X.St} {w : World} (h : Mac F B x w) (k op a b c i : Int) (u : Bool) (hm : I.May ⟨k, op, a, b, c, i, u⟩) (hn : x.outs.length < 1000000) :
    Calls Try.prog 39 #[.pointer (some ⟨B, 0, none⟩), .agg #[.int .i64 k, .int .i64 op, .int .i64 a, .int .i64 b, .int .i64 c, .int .i64 i, .bool u]] w fun e w' => e = .returned (.tuple #[.agg (A.cells (X.doS x ⟨k, op, a, b, c, i, u⟩)), .int .u32 (X.doP x ⟨k, op, a, b, c, i, u⟩), .int .i64 (X.doT x ⟨k, op, a, b, c, i, u⟩)]) ∧ ∃ F', Mac F' B (X.doX x ⟨k, op, a, b, c, i, u⟩) w' ∧ Turn F w w' ∧ ∀ k, F' k → F k ∨ w.heap.size ≤ k := by
  have hok := h.bounds.1
  have hb := X.beh_ok x
  by_cases k5 : k = 5
  · subst k5
    exact do_5 h op a b c i _ _ _ u rfl fun w' h' => move_any h' op a b c i u hm hn
  · have hX : X.doX x ⟨k, op, a, b, c, i, u⟩ = x := if_neg k5
    rw [hX]
    obtain ⟨⟨a0, a1, b0, b1, c0, c1⟩, hm2⟩ := hm
    simp only at a0 a1 b0 b1 c0 c1 hm2
    have fin : ∀ (e : Ending) (w' : World) (v : Value), (e = .returned v ∧ Kept w w') → e = .returned v ∧ ∃ F', Mac F' B x w' ∧ Turn F w w' ∧ ∀ k, F' k → F k ∨ w.heap.size ≤ k := fun e w' v hh => ⟨hh.1, F, h.kept hh.2, hh.2.turn F, fun k hk => Or.inl hk⟩
    by_cases k67 : k = 6 ∨ k = 7
    · have e1 : X.doS x ⟨k, op, a, b, c, i, u⟩ = X.brS x.s (X.beh x) op u := by unfold X.doS; rw [if_neg k5, if_pos k67]
      have e2 : X.doP x ⟨k, op, a, b, c, i, u⟩ = X.brP x.s (X.beh x) k op c i := by unfold X.doP; rw [if_pos k67]
      have e3 : X.doT x ⟨k, op, a, b, c, i, u⟩ = 0 := by unfold X.doT; rw [if_neg k5, if_pos k67]
      rw [e1, e2, e3]
      have L := fun w' => branch_any x.s (X.beh x) k op a b c i u hb.1 hb.2 c0 (by omega) (by omega) (by omega) k67 w'
      rcases k67 with rfl | rfl
      · exact (do_6 h op a b c i _ _ _ u rfl L).mono fun e w' hh => fin e w' _ hh
      · exact (do_7 h op a b c i _ _ _ u rfl L).mono fun e w' hh => fin e w' _ hh
    · have e1 : X.doS x ⟨k, op, a, b, c, i, u⟩ = (A.run x.s ⟨k, op, a, b, c, i, u⟩).1 := by unfold X.doS; rw [if_neg k5, if_neg k67]
      have e2 : X.doP x ⟨k, op, a, b, c, i, u⟩ = X.beh x := by unfold X.doP; rw [if_neg k67]
      have e3 : X.doT x ⟨k, op, a, b, c, i, u⟩ = (A.run x.s ⟨k, op, a, b, c, i, u⟩).2 := by unfold X.doT; rw [if_neg k5, if_neg k67]
      rw [e1, e2, e3]
      exact (do_0 h k op a b c i _ _ _ u k5 (by omega) (by omega) rfl fun w' => do_run x.s k op a b c i u hok w').mono fun e w' hh => fin e w' _ hh
end Go.Proofs.Ytlmddkciamdldaa

/-
  The contracts of package machine: next, Step, Run; what it tells.
-/
namespace Go.Proofs.Ytlmddkciamdldaa
open Go.RowKit
set_option linter.unusedVariables false
set_option linter.unusedSimpArgs false
set_option maxRecDepth 100000
theorem Mac.rngs {F : Nat → Prop} {B : Nat} {x : X.St} {w : World} (h : Mac F B x w) : (∀ y ∈ x.ws, 0 ≤ y ∧ y < 4294967296) ∧ (∀ y ∈ x.ins, 0 ≤ y ∧ y < 4294967296) ∧ (∀ y ∈ x.outs, 0 ≤ y ∧ y < 4294967296) ∧ x.ws.length ≤ 4096 := by
  obtain ⟨_, _, _, _, _, _, h⟩ := h; exact ⟨h.mem.rng, h.ins.rng, h.rng, h.mem.len⟩
theorem Mac.word_any {F : Nat → Prop} {B : Nat} {x : X.St} {w : World} (h : Mac F B x w) (a : Int) (h0 : 0 ≤ a) (h1 : a < 4294967296) :
    Calls Try.prog 37 #[.pointer (some ⟨B, 0, none⟩), .int .u32 a] w fun e w' => e = .returned (.tuple #[.int .u32 (M.word x.ws a), .int .i64 (M.wt x.ws a)]) ∧ w = w' := by
  obtain ⟨_, _, _, _, _, _, h⟩ := h; exact M.word_any h.mem a h0 h1
/-- the registers and the place are set -/
theorem Mac.put {F : Nat → Prop} {B : Nat} {x : X.St} {w : World} (h : Mac F B x w) (s : A.Regs) (pc : Int) (ok : A.Ok s) (p0 : 0 ≤ pc) (p1 : pc < 4294967296) :
    Mac F B ⟨x.ws, s, pc, x.st, x.ins, x.outs⟩ ((w.setCells B 4099 (A.cells s).toList).setCell ⟨B, 4120, none⟩ (.int .u32 pc)) ∧ But B w ((w.setCells B 4099 (A.cells s).toList).setCell ⟨B, 4120, none⟩ (.int .u32 pc)) := by
  obtain ⟨ai, ni, ci, ao, no, co, h⟩ := h
  have hB : But B w ((w.setCells B 4099 (A.cells s).toList).setCell ⟨B, 4120, none⟩ (.int .u32 pc)) := (but_setCells _ _ _ _ (But.refl B w)).setCell _ _
  have h1 := h.mem.setN (A.cells s).toList 2
  rw [X.tl_regs] at h1
  have h2 := h1.set1 23 (.int .u32 pc)
  rw [X.tl_pc] at h2
  exact ⟨⟨ai, ni, ci, ao, no, co, h.own hB _ _ _ _ h2 ok p0 p1⟩, hB⟩
theorem Mac.there {F : Nat → Prop} {B : Nat} {x : X.St} {w : World} (h : Mac F B x w) : w.there B 4099 21 := by
  obtain ⟨ai, ni, ci, ao, no, co, h⟩ := h
  exact h.mem.there 4099 21 (by rw [X.tl_len]; omega)
theorem Mac.setSt {F : Nat → Prop} {B : Nat} {x : X.St} {w : World} (h : Mac F B x w) (t : Int) : Mac F B ⟨x.ws, x.s, x.pc, t, x.ins, x.outs⟩ (w.setCell ⟨B, 4121, none⟩ (.int .i64 t)) ∧ But B w (w.setCell ⟨B, 4121, none⟩ (.int .i64 t)) := by
  obtain ⟨ai, ni, ci, ao, no, co, h⟩ := h
  have hB : But B w (w.setCell ⟨B, 4121, none⟩ (.int .i64 t)) := (But.refl B w).setCell _ _
  have h2 := h.mem.set1 24 (.int .i64 t)
  rw [X.tl_st] at h2
  exact ⟨⟨ai, ni, ci, ao, no, co, h.own hB _ _ _ _ h2 h.ok h.pc0 h.pc1⟩, hB⟩
/-- the place of the instruction traps -/
theorem next_trap {F : Nat → Prop} {B : Nat} {x : X.St} {w : World} (h : Mac F B x w) (v t : Int) (ht : ¬ t = 0)
    (L : ∀ w, Mac F B x w → Calls Try.prog 37 #[.pointer (some ⟨B, 0, none⟩), .int .u32 x.pc] w fun e w' => e = .returned (.tuple #[.int .u32 v, .int .i64 t]) ∧ w = w') :
    Calls Try.prog 27 #[.pointer (some ⟨B, 0, none⟩)] w fun e w' => e = .returned (.int .i64 t) ∧ Kept w w' := by
  have cp := h.pc
  have C := L w h
  have L' := fun n => L _ (h.kept ((Kept.refl w).drewN n))
  have t2 : (t == 0) = false := by simpa using ht
  have t3 : (t != 0) = true := by simpa using ht
  go_enter Try.func27, Try.ntmps27
  go_upto_region 1 with (fail)
  go_quiet ((go_at_call 37; exact Calls.quiet_of_same ((L' _).mono fun _ _ h => ⟨h.1, h.2.symm⟩)))
  go_wp2
  go_ret
  exact ⟨rfl, (Kept.refl w).drewN nq⟩
/-- no instruction -/
theorem next_ill {F : Nat → Prop} {B : Nat} {x : X.St} {w : World} (h : Mac F B x w) (v k op a b c i : Int) (u : Bool)
    (L : ∀ w, Mac F B x w → Calls Try.prog 37 #[.pointer (some ⟨B, 0, none⟩), .int .u32 x.pc] w fun e w' => e = .returned (.tuple #[.int .u32 v, .int .i64 0]) ∧ w = w')
    (D : ∀ w, Calls Try.prog 38 #[.int .u32 v] w fun e w' => e = .returned (.tuple #[.agg #[.int .i64 k, .int .i64 op, .int .i64 a, .int .i64 b, .int .i64 c, .int .i64 i, .bool u], .bool false]) ∧ Kept w w') :
    Calls Try.prog 27 #[.pointer (some ⟨B, 0, none⟩)] w fun e w' => e = .returned (.int .i64 2) ∧ Kept w w' := by
  have cp := h.pc
  have L' := fun n => L _ (h.kept ((Kept.refl w).drewN n))
  go_enter Try.func27, Try.ntmps27
  go_upto_region 1 with (fail)
  go_quiet ((go_at_call 37; exact Calls.quiet_of_same ((L' _).mono fun _ _ h => ⟨h.1, h.2.symm⟩)))
  go_wp2_with (fail)
  refine (D _).mono ?_; rintro e w2 ⟨rfl, hK2⟩
  have hK := Lib.hid (((Kept.refl w).drewN nq).trans hK2)
  clear hK2 cp L L' D h
  go_wp2
  go_ret
  exact ⟨rfl, hK.out.alloc _ _⟩
theorem next_do {F : Nat → Prop} {B : Nat} {x x' : X.St} {w : World} (h : Mac F B x w) (v k op a b c i y t : Int) (S' : A.Regs) (u : Bool) (hx : x'.s = x.s ∧ x'.pc = x.pc ∧ x'.st = x.st) (hS : A.Ok S') (y0 : 0 ≤ y) (y1 : y < 4294967296)
    (L : ∀ w, Mac F B x w → Calls Try.prog 37 #[.pointer (some ⟨B, 0, none⟩), .int .u32 x.pc] w fun e w' => e = .returned (.tuple #[.int .u32 v, .int .i64 0]) ∧ w = w')
    (D : ∀ w, Calls Try.prog 38 #[.int .u32 v] w fun e w' => e = .returned (.tuple #[.agg #[.int .i64 k, .int .i64 op, .int .i64 a, .int .i64 b, .int .i64 c, .int .i64 i, .bool u], .bool true]) ∧ Kept w w')
    (O : ∀ w, Mac F B x w → Calls Try.prog 39 #[.pointer (some ⟨B, 0, none⟩), .agg #[.int .i64 k, .int .i64 op, .int .i64 a, .int .i64 b, .int .i64 c, .int .i64 i, .bool u]] w fun e w' => e = .returned (.tuple #[.agg (A.cells S'), .int .u32 y, .int .i64 t]) ∧ ∃ F', Mac F' B x' w' ∧ Turn F w w' ∧ ∀ k, F' k → F k ∨ w.heap.size ≤ k) :
    Calls Try.prog 27 #[.pointer (some ⟨B, 0, none⟩)] w fun e w' => e = .returned (.int .i64 t) ∧ ∃ F', Mac F' B (if t = 0 ∨ t = 1 then ⟨x'.ws, S', y, x.st, x'.ins, x'.outs⟩ else x') w' ∧ Turn F w w' ∧ ∀ k, F' k → F k ∨ w.heap.size ≤ k := by
  have cp := h.pc
  have L' := fun n => L _ (h.kept ((Kept.refl w).drewN n))
  have hh := Lib.hid h
  generalize hX : (if t = 0 ∨ t = 1 then (⟨x'.ws, S', y, x.st, x'.ins, x'.outs⟩ : X.St) else x') = x''
  go_enter Try.func27, Try.ntmps27
  go_upto_region 1 with (fail)
  go_quiet ((go_at_call 37; exact Calls.quiet_of_same ((L' _).mono fun _ _ h => ⟨h.1, h.2.symm⟩)))
  go_wp2_with (fail)
  refine (D _).mono ?_; rintro e w2 ⟨rfl, hK2⟩
  have hK := Lib.hid ((((Kept.refl w).drewN nq).trans hK2).alloc #[.int .i64 k, .int .i64 op, .int .i64 a, .int .i64 b, .int .i64 c, .int .i64 i, .bool u] 23)
  have hI := Lib.hid (Has.new #[.int .i64 k, .int .i64 op, .int .i64 a, .int .i64 b, .int .i64 c, .int .i64 i, .bool u] 23 w2)
  have hM := Lib.hid (hh.out.kept hK.out)
  clear hK2 cp L L' D h
  go_wp2_with (with_reducible refine load_has rfl 23 _ rfl _ rfl hI.out Try.underlying23 rfl (by kernel_rfl) ?_)
  refine (O _ hM.out).mono ?_; rintro e w3 ⟨rfl, F', p1, p2, p3⟩
  have hA := (Kept.refl w3).alloc (A.cells S') 27
  have hT := Lib.hid (((hK.out.turn F).trans p2).trans (hA.turn F))
  have hP := Lib.hid (p1.kept hA)
  have hN := Lib.hid (Has.new (A.cells S') 27 w3)
  have hF : ∀ k, F' k → F k ∨ w.heap.size ≤ k := fun k hk => by
    rcases p3 k hk with h1 | h1
    · exact Or.inl h1
    · exact Or.inr (Nat.le_trans hK.out.size h1)
  have hth := hP.out.there
  have hfr := hP.out.free 4120
  clear O hM hI hK p1 p2 p3 hA hh
  by_cases t01 : t = 0 ∨ t = 1
  · have hput := hP.out.put S' y hS y0 y1
    rw [hx.2.2] at hput
    rw [if_pos t01] at hX
    subst hX
    have hput := Lib.hid hput
    have hcp : ((w3.alloc (Obj.cells (A.cells S') 27)).setCells B 4099 (A.cells S').toList).cell? ⟨B, 4120, none⟩ = some (.int .u32 x'.pc) := by
      obtain ⟨ai, ni, ci, ao, no, co, hp⟩ := hP.out
      have h1 := hp.mem.setN (A.cells S').toList 2
      rw [X.tl_regs] at h1
      exact h1.tail 23 _ rfl
    have hff : ((w3.alloc (Obj.cells (A.cells S') 27)).setCells B 4099 (A.cells S').toList).frozen? ⟨B, 4120, none⟩ = false := by
      obtain ⟨ai, ni, ci, ao, no, co, hp⟩ := hP.out
      have h1 := hp.mem.setN (A.cells S').toList 2
      exact h1.free 4120
    have hFB := hP.out.inB
    rcases t01 with rfl | rfl
    all_goals
      go_upto_region 10 with (first
        | (with_reducible refine store_last rfl 27 _ _ rfl _ _ rfl rfl rfl (A.info25 _) (by kernel_rfl) (A.one_cells _) ?_))
      go_wp2_with (first
        | (with_reducible refine load_has rfl 27 _ rfl _ rfl hN.out Try.underlying27 rfl (A.info25 _) ?_)
        | (with_reducible refine wpList_store_mid rfl 27 _ _ rfl _ _ (A.cells S') rfl rfl hth (A.info25 _) (A.one_cells _) ?_; generalize World.setCells _ _ _ _ = ws5 at *))
      clear hcp hff
      generalize World.setCell ws5 _ _ = wf at *
      have hq := hT.out.then (hput.out.2.turn (F := F') hFB) hF
      go_ret
      exact ⟨rfl, F', hput.out.1, hq, hF⟩
  · rw [if_neg t01] at hX
    subst hX
    have t0 : ¬ t = 0 := fun e => t01 (Or.inl e)
    have t1 : ¬ t = 1 := fun e => t01 (Or.inr e)
    have e1 : (t == 0) = false := by simpa using t0
    have e2 : (t != 0) = true := by simpa using t0
    have e3 : (t == 1) = false := by simpa using t1
    have e4 : (t != 1) = true := by simpa using t1
    go_wp2_with (first
        | (with_reducible refine store_last rfl 27 _ _ rfl _ _ rfl rfl rfl (A.info25 _) (by kernel_rfl) (A.one_cells _) ?_))
    go_ret
    exact ⟨rfl, F', hP.out, hT.out, hF⟩
end Go.Proofs.Ytlmddkciamdldaa

/-
  The contracts of package machine: Step, Run; what it tells.
-/
namespace Go.Proofs.Ytlmddkciamdldaa
open Go.RowKit
set_option linter.unusedVariables false
set_option linter.unusedSimpArgs false
set_option maxRecDepth 100000
theorem I.dec_may (v : Int) (h : I.is v = true) : I.May (I.dec v) := by
  have e : I.dec v = I.guess v := by unfold I.dec; rw [if_pos h]
  rw [e]
  unfold I.is at h
  rw [Bool.and_eq_true] at h
  exact of_decide_eq_true h.1
theorem next_any {F : Nat → Prop} {B : Nat} {x : X.St} {w : World} (h : Mac F B x w) (hn : x.outs.length < 1000000) :
    Calls Try.prog 27 #[.pointer (some ⟨B, 0, none⟩)] w fun e w' => e = .returned (.int .i64 (X.nextT x)) ∧ ∃ F', Mac F' B (X.nextX x) w' ∧ Turn F w w' ∧ ∀ k, F' k → F k ∨ w.heap.size ≤ k := by
  have hb := h.bounds
  have hr := h.rngs
  have hW := X.word_ok x.ws x.pc hr.1
  have L := fun w' (h' : Mac F B x w') => h'.word_any x.pc hb.2.1 hb.2.2
  by_cases ht : M.wt x.ws x.pc = 0
  · rw [ht] at L
    by_cases hi : I.is (M.word x.ws x.pc) = true
    · have e1 : X.nextT x = X.doT x (I.dec (M.word x.ws x.pc)) := by unfold X.nextT; rw [if_pos ht, if_pos hi]
      have e2 : X.nextX x = if X.doT x (I.dec (M.word x.ws x.pc)) = 0 ∨ X.doT x (I.dec (M.word x.ws x.pc)) = 1 then ⟨(X.doX x (I.dec (M.word x.ws x.pc))).ws, X.doS x (I.dec (M.word x.ws x.pc)), X.doP x (I.dec (M.word x.ws x.pc)), x.st, (X.doX x (I.dec (M.word x.ws x.pc))).ins, (X.doX x (I.dec (M.word x.ws x.pc))).outs⟩ else X.doX x (I.dec (M.word x.ws x.pc)) := by unfold X.nextX; rw [if_pos ⟨ht, hi⟩]
      rw [e1, e2]
      have hm := I.dec_may _ hi
      have D := dec_any (M.word x.ws x.pc) hW
      rw [hi] at D
      generalize I.dec (M.word x.ws x.pc) = j at *
      obtain ⟨k, op, a, b, c, i, u⟩ := j
      have hp := X.doP_ok x ⟨k, op, a, b, c, i, u⟩ hb.1 (by have := hm.1.2.2.2.2.2; simp only at this ⊢; omega)
      exact next_do h _ k op a b c i _ _ _ u (X.doX_eq x _) (X.doS_ok x _ hb.1 hr.1 hr.2.1) hp.1 hp.2 L D fun w' h' => do_any h' k op a b c i u hm hn
    · have hi : I.is (M.word x.ws x.pc) = false := by simpa using hi
      have e1 : X.nextT x = 2 := by unfold X.nextT; rw [if_pos ht, if_neg (by rw [hi]; simp)]
      have e2 : X.nextX x = x := by unfold X.nextX; rw [if_neg (by rw [hi]; simp)]
      rw [e1, e2]
      have D := dec_any (M.word x.ws x.pc) hW
      rw [hi] at D
      exact (next_ill h _ _ _ _ _ _ _ _ L D).mono fun e w' hh => ⟨hh.1, F, h.kept hh.2, hh.2.turn F, fun k hk => Or.inl hk⟩
  · have e1 : X.nextT x = M.wt x.ws x.pc := by unfold X.nextT; rw [if_neg ht]
    have e2 : X.nextX x = x := by unfold X.nextX; rw [if_neg (fun h => ht h.1)]
    rw [e1, e2]
    exact (next_trap h _ _ ht L).mono fun e w' hh => ⟨hh.1, F, h.kept hh.2, hh.2.turn F, fun k hk => Or.inl hk⟩
theorem step_at {F : Nat → Prop} {B : Nat} {x x' : X.St} {w : World} (h : Mac F B x w) (t : Int) (h0 : x.st = 0)
    (C : ∀ w, Mac F B x w → Calls Try.prog 27 #[.pointer (some ⟨B, 0, none⟩)] w fun e w' => e = .returned (.int .i64 t) ∧ ∃ F', Mac F' B x' w' ∧ Turn F w w' ∧ ∀ k, F' k → F k ∨ w.heap.size ≤ k) :
    Calls Try.prog 13 #[.pointer (some ⟨B, 0, none⟩)] w fun e w' => e = .returned (.int .i64 t) ∧ ∃ F', Mac F' B ⟨x'.ws, x'.s, x'.pc, t, x'.ins, x'.outs⟩ w' ∧ Turn F w w' ∧ ∀ k, F' k → F k ∨ w.heap.size ≤ k := by
  have cs := h.st
  rw [h0] at cs
  have hh := Lib.hid h
  clear h
  go_enter Try.func13, Try.ntmps13
  go_wp2_with (fail)
  refine (C _ hh.out).mono ?_; rintro e w2 ⟨rfl, F', p1, p2, p3⟩
  have c2 := p1.st
  have f2 := p1.free 4121
  have hS := Lib.hid (p1.setSt t)
  have hT := Lib.hid (p2.then ((p1.setSt t).2.turn (F := F') p1.inB) p3)
  clear p1 p2 cs hh C
  go_wp2
  go_ret
  exact ⟨rfl, F', hS.out.1, hT.out, p3⟩
theorem step_no {F : Nat → Prop} {B : Nat} {x : X.St} {w : World} (h : Mac F B x w) (h0 : ¬ x.st = 0) :
    Calls Try.prog 13 #[.pointer (some ⟨B, 0, none⟩)] w fun e w' => e = .returned (.int .i64 x.st) ∧ w = w' := by
  have cs := h.st
  have e0 : (x.st == 0) = false := by simpa using h0
  go_enter Try.func13, Try.ntmps13
  go_wp2
  go_ret
  exact ⟨rfl, rfl⟩
theorem step_any {F : Nat → Prop} {B : Nat} {x : X.St} {w : World} (h : Mac F B x w) (hn : x.outs.length < 1000000) :
    Calls Try.prog 13 #[.pointer (some ⟨B, 0, none⟩)] w fun e w' => e = .returned (.int .i64 (X.step x).st) ∧ ∃ F', Mac F' B (X.step x) w' ∧ Turn F w w' ∧ ∀ k, F' k → F k ∨ w.heap.size ≤ k := by
  by_cases h0 : x.st = 0
  · have e : X.step x = ⟨(X.nextX x).ws, (X.nextX x).s, (X.nextX x).pc, X.nextT x, (X.nextX x).ins, (X.nextX x).outs⟩ := by unfold X.step; rw [if_pos h0]
    rw [e]
    exact step_at h _ h0 fun w' h' => next_any h' hn
  · have e : X.step x = x := by unfold X.step; rw [if_neg h0]
    rw [e]
    refine (step_no h h0).mono ?_
    rintro e w' ⟨he, rfl⟩
    exact ⟨he, F, h, Turn.refl F w, fun k hk => Or.inl hk⟩
theorem pc_any {F : Nat → Prop} {B : Nat} {x : X.St} {w : World} (h : Mac F B x w) :
    Calls Try.prog 16 #[.pointer (some ⟨B, 0, none⟩)] w fun e w' => e = .returned (.int .u32 x.pc) ∧ w = w' := by
  have cs := h.pc
  go_enter Try.func16, Try.ntmps16
  go_wp2
  go_ret
  exact ⟨rfl, rfl⟩
theorem regs_any {F : Nat → Prop} {B : Nat} {x : X.St} {w : World} (h : Mac F B x w) :
    Calls Try.prog 15 #[.pointer (some ⟨B, 0, none⟩)] w fun e w' => e = .returned (.agg (A.cells x.s)) ∧ Kept w w' := by
  have hr := fun c t => (h.kept ((Kept.refl w).alloc c t)).regs
  go_enter Try.func15, Try.ntmps15
  go_wp2_with (first
    | (with_reducible refine wpList_load_mid (op := ⟨some 6, _, _, _, _, _⟩) rfl 27 _ rfl _ _ rfl (A.cells x.s).toList _ (hr _ _) Try.underlying27 rfl (by rw [Array.length_toList]; exact A.info25 _) ?_)
    | (with_reducible refine store_last rfl 27 _ _ rfl _ _ rfl rfl rfl (A.info25 _) (by kernel_rfl) (A.one_cells _) ?_))
  refine bodyPost_ret (results_has rfl w.heap.size rfl (Has.new (A.cells x.s) _ _) Try.underlying27 rfl (A.info25 _)) rfl ⟨rfl, (Kept.refl w).alloc _ _⟩
noncomputable def X.go : Nat → X.St → X.St
  | 0, x => x
  | n + 1, x => X.go n (X.step x)
theorem X.go_add (m : Nat) : ∀ (k : Nat) (x : X.St), X.go (k + m) x = X.go m (X.go k x)
  | 0, x => by rw [Nat.zero_add]; rfl
  | k + 1, x => by rw [Nat.add_right_comm]; exact X.go_add m k (X.step x)
theorem X.go_succ (k : Nat) (x : X.St) : X.go (k + 1) x = X.step (X.go k x) := X.go_add 1 k x
theorem X.step_stop (x : X.St) (h : ¬ x.st = 0) : X.step x = x := by unfold X.step; rw [if_neg h]
theorem X.go_stop (x : X.St) (h : ¬ x.st = 0) : ∀ n, X.go n x = x
  | 0 => rfl
  | n + 1 => by show X.go n (X.step x) = x; rw [X.step_stop x h]; exact X.go_stop x h n
theorem X.go_outs : ∀ (n : Nat) (x : X.St), (X.go n x).outs.length ≤ x.outs.length + n
  | 0, _ => Nat.le_refl _
  | n + 1, x => by
    have h1 := X.go_outs n (X.step x)
    have h2 := X.step_outs x
    show (X.go n (X.step x)).outs.length ≤ _
    omega
theorem run_any {F : Nat → Prop} {B : Nat} {x : X.St} {w : World} (h : Mac F B x w) (n : Int) (N : Nat) (hN : n.toNat = N) (n0 : -9223372036854775808 ≤ n) (n1 : n ≤ 1000000) (hn : x.outs.length + N < 1000000) :
    Calls Try.prog 19 #[.pointer (some ⟨B, 0, none⟩), .int .i64 n] w fun e w' => e = .returned (.int .i64 (X.go N x).st) ∧ ∃ F', Mac F' B (X.go N x) w' ∧ Turn F w w' ∧ ∀ k, F' k → F k ∨ w.heap.size ≤ k := by
  have hh := Lib.hid h
  clear h
  go_enter Try.func19, Try.ntmps19
  go_upto_region 0 with (fail)
  go_wp2
  go_loopw [1] (fun i wr => ∃ (k : Nat) (F' : Nat → Prop), k ≤ N ∧ i = .int .i64 (n - k) ∧ Mac F' B (X.go k x) wr ∧ Turn F w wr ∧ ∀ k, F' k → F k ∨ w.heap.size ≤ k) (fun i _ => (intOf i).toNat)
  case atStart => exact ⟨0, F, Nat.zero_le _, by simp, hh.out, Turn.refl F w, fun k hk => Or.inl hk⟩
  case round =>
    obtain ⟨k, F', hk, rfl, hM, hT, hF⟩ := hrel
    have cs := hM.st
    by_cases d1 : 0 < n - k
    · have d3 : decide (n - k > 0) = true := decide_eq_true d1
      by_cases s0 : (X.go k x).st = 0
      · have hl := X.go_outs k x
        have C := step_any hM (by omega)
        rw [← X.go_succ] at C
        rw [s0] at cs
        replace hT := Lib.hid hT
        clear hM hh hl
        go_wp2_with (go_at_call 13; refine C.mono ?_; rintro e w2 ⟨rfl, F2, p1, p2, p3⟩)
        go_roundw
        case rel =>
          refine ⟨k + 1, F2, by omega, by go_num, p1, hT.out.then p2 fun i hi => hF i hi, fun j hj => ?_⟩
          rcases p3 j hj with h1 | h1
          · exact hF j h1
          · exact Or.inr (Nat.le_trans hT.out.size h1)
        case measure => simp [intOf]; omega
      · have e : X.go N x = X.go k x := by
          rw [show N = k + (N - k) by omega, X.go_add, X.go_stop _ s0]
        have s1 : ((X.go k x).st == 0) = false := by simpa using s0
        replace hM := Lib.hid hM
        replace hT := Lib.hid hT
        replace e := Lib.hid e
        clear hh
        go_wp2
        go_ret
        rw [e.out]
        exact ⟨rfl, F', hM.out, hT.out, hF⟩
    · have e : k = N ∨ N = 0 ∧ k = 0 := by omega
      have e : k = N := by omega
      have d3 : decide (n - k > 0) = false := decide_eq_false (by omega)
      rw [e] at hM cs
      replace hM := Lib.hid hM
      replace hT := Lib.hid hT
      clear hh
      go_wp2
      go_ret
      exact ⟨rfl, F', hM.out, hT.out, hF⟩
end Go.Proofs.Ytlmddkciamdldaa

/-
  The contracts of package machine: Start, Place, Words, Out, New.
-/
namespace Go.Proofs.Ytlmddkciamdldaa
open Go.RowKit
set_option linter.unusedVariables false
set_option linter.unusedSimpArgs false
set_option maxRecDepth 100000
theorem But.drew2 {B : Nat} {a b : World} (h : But B a b) : But B a.drew b.drew := ⟨h.os, h.tape, h.output, h.size, h.block, h.froze⟩
theorem Mac.setPc {F : Nat → Prop} {B : Nat} {x : X.St} {w : World} (h : Mac F B x w) (pc : Int) (p0 : 0 ≤ pc) (p1 : pc < 4294967296) : Mac F B ⟨x.ws, x.s, pc, x.st, x.ins, x.outs⟩ (w.setCell ⟨B, 4120, none⟩ (.int .u32 pc)) ∧ But B w (w.setCell ⟨B, 4120, none⟩ (.int .u32 pc)) := by
  obtain ⟨ai, ni, ci, ao, no, co, h⟩ := h
  have hB : But B w (w.setCell ⟨B, 4120, none⟩ (.int .u32 pc)) := (But.refl B w).setCell _ _
  have h2 := h.mem.set1 23 (.int .u32 pc)
  rw [X.tl_pc] at h2
  exact ⟨⟨ai, ni, ci, ao, no, co, h.own hB _ _ _ _ h2 h.ok p0 p1⟩, hB⟩
theorem Mac.setRegs {F : Nat → Prop} {B : Nat} {x : X.St} {w : World} (h : Mac F B x w) (s : A.Regs) (ok : A.Ok s) : Mac F B ⟨x.ws, s, x.pc, x.st, x.ins, x.outs⟩ (w.setCells B 4099 (A.cells s).toList) ∧ But B w (w.setCells B 4099 (A.cells s).toList) := by
  obtain ⟨ai, ni, ci, ao, no, co, h⟩ := h
  have hB : But B w (w.setCells B 4099 (A.cells s).toList) := but_setCells _ _ _ _ (But.refl B w)
  have h1 := h.mem.setN (A.cells s).toList 2
  rw [X.tl_regs] at h1
  exact ⟨⟨ai, ni, ci, ao, no, co, h.own hB _ _ _ _ h1 ok h.pc0 h.pc1⟩, hB⟩
theorem start_any {F : Nat → Prop} {B : Nat} {x : X.St} {w : World} (h : Mac F B x w) (pc : Int) (s : A.Regs) (ok : A.Ok s) (p0 : 0 ≤ pc) (p1 : pc < 4294967296) :
    Calls Try.prog 12 #[.pointer (some ⟨B, 0, none⟩), .int .u32 pc, .agg (A.cells s)] w fun e w' => e = .returned (.tuple #[]) ∧ Mac F B ⟨x.ws, s, pc, 0, x.ins, x.outs⟩ w' ∧ But B w w' := by
  have hBg : B < w.heap.size := h.sub B h.inB
  go_enter Try.func12, Try.ntmps12
  go_upto_region 1 with (fail)
  generalize hw1 : w.alloc (Obj.cells _ _) = w1
  have hR : Has w.heap.size (A.cells s) 27 w1 := by rw [← hw1]; exact Has.new _ _ _
  have hK : Kept w w1 := by rw [← hw1]; exact (Kept.refl w).alloc _ _
  clear hw1
  have hgB : w.heap.size ≠ B := by omega
  generalize w.heap.size = g at *
  have hMd := Lib.hid (show Mac F B x w1.drew from h.kept hK.drew)
  have hM1 := Lib.hid (show Mac F B x w1 from h.kept hK)
  have hKd := Lib.hid (show Kept w w1.drew from hK.drew)
  have cq := hMd.out.pc
  have fq := hMd.out.free 4120
  clear h hK
  refine wp_region_held_drew (S := fun wz => Has g (A.cells s) 27 wz) (by kernel_rfl) ?_ (fun hHeld => ?_)
  · exact hR
  refine wpAnyH_take (i := 0) (oi := { dst := some 6, op := Op.move (Operand.tmp 0), type := 36, pos := "machine.go:46", after := #[], guard := none }) (v := ?_) rfl (by kernel_rfl) (by kernel_rfl) (by kernel_rfl) (fun _ _ _ h => h) (Or.inl ⟨rfl, ?_⟩) hHeld ?_
  rotate_left
  · (intro wz hSw; (try dsimp only at hSw); go_simp; try with_reducible rfl)
  try simp only [Act.put, List.setIfInBounds_toArray, List.set_cons_zero, List.set_cons_succ]
  refine wpAnyH_take (i := 1) (oi := { dst := some 7, op := Op.move (Operand.tmp 0), type := 36, pos := "machine.go:46", after := #[eL 7], guard := none }) (v := ?_) rfl (by kernel_rfl) (by kernel_rfl) (by kernel_rfl) (fun _ _ _ h => h) (Or.inl ⟨rfl, ?_⟩) hHeld ?_
  rotate_left
  · (intro wz hSw; (try dsimp only at hSw); go_simp; try with_reducible rfl)
  try simp only [Act.put, List.setIfInBounds_toArray, List.set_cons_zero, List.set_cons_succ]
  refine wpAnyH_take (i := 2) (oi := { dst := some 8, op := Op.move (Operand.tmp 0), type := 36, pos := "machine.go:46", after := #[eL 10], guard := none }) (v := ?_) rfl (by kernel_rfl) (by kernel_rfl) (by kernel_rfl) (fun _ _ _ h => h) (Or.inl ⟨rfl, ?_⟩) hHeld ?_
  rotate_left
  · (intro wz hSw; (try dsimp only at hSw); go_simp; try with_reducible rfl)
  try simp only [Act.put, List.setIfInBounds_toArray, List.set_cons_zero, List.set_cons_succ]
  refine wpAnyH_take (i := 3) (oi := { dst := some 9, op := Op.move (Operand.tmp 1), type := 24, pos := "machine.go:46", after := #[], guard := none }) (v := ?_) rfl (by kernel_rfl) (by kernel_rfl) (by kernel_rfl) (fun _ _ _ h => h) (Or.inl ⟨rfl, ?_⟩) hHeld ?_
  rotate_left
  · (intro wz hSw; (try dsimp only at hSw); go_simp; try with_reducible rfl)
  try simp only [Act.put, List.setIfInBounds_toArray, List.set_cons_zero, List.set_cons_succ]
  refine wpAnyH_take (i := 4) (oi := { dst := some 10, op := Op.load 27 (Operand.tmp 5), type := 27, pos := "machine.go:46", after := #[eL 7], guard := none }) (v := ?_) rfl (by kernel_rfl) (by kernel_rfl) (by kernel_rfl) (fun _ _ _ h => h) (Or.inl ⟨rfl, ?_⟩) hHeld ?_
  rotate_left
  · (intro wz hSw; refine exec_load_has 27 (Operand.tmp 5) ?_ _ ?_ hSw Try.underlying27 rfl (A.info25 _) <;> rfl)
  try simp only [Act.put, List.setIfInBounds_toArray, List.set_cons_zero, List.set_cons_succ]
  refine wpAnyH_take (i := 5) (oi := { dst := some 11, op := Op.nilCheck (Operand.tmp 6), type := 0, pos := "machine.go:46", after := #[eD 0, eP 0, eT 1, eT 2, eP 3, eT 4], guard := none }) (v := ?_) rfl (by kernel_rfl) (by kernel_rfl) (by kernel_rfl) (fun _ _ _ h => h) (Or.inl ⟨rfl, ?_⟩) hHeld ?_
  rotate_left
  · (intro wz hSw; (try dsimp only at hSw); go_simp; try with_reducible rfl)
  try simp only [Act.put, List.setIfInBounds_toArray, List.set_cons_zero, List.set_cons_succ]
  refine wpAnyH_take (i := 6) (oi := { dst := some 12, op := Op.fieldAddr 70 (Operand.tmp 11) 2, type := 0, pos := "machine.go:46", after := #[eD 5, eP 0, eT 1, eT 2, eP 3, eT 4], guard := none }) (v := ?_) rfl (by kernel_rfl) (by kernel_rfl) (by kernel_rfl) (fun _ _ _ h => h) (Or.inl ⟨rfl, ?_⟩) hHeld ?_
  rotate_left
  · (intro wz hSw; (try dsimp only at hSw); go_simp; try with_reducible rfl)
  try simp only [Act.put, List.setIfInBounds_toArray, List.set_cons_zero, List.set_cons_succ]
  refine wpAnyH_ready (rs := [7]) (by kernel_rfl) (by simp) ?_
  refine AllReadyH.cons (o := { dst := none, op := Op.store 24 (Operand.tmp 12) (Operand.tmp 9), type := 0, pos := "machine.go:46", after := #[eD 6, eD 3, eP 0, eT 1, eT 2, eP 3, eT 4], guard := none }) rfl (fun K hK => ?_) (AllReadyH.nil)
  go_simp
  generalize hwa : World.drew (World.setCell _ _ _) = wa
  have hMa : Mac F B ⟨x.ws, x.s, pc, x.st, x.ins, x.outs⟩ wa ∧ But B w1.drew wa := by rw [← hwa]; exact ⟨(hM1.out.setPc pc p0 p1).1.kept (Kept.refl _).drew, (hM1.out.setPc pc p0 p1).2.drew2⟩
  clear hwa
  have hN := (show (fun wz => Has g (A.cells s) 27 wz) _ from hMa.2.has hgB hHeld)
  clear hHeld
  refine hK.out _ _ hN (fun hHeld => ?_)
  clear hK K hN
  try simp only [Act.put, List.setIfInBounds_toArray, List.set_cons_zero, List.set_cons_succ]
  refine wpAnyH_take (i := 8) (oi := { dst := some 13, op := Op.nilCheck (Operand.tmp 7), type := 0, pos := "machine.go:46", after := #[eD 1, eP 0, eP 1, eT 2, eP 3, eP 4, eP 5, eP 6, eP 7], guard := none }) (v := ?_) rfl (by kernel_rfl) (by kernel_rfl) (by kernel_rfl) (fun _ _ _ h => h) (Or.inl ⟨rfl, ?_⟩) hHeld ?_
  rotate_left
  · (intro wz hSw; (try dsimp only at hSw); go_simp; try with_reducible rfl)
  try simp only [Act.put, List.setIfInBounds_toArray, List.set_cons_zero, List.set_cons_succ]
  refine wpAnyH_take (i := 9) (oi := { dst := some 14, op := Op.fieldAddr 70 (Operand.tmp 13) 1, type := 0, pos := "machine.go:46", after := #[eD 8, eP 0, eP 1, eT 2, eP 3, eP 4, eP 5, eP 6, eP 7], guard := none }) (v := ?_) rfl (by kernel_rfl) (by kernel_rfl) (by kernel_rfl) (fun _ _ _ h => h) (Or.inl ⟨rfl, ?_⟩) hHeld ?_
  rotate_left
  · (intro wz hSw; (try dsimp only at hSw); go_simp; try with_reducible rfl)
  try simp only [Act.put, List.setIfInBounds_toArray, List.set_cons_zero, List.set_cons_succ]
  refine wpAnyH_ready (rs := [10]) (by kernel_rfl) (by simp) ?_
  refine AllReadyH.cons (o := { dst := none, op := Op.store 27 (Operand.tmp 14) (Operand.tmp 10), type := 0, pos := "machine.go:46", after := #[eD 9, eD 4, eC 7, eP 0, eP 1, eT 2, eP 3, eP 4, eP 5, eP 6, eP 7], guard := none }) rfl (fun K hK => ?_) (AllReadyH.nil)
  have hthb := hMa.1.there
  refine wp_store_mid (op := { dst := none, op := Op.store 27 (Operand.tmp 14) (Operand.tmp 10), type := 0, pos := "machine.go:46", after := #[eD 9, eD 4, eC 7, eP 0, eP 1, eT 2, eP 3, eP 4, eP 5, eP 6, eP 7], guard := none }) 27 _ _ rfl _ _ (A.cells s) rfl rfl hthb (A.info25 _) (A.one_cells _) ?_
  have hMb := hMa.1.setRegs s ok
  generalize World.setCells _ _ _ _ = wb at *
  have hN := (show (fun wz => Has g (A.cells s) 27 wz) _ from hMb.2.has hgB hHeld)
  clear hHeld
  refine hK.out _ _ hN (fun hHeld => ?_)
  clear hK K hN
  try simp only [Act.put, List.setIfInBounds_toArray, List.set_cons_zero, List.set_cons_succ]
  refine wpAnyH_take (i := 11) (oi := { dst := some 15, op := Op.nilCheck (Operand.tmp 8), type := 0, pos := "machine.go:46", after := #[eD 2, eP 0, eP 1, eP 2, eP 3, eP 4, eP 5, eP 6, eP 7, eP 8, eP 9, eP 10], guard := none }) (v := ?_) rfl (by kernel_rfl) (by kernel_rfl) (by kernel_rfl) (fun _ _ _ h => h) (Or.inl ⟨rfl, ?_⟩) hHeld ?_
  rotate_left
  · (intro wz hSw; (try dsimp only at hSw); go_simp; try with_reducible rfl)
  try simp only [Act.put, List.setIfInBounds_toArray, List.set_cons_zero, List.set_cons_succ]
  refine wpAnyH_take (i := 12) (oi := { dst := some 16, op := Op.fieldAddr 70 (Operand.tmp 15) 3, type := 0, pos := "machine.go:46", after := #[eD 11, eP 0, eP 1, eP 2, eP 3, eP 4, eP 5, eP 6, eP 7, eP 8, eP 9, eP 10], guard := none }) (v := ?_) rfl (by kernel_rfl) (by kernel_rfl) (by kernel_rfl) (fun _ _ _ h => h) (Or.inl ⟨rfl, ?_⟩) hHeld ?_
  rotate_left
  · (intro wz hSw; (try dsimp only at hSw); go_simp; try with_reducible rfl)
  try simp only [Act.put, List.setIfInBounds_toArray, List.set_cons_zero, List.set_cons_succ]
  refine wpAnyH_ready (rs := [13]) (by kernel_rfl) (by simp) ?_
  refine AllReadyH.cons (o := { dst := none, op := Op.store 3 (Operand.tmp 16) (Operand.const (Value.int IntKind.i64 0)), type := 0, pos := "machine.go:46", after := #[eD 12, eC 10, eP 0, eP 1, eP 2, eP 3, eP 4, eP 5, eP 6, eP 7, eP 8, eP 9, eP 10], guard := none }) rfl (fun K hK => ?_) (AllReadyH.nil)
  have q1 := hMb.1.st
  have q2 := hMb.1.free 4121
  go_simp
  have hMc := hMb.1.setSt 0
  have hN := (show (fun wz => Has g (A.cells s) 27 wz) _ from hMc.2.has hgB hHeld)
  clear hHeld
  refine hK.out _ _ hN (fun hHeld => ?_)
  clear hK K hN
  try simp only [Act.put, List.setIfInBounds_toArray, List.set_cons_zero, List.set_cons_succ]
  refine wpAnyH_done (by kernel_rfl) ?_ _
  have hB := (((hKd.out.but B).trans hMa.2).trans hMb.2).trans hMc.2
  replace hB := Lib.hid hB
  replace hMc := Lib.hid hMc.1
  clear hMa hMb hHeld
  generalize World.setCell wb _ _ = wc at *
  go_wp2
  go_end0
  exact ⟨rfl, hMc.out, hB.out⟩
end Go.Proofs.Ytlmddkciamdldaa

/-
  The contracts of package machine: Place, Words, Out, New.
-/
namespace Go.Proofs.Ytlmddkciamdldaa
open Go.RowKit
set_option linter.unusedVariables false
set_option linter.unusedSimpArgs false
set_option maxRecDepth 100000
theorem place_any {F : Nat → Prop} {B : Nat} {x : X.St} {w : World} (h : Mac F B x w) (k : Nat) (ap : Option Addr) (n c : Nat) (xs : List Int) (hx : Ws w ap n c xs) (hf : k + n ≤ x.ws.length) :
    Calls Try.prog 11 #[.pointer (some ⟨B, 0, none⟩), .int .i64 k, .slice ap n c] w fun e w' => e = .returned (.int .i64 0) ∧ Mac F B ⟨M.placed x.ws k xs, x.s, x.pc, x.st, x.ins, x.outs⟩ w' ∧ But B w w' := by
  obtain ⟨ai, ni, ci, ao, no, co, h⟩ := h
  have C := Lib.hid (M.place_yes h.mem k ap n c xs hx hf)
  have hh := Lib.hid h
  clear h hx
  go_enter Try.func11, Try.ntmps11
  go_wp2_with (fail)
  refine C.out.mono ?_; rintro e w2 ⟨rfl, hM, hB⟩
  have hE := Lib.hid (hh.out.own hB _ _ _ _ hM hh.out.ok hh.out.pc0 hh.out.pc1)
  replace hB := Lib.hid hB
  clear C hM hh
  go_wp2
  go_ret
  exact ⟨rfl, ⟨_, _, _, _, _, _, hE.out⟩, hB.out⟩
def T0 : Nat → Prop := fun _ => False
theorem clone_any {w : World} {ap : Option Addr} {n c : Nat} {xs : List Int} (h : Ws w ap n c xs) (hn : n ≤ 1000000000) :
    Calls Try.prog 25 #[.slice ap n c] w fun e w' => ∃ A' c', e = .returned (.slice A' n c') ∧ Ws w' A' n c' xs ∧ Turn T0 w w' ∧ ∀ ad, A' = some ad → w.heap.size ≤ ad.block ∧ ad.block < w'.heap.size := by
  cases ap with
  | none =>
    have hc := h.nil rfl
    have hl := h.le
    subst hc
    obtain rfl : n = 0 := by omega
    have hx : xs = [] := List.eq_nil_of_length_eq_zero h.len
    subst hx
    have hnil : ∀ W, (binOp .eql 28 (.slice none 0 0) (.slice none 0 0)).run Try.prog W = .ok (.bool true) W := fun W => Lib.run_eql_slice_nil W _ _ _ _ _ _ _ Try.underlying28
    go_enter Try.func25, Try.ntmps25
    go_wp2
    go_ret
    exact ⟨none, 0, rfl, Ws.empty w, Turn.refl _ w, by simp⟩
  | some ad =>
    have hr := h.rng
    have hK := (Kept.refl w).alloc #[] 24
    have hY := Lib.hid (h.kept hK)
    have hO := Lib.hid (Own.new w w.heap.size (Nat.le_refl _))
    have hT := Lib.hid (hK.turn T0)
    have hsz : w.heap.size ≤ (w.alloc (.cells #[] 24)).heap.size := hK.size
    replace hsz := Lib.hid hsz
    clear h hK
    have hnil : ∀ W, (binOp .eql 28 (.slice (some ad) n c) (.slice none 0 0)).run Try.prog W = .ok (.bool false) W := fun W => Lib.run_eql_slice_nil W _ _ _ _ _ _ _ Try.underlying28
    go_enter Try.func25, Try.ntmps25
    go_wp2_with (with_reducible refine append_words (o := ⟨some 7, _, _, _, _, _⟩) rfl (.tmp 5) (.tmp 6) rfl w.heap.size w.heap.size 0 0 [] rfl hO.out (some ad) n c xs rfl hY.out (by omega) hsz.out ?_; intro g' cap' w3 hO3 hG3)
    rw [Nat.zero_add, List.nil_append] at hO3
    have hq := hO3.has
    have hlt := (World.ownsRow.lt hO3 g' rfl)
    have hW := Lib.hid (hO3.ws hr)
    have hT3 : Turn T0 w w3 := ⟨hG3.os.trans hT.out.os, hG3.tape.trans hT.out.tape, hG3.output.trans hT.out.output, Nat.le_trans hT.out.size hG3.size, fun k hk hF => (hG3.block k (Nat.lt_of_lt_of_le hk hT.out.size) (by intro e; cases e; omega)).trans (hT.out.block k hk hF)⟩
    replace hT3 := Lib.hid hT3
    clear hG3 hO3 hY hO hT hsz
    go_ret
    exact ⟨some ⟨g', 0, none⟩, cap', by simp, hW.out, hT3.out, fun bd e => by cases e; exact ⟨hq.1, hlt.2⟩⟩
theorem outs_any {F : Nat → Prop} {B : Nat} {x : X.St} {w : World} (h : Mac F B x w) (hn : x.outs.length ≤ 1000000000) :
    Calls Try.prog 20 #[.pointer (some ⟨B, 0, none⟩)] w fun e w' => ∃ A' c', e = .returned (.slice A' x.outs.length c') ∧ Ws w' A' x.outs.length c' x.outs ∧ Turn T0 w w' ∧ ∀ ad, A' = some ad → w.heap.size ≤ ad.block ∧ ad.block < w'.heap.size := by
  obtain ⟨ai, ni, ci, ao, no, co, h⟩ := h
  have hw := h.out.ws h.rng
  have hl := h.out.len
  subst hl
  have hc : w.cell? ⟨B, 4098, none⟩ = some (.slice ao x.outs.length co) := h.mem.tail 1 _ rfl
  have C := Lib.hid (clone_any hw hn)
  clear h hw
  go_enter Try.func20, Try.ntmps20
  go_wp2_with (fail)
  refine C.out.mono ?_; rintro e w2 ⟨A', c', rfl, p1, p2, p3⟩
  replace p1 := Lib.hid p1
  replace p2 := Lib.hid p2
  replace p3 := Lib.hid p3
  clear C
  go_wp2
  go_ret
  exact ⟨A', c', rfl, p1.out, p2.out, p3.out⟩
/-- cells laid over others -/
theorem lay_at (off : Nat) : ∀ (l : List Value) (n : Nat) (acc : Array Value) (k : Nat), ((l.zipIdx n).foldl (fun cs (p : Value × Nat) => cs.setIfInBounds (off + p.2) p.1) acc)[k]? = if off + n ≤ k ∧ k < off + n + l.length ∧ k < acc.size then l[k - (off + n)]? else acc[k]?
  | [], n, acc, k => by simp; omega
  | v :: r, n, acc, k => by
    rw [List.zipIdx_cons, List.foldl_cons, lay_at off r (n + 1) (acc.setIfInBounds (off + n) v) k]
    simp only [Array.size_setIfInBounds, List.length_cons]
    by_cases c1 : off + n = k
    · subst c1
      rw [if_neg (by omega)]
      by_cases c2 : off + n < acc.size
      · rw [if_pos (by omega), Array.getElem?_setIfInBounds_self_of_lt c2, Nat.sub_self]; rfl
      · rw [if_neg (by omega), Array.getElem?_eq_none (by simp; omega), Array.getElem?_eq_none (by omega)]
    · rw [Array.getElem?_setIfInBounds_ne c1]
      by_cases c2 : off + (n + 1) ≤ k ∧ k < off + (n + 1) + r.length ∧ k < acc.size
      · rw [if_pos c2, if_pos (by omega), show k - (off + n) = (k - (off + (n + 1))) + 1 by omega, List.getElem?_cons_succ]
      · rw [if_neg c2, if_neg (by omega)]
theorem lay_size (off : Nat) : ∀ (l : List Value) (n : Nat) (acc : Array Value), ((l.zipIdx n).foldl (fun cs (p : Value × Nat) => cs.setIfInBounds (off + p.2) p.1) acc).size = acc.size
  | [], n, acc => rfl
  | v :: r, n, acc => by rw [List.zipIdx_cons, List.foldl_cons, lay_size off r (n + 1)]; simp
def X.lay (z : Array Value) (off : Nat) (cs : Array Value) : Array Value := (cs.toList.zipIdx 0).foldl (fun cs (p : Value × Nat) => cs.setIfInBounds (off + p.2) p.1) z
theorem X.lay_at (z : Array Value) (off : Nat) (cs : Array Value) (k : Nat) (hz : off + cs.size ≤ z.size) : (X.lay z off cs)[k]? = if off ≤ k ∧ k < off + cs.size then cs[k - off]? else z[k]? := by
  unfold X.lay
  rw [Go.Proofs.Ytlmddkciamdldaa.lay_at]
  simp only [Nat.add_zero, Array.length_toList]
  by_cases c : off ≤ k ∧ k < off + cs.size
  · rw [if_pos (by omega), if_pos c]; simp
  · rw [if_neg (by omega), if_neg c]
theorem X.lay_size (z : Array Value) (off : Nat) (cs : Array Value) : (X.lay z off cs).size = z.size := Go.Proofs.Ytlmddkciamdldaa.lay_size off _ _ _
theorem fill_cons {place : Nat → Option (Nat × Nat)} {z : Array Value} {i off n : Nat} {v : Value} {rest : List (Nat × Value)} (hp : place i = some (off, n)) (hv : v.cells.size = n) (hz : off + n ≤ z.size) : Instr.fill place z ((i, v) :: rest) = Instr.fill place (X.lay z off v.cells) rest := by
  rw [Instr.fill]
  simp only [hp]
  rw [if_neg (by simp; omega)]
  congr 1
  unfold X.lay
  rw [← Array.foldl_toList, Array.toList_zipIdx]
def X.z68 : Array Value := (List.replicate 4096 (Value.int .u32 0) ++ [Value.int .i64 0, .slice none 0 0, .slice none 0 0]).toArray
def X.z70 : Array Value := (List.replicate 4096 (Value.int .u32 0) ++ (Value.int .i64 0 :: X.tl (.slice none 0 0) (.slice none 0 0) A.none' 0 0)).toArray
theorem X.shape68 : shapeOf Try.prog 68 = some (X.z68, [(0, 4097), (4097, 1), (4098, 1)]) := by kernel_rfl
theorem X.shape70 : shapeOf Try.prog 70 = some (X.z70, [(0, 4099), (4099, 21), (4120, 1), (4121, 1)]) := by kernel_rfl
theorem size_rep (k : Nat) (a : Value) (l : List Value) : (List.replicate k a ++ l).toArray.size = k + l.length := by simp
theorem at_rep (k : Nat) (a : Value) (l : List Value) (j : Nat) (hj : k ≤ j) : (List.replicate k a ++ l).toArray[j]? = l[j - k]? := by
  rw [List.getElem?_toArray, List.getElem?_append_right (by simpa using hj)]; simp
theorem X.z68_size : X.z68.size = 4099 := size_rep 4096 _ _
theorem X.z70_size : X.z70.size = 4122 := size_rep 4096 _ _
theorem X.built68 (cs : Array Value) (hs : cs.size = 4097) (v : Value) (hv : v.cells = #[v]) : Try.prog.built 68 [(0, .agg cs), (1, v)] = some (X.lay (X.lay X.z68 0 cs) 4097 #[v]) := by
  rw [built_of X.shape68, fill_cons (v := .agg cs) (off := 0) (n := 4097) rfl hs (by rw [X.z68_size]; omega), fill_cons (off := 4097) (n := 1) rfl (by rw [hv]; rfl) (by rw [X.lay_size, X.z68_size]; omega), hv]
  rfl
theorem X.built70 (cs : Array Value) (hs : cs.size = 4099) : Try.prog.built 70 [(0, .agg cs), (3, .int .i64 0)] = some (X.lay (X.lay X.z70 0 cs) 4121 #[.int .i64 0]) := by
  rw [built_of X.shape70, fill_cons (v := .agg cs) (off := 0) (n := 4099) rfl hs (by rw [X.z70_size]; omega), fill_cons (off := 4121) (n := 1) rfl rfl (by rw [X.lay_size, X.z70_size]; omega)]
  rfl
/-- a new machine's block -/
theorem MemT.machine {B : Nat} {ws : List Int} {cs : Array Value} {w w' : World} {ap : Option Addr} {n c : Nat} (hl : ws.length ≤ 4096) (hr : ∀ x ∈ ws, 0 ≤ x ∧ x < 4294967296) (hs : cs.size = 4097) (h3 : cs[4096]? = some (.int .i64 (ws.length : Int)))
    (h4 : ∀ (j : Nat) (x : Int), ws[j]? = some x → cs[j]? = some (Value.int .u32 x)) (hB : Has B (X.lay (X.lay X.z70 0 (X.lay (X.lay X.z68 0 cs) 4097 #[.slice ap n c])) 4121 #[.int .i64 0]) 70 w') :
    MemT 70 (X.tl (.slice ap n c) (.slice none 0 0) A.none' 0 0) B ws w' := by
  have s1 : (X.lay (X.lay X.z68 0 cs) 4097 #[.slice ap n c]).size = 4099 := by rw [X.lay_size, X.lay_size, X.z68_size]
  have a1 : ∀ k, k < 4097 → (X.lay (X.lay X.z70 0 (X.lay (X.lay X.z68 0 cs) 4097 #[.slice ap n c])) 4121 #[.int .i64 0])[k]? = cs[k]? := by
    intro k hk
    rw [X.lay_at _ _ _ _ (by rw [X.lay_size, X.z70_size]; simp), if_neg (by omega), X.lay_at _ _ _ _ (by rw [s1, X.z70_size]; omega), if_pos (by omega), Nat.sub_zero, X.lay_at _ _ _ _ (by rw [X.lay_size, X.z68_size]; simp), if_neg (by omega), X.lay_at _ _ _ _ (by rw [hs, X.z68_size]; omega), if_pos (by omega), Nat.sub_zero]
  refine ⟨hl, hr, _, hB, ?_, ?_, fun j x hj => ?_, fun j => ?_⟩
  · rw [X.lay_size, X.lay_size, X.z70_size, X.tl_len]
  · rw [a1 4096 (by omega)]; exact h3
  · have hj' : j < ws.length := by
      rcases Nat.lt_or_ge j ws.length with h1 | h1
      · exact h1
      · rw [List.getElem?_eq_none h1] at hj; cases hj
    rw [a1 j (by omega)]
    exact h4 j x hj
  · by_cases c24 : j = 24
    · subst c24
      rw [X.lay_at _ _ _ _ (by rw [X.lay_size, X.z70_size]; simp), if_pos (by simp)]
      rfl
    · rw [X.lay_at _ _ _ _ (by rw [X.lay_size, X.z70_size]; simp), if_neg (by simp; omega), X.lay_at _ _ _ _ (by rw [s1, X.z70_size]; omega)]
      by_cases c2 : j < 2
      · rw [if_pos (by omega), Nat.sub_zero, X.lay_at _ _ _ _ (by rw [X.lay_size, X.z68_size]; simp)]
        by_cases c0 : j = 0
        · subst c0
          rw [if_pos (by simp)]
          rfl
        · obtain rfl : j = 1 := by omega
          rw [if_neg (by simp), X.lay_at _ _ _ _ (by rw [hs, X.z68_size]; omega), if_neg (by omega)]
          exact at_rep 4096 _ _ 4098 (by omega)
      · rw [if_neg (by omega)]
        refine (at_rep 4096 _ _ (4097 + j) (by omega)).trans ?_
        rw [show 4097 + j - 4096 = j + 1 by omega, List.getElem?_cons_succ]
        obtain ⟨m, rfl⟩ : ∃ m, j = m + 2 := ⟨j - 2, by omega⟩
        rfl
theorem A.ok_none : A.Ok A.none' := ⟨fun j _ => by simp [A.none'], by simp [A.none'], by simp [A.none']⟩
theorem new_any {w : World} (n : Nat) (hn : n ≤ 4096) {ap : Option Addr} {m c : Nat} {xs : List Int} (hx : Ws w ap m c xs) (hm : m ≤ 1000000000) :
    Calls Try.prog 10 #[.int .i64 n, .slice ap m c] w fun e w' => ∃ B, e = .returned (.tuple #[.pointer (some ⟨B, 0, none⟩), .int .i64 0]) ∧ ∃ F, Mac F B ⟨List.replicate n 0, A.none', 0, 0, xs, []⟩ w' ∧ Turn T0 w w' ∧ ∀ k, F k → w.heap.size ≤ k := by
  have C := Lib.hid (M.new_yes n hn w)
  have hX := Lib.hid hx
  clear hx
  go_enter Try.func10, Try.ntmps10
  go_wp2_with (fail)
  refine C.out.mono ?_; rintro e w1 ⟨rfl, hM, hK, hsz⟩
  clear C
  go_upto_region 4 with (fail)
  have hKd := Lib.hid (show Kept w w1.drew from hK.drew)
  have hl := hM.len
  have hrng := hM.rng
  obtain ⟨cs, hh, hcs, hc3, hc4, _⟩ := hM.has
  replace hcs : cs.size = 4097 := hcs
  have hS0 : Has w.heap.size cs 66 w1.drew ∧ Ws w1.drew ap m c xs := ⟨hh, hX.out.kept hKd.out⟩
  replace hS0 := Lib.hid hS0
  clear hM hK hX hh
  refine wp_region_held_drew (S := fun wz => Has w.heap.size cs 66 wz ∧ Ws wz ap m c xs) (by kernel_rfl) ?_ (fun hHeld => ?_)
  · exact hS0.out
  refine wpAnyH_take (i := 0) (oi := { dst := some 16, op := Op.move (Operand.tmp 6), type := 61, pos := "machine.go:38", after := #[], guard := none }) (v := ?_) rfl (by kernel_rfl) (by kernel_rfl) (by kernel_rfl) (fun _ _ _ h => h) (Or.inl ⟨rfl, ?_⟩) hHeld ?_
  rotate_left
  · (intro wz hSw; (try dsimp only at hSw); go_simp; try with_reducible rfl)
  try simp only [Act.put, List.setIfInBounds_toArray, List.set_cons_zero, List.set_cons_succ]
  refine wpAnyH_take (i := 1) (oi := { dst := some 17, op := Op.nilCheck (Operand.tmp 16), type := 0, pos := "machine.go:38", after := #[eD 0], guard := none }) (v := ?_) rfl (by kernel_rfl) (by kernel_rfl) (by kernel_rfl) (fun _ _ _ h => h) (Or.inl ⟨rfl, ?_⟩) hHeld ?_
  rotate_left
  · (intro wz hSw; (try dsimp only at hSw); go_simp; try with_reducible rfl)
  try simp only [Act.put, List.setIfInBounds_toArray, List.set_cons_zero, List.set_cons_succ]
  refine wpAnyH_take (i := 2) (oi := { dst := some 18, op := Op.load 66 (Operand.tmp 17), type := 66, pos := "machine.go:38", after := #[eD 1], guard := none }) (v := ?_) rfl (by kernel_rfl) (by kernel_rfl) (by kernel_rfl) (fun _ _ _ h => h) (Or.inl ⟨rfl, ?_⟩) hHeld ?_
  rotate_left
  · (intro wz hSw; refine exec_load_has 66 (Operand.tmp 17) ?_ _ ?_ hSw.1 Try.underlying66 rfl (by rw [hcs]; kernel_rfl) <;> rfl)
  try simp only [Act.put, List.setIfInBounds_toArray, List.set_cons_zero, List.set_cons_succ]
  refine wpAnyH_take (i := 3) (oi := { dst := some 19, op := Op.move (Operand.tmp 1), type := 28, pos := "machine.go:38", after := #[], guard := none }) (v := ?_) rfl (by kernel_rfl) (by kernel_rfl) (by kernel_rfl) (fun _ _ _ h => h) (Or.inl ⟨rfl, ?_⟩) hHeld ?_
  rotate_left
  · (intro wz hSw; (try dsimp only at hSw); go_simp; try with_reducible rfl)
  try simp only [Act.put, List.setIfInBounds_toArray, List.set_cons_zero, List.set_cons_succ]
  refine wpAnyH_ready (rs := [4]) (by kernel_rfl) (by simp) ?_
  refine AllReadyH.cons (o := { dst := some 20, op := Op.call { callee := Callee.value (Operand.func 25), args := #[Operand.tmp 19], argTypes := #[28] }, type := 28, pos := "machine.go:38", after := #[eD 3], guard := none }) rfl (fun K hK => ?_) (AllReadyH.nil)
  go_simp
  go_at_call 25
  refine (clone_any hHeld.2 (by omega)).mono ?_
  rintro e wd ⟨A', c', rfl, p1, p2, p3⟩
  have hN := (show (fun wz => Has w.heap.size cs 66 wz ∧ Ws wz ap m c xs) _ from ⟨(p2.block _ hHeld.1.lt id).trans hHeld.1, hHeld.2.to fun ad e hn => p2.block _ (by subst e; exact hHeld.2.lt hn) id⟩)
  clear hHeld
  refine hK.out _ _ hN (fun hHeld => ?_)
  clear hK K hN
  try simp only [Act.put, List.setIfInBounds_toArray, List.set_cons_zero, List.set_cons_succ]
  refine wpAnyH_take (i := 5) (oi := { dst := some 21, op := Op.build 68 #[(0, Operand.tmp 18), (1, Operand.tmp 20)], type := 68, pos := "machine.go:38", after := #[eD 2, eD 4], guard := none }) (v := ?_) rfl (by kernel_rfl) (by kernel_rfl) (by kernel_rfl) (fun _ _ _ h => h) (Or.inl ⟨rfl, ?_⟩) hHeld ?_
  rotate_left
  · (intro wz hSw; refine exec_build (o := { dst := some 21, op := Op.build 68 #[(0, Operand.tmp 18), (1, Operand.tmp 20)], type := 68, pos := "machine.go:38", after := #[eD 2, eD 4], guard := none }) 68 _ rfl (X.lay (X.lay X.z68 0 cs) 4097 #[.slice A' m c']) ?_; (go_simp; exact X.built68 cs hcs (.slice A' m c') rfl))
  try simp only [Act.put, List.setIfInBounds_toArray, List.set_cons_zero, List.set_cons_succ]
  refine wpAnyH_take (i := 6) (oi := { dst := some 22, op := Op.build 70 #[(0, Operand.tmp 21), (3, Operand.const (Value.int IntKind.i64 0))], type := 70, pos := "machine.go:38", after := #[eD 5], guard := none }) (v := ?_) rfl (by kernel_rfl) (by kernel_rfl) (by kernel_rfl) (fun _ _ _ h => h) (Or.inl ⟨rfl, ?_⟩) hHeld ?_
  rotate_left
  · (intro wz hSw; refine exec_build (o := { dst := some 22, op := Op.build 70 #[(0, Operand.tmp 21), (3, Operand.const (Value.int IntKind.i64 0))], type := 70, pos := "machine.go:38", after := #[eD 5], guard := none }) 70 _ rfl (X.lay (X.lay X.z70 0 (X.lay (X.lay X.z68 0 cs) 4097 #[.slice A' m c'])) 4121 #[.int .i64 0]) ?_; (go_simp; exact X.built70 (X.lay (X.lay X.z68 0 cs) 4097 #[.slice A' m c']) (by rw [X.lay_size, X.lay_size, X.z68_size])))
  try simp only [Act.put, List.setIfInBounds_toArray, List.set_cons_zero, List.set_cons_succ]
  refine wpAnyH_ready (rs := [7]) (by kernel_rfl) (by simp) ?_
  refine AllReadyH.cons (o := { dst := some 23, op := Op.box 70 (Operand.tmp 22), type := 36, pos := "machine.go:38", after := #[eD 6], guard := none }) rfl (fun K hK => ?_) (AllReadyH.nil)
  go_simp
  have hBox := Has.new (X.lay (X.lay X.z70 0 (X.lay (X.lay X.z68 0 cs) 4097 #[.slice A' m c'])) 4121 #[.int .i64 0]) 70 wd
  have hKb := (Kept.refl wd).alloc (X.lay (X.lay X.z70 0 (X.lay (X.lay X.z68 0 cs) 4097 #[.slice A' m c'])) 4121 #[.int .i64 0]) 70
  generalize wd.alloc _ = we at *
  have hN := (show (fun wz => Has w.heap.size cs 66 wz ∧ Ws wz ap m c xs) _ from ⟨hHeld.1.kept hKb, hHeld.2.kept hKb⟩)
  clear hHeld
  refine hK.out _ _ hN (fun hHeld => ?_)
  clear hK K hN
  try simp only [Act.put, List.setIfInBounds_toArray, List.set_cons_zero, List.set_cons_succ]
  refine wpAnyH_take (i := 8) (oi := { dst := some 4, op := Op.assign (Operand.tmp 23), type := 36, pos := "machine.go:38", after := #[eD 7, eC 4, eP 0, eP 1, eP 2, eP 3, eP 4, eP 5, eP 6, eP 7], guard := none }) (v := ?_) rfl (by kernel_rfl) (by kernel_rfl) (by kernel_rfl) (fun _ _ _ h => h) (Or.inl ⟨rfl, ?_⟩) hHeld ?_
  rotate_left
  · (intro wz hSw; (try dsimp only at hSw); go_simp; try with_reducible rfl)
  try simp only [Act.put, List.setIfInBounds_toArray, List.set_cons_zero, List.set_cons_succ]
  refine wpAnyH_take (i := 9) (oi := { dst := some 5, op := Op.assign (Operand.const (Value.int IntKind.i64 0)), type := 33, pos := "machine.go:38", after := #[eC 8, eP 0, eP 1, eP 2, eP 3, eP 4, eP 5, eP 6, eP 7, eP 8], guard := none }) (v := ?_) rfl (by kernel_rfl) (by kernel_rfl) (by kernel_rfl) (fun _ _ _ h => h) (Or.inl ⟨rfl, ?_⟩) hHeld ?_
  rotate_left
  · (intro wz hSw; (try dsimp only at hSw); go_simp; try with_reducible rfl)
  try simp only [Act.put, List.setIfInBounds_toArray, List.set_cons_zero, List.set_cons_succ]
  refine wpAnyH_done (by kernel_rfl) ?_ _
  have hT : Turn T0 w we := ((hKd.out.turn T0).trans p2).trans (hKb.turn T0)
  have hle : w.heap.size ≤ wd.heap.size := Nat.le_trans hKd.out.size p2.size
  have hlt : wd.heap.size < we.heap.size := hBox.lt
  have hMM := MemT.machine (w := we) hl hrng hcs hc3 hc4 hBox
  have hW := p1.kept hKb
  have hMac : Mac (fun k => w.heap.size ≤ k ∧ k < we.heap.size) wd.heap.size ⟨List.replicate n 0, A.none', 0, 0, xs, []⟩ we := ⟨A', m, c', none, 0, 0, fun k hk => hk.2, ⟨hle, hlt⟩, hMM, hW, fun ad e _ => ⟨⟨Nat.le_trans hKd.out.size (p3 ad e).1, by have := (p3 ad e).2; omega⟩, by have := (p3 ad e).2; omega, fun bd e' => by cases e'⟩, World.ownsRow_nil we 0 _ _, (fun ad e => by cases e), A.ok_none, by simp, by simp, by simp⟩
  replace hMac := Lib.hid hMac
  replace hT := Lib.hid hT
  clear p1 p2 p3 hMM hW hBox hKb hHeld
  go_wp2
  go_ret2
  exact ⟨_, rfl, _, hMac.out, hT.out, fun k hk => hk.1⟩
end Go.Proofs.Ytlmddkciamdldaa

/-
  Two registers' values that are the same are equal; operations behind a guard.
-/
namespace Go.Proofs.Ytlmddkciamdldaa
open Go.RowKit
set_option linter.unusedVariables false
set_option linter.unusedSimpArgs false
set_option maxRecDepth 100000
theorem A.part_u (xs : Array Value) (j : Nat) (x : Int) (w : World) (hj : xs[j]? = some (.int .u32 x)) : (part 24 xs j).run Try.prog w = .ok (.int .u32 x) w := by
  have ha := run_isAgg Try.underlying24 w
  simp [part, Sem.run_bind, run_sizeOf (P := Try.prog) (e := 24) (m := 1) (by kernel_rfl), ha, TypeDesc.isRow, hj]
theorem A.part_b (xs : Array Value) (j : Nat) (x : Bool) (w : World) (hj : xs[j]? = some (.bool x)) : (part 4 xs j).run Try.prog w = .ok (.bool x) w := by
  have ha := run_isAgg Try.underlying4 w
  simp [part, Sem.run_bind, run_sizeOf (P := Try.prog) (e := 4) (m := 1) (by kernel_rfl), ha, TypeDesc.isRow, hj]
theorem A.part_R (s : A.Regs) (w : World) : (part 25 (A.cells s) 0).run Try.prog w = .ok (.agg ((A.cells s).extract 0 16)) w := by
  have ha := run_isAgg Try.underlying25 w
  simp [part, Sem.run_bind, run_sizeOf (P := Try.prog) (e := 25) (m := 16) (by kernel_rfl), ha, TypeDesc.isRow]
theorem A.items (d : Nat) (xs : Array Value) (w : World) : ∀ is : List Nat, (∀ i ∈ is, ∃ x, xs[i]? = some (.int .u32 x)) → (Op.eqItems (d + 1) 24 1 xs xs is).run Try.prog w = .ok true w
  | [], _ => by simp [Op.eqItems]
  | i :: is, h => by
    obtain ⟨x, hx⟩ := h i (by simp)
    have hp := A.part_u xs (i * 1) x w (by simpa using hx)
    have := A.items d xs w is (fun j hj => h j (by simp [hj]))
    simp only [Op.eqItems, Sem.run_bind, hp, Result.andThen_ok, run_equalIn_int w d 24 .u32 .u32 x x Try.underlying24]
    simpa using this
theorem A.eq_R (d : Nat) (s : A.Regs) (w : World) : (Op.equalIn (d + 2) 25 (.agg ((A.cells s).extract 0 16)) (.agg ((A.cells s).extract 0 16))).run Try.prog w = .ok true w := by
  obtain ⟨i, hi⟩ : ∃ i, Try.prog.info? 24 = some i := Option.isSome_iff_exists.1 (show (Try.prog.info? 24).isSome = true by kernel_rfl)
  rw [run_equalIn_array w (d + 1) _ _ Try.underlying25 hi, show Try.prog.cellsOf 24 = 1 by kernel_rfl]
  refine A.items d _ w _ fun j hj => ?_
  have hj' : j < 16 := by simpa using hj
  exact ⟨s.r j, by rw [Array.getElem?_extract]; simp [hj', A.cell_r s j hj']⟩
theorem A.eq_u (d : Nat) (x : Int) (w : World) : (Op.equalIn (d + 2) 24 (.int .u32 x) (.int .u32 x)).run Try.prog w = .ok true w := by
  rw [run_equalIn_int w (d + 1) 24 .u32 .u32 x x Try.underlying24]; simp
theorem A.eq_b (d : Nat) (x : Bool) (w : World) : (Op.equalIn (d + 2) 4 (.bool x) (.bool x)).run Try.prog w = .ok true w := by
  rw [run_equalIn_bool' w (d + 1) 4 x x Try.underlying4]; simp
theorem A.eq_regsD (d : Nat) (s : A.Regs) (w : World) : (Op.equalIn (d + 3) 27 (.agg (A.cells s)) (.agg (A.cells s))).run Try.prog w = .ok true w := by
  rw [run_equalIn_struct w (d + 2) 27 _ _ Try.underlying27 (by kernel_rfl)]
  simp only [Program.fieldsOf, Try.underlying27]
  simp only [Op.eqFields]
  rw [if_pos (by decide), if_pos (by decide), if_pos (by decide), if_pos (by decide), if_pos (by decide), if_pos (by decide)]
  simp only [Sem.run_bind, A.part_R, A.eq_R, A.part_u (A.cells s) 16 s.h _ rfl, A.part_b (A.cells s) 17 s.n _ rfl, A.part_b (A.cells s) 18 s.z _ rfl, A.part_b (A.cells s) 19 s.c _ rfl, A.part_b (A.cells s) 20 s.v _ rfl, A.eq_u, A.eq_b, Result.andThen_ok, Bool.not_true, Bool.false_eq_true, if_false, Sem.run_pure]
theorem A.depth : Op.maxDepth = 9997 + 3 := rfl
theorem A.eq_regs (s : A.Regs) (w : World) : (Op.equal 27 (.agg (A.cells s)) (.agg (A.cells s))).run Try.prog w = .ok true w := by
  unfold Op.equal
  rw [A.depth]
  exact A.eq_regsD 9997 s w
section
variable {P : Program} {ops : Array Oper} {rest : List Oper} {o : Oper} {a : Act} {w : World} {Q : Exit → Act → World → Prop}
/-- an operation that is wanted, and only makes a value -/
theorem want_exec {v : Value} (hw : Region.wanted o (yielded ops a.tmps) = true) (he : (execOp a.eval o).run P w = .ok (.value v) w) (h : wpList P ops Q rest (a.put o.dst v) w) : wpList P ops Q (o :: rest) a w :=
  BigFrame.wpList_want hw fun K hK => by
    unfold Oper.wp
    simp only [he, Oper.upon]
    exact hK _ _ h
end
theorem A.bin_eq (cs ds : Array Value) : binOp BinOp.eql 27 (.agg cs) (.agg ds) = (do pure (.bool (← Op.equal 27 (.agg cs) (.agg ds)))) := by simp only [binOp]
theorem exec_eq_regs {o : Oper} {a : Act} {w : World} (x y : Operand) (ho : o.op = .binOp .eql 27 x y 27) (s : A.Regs) (hx : a.eval x = .agg (A.cells s)) (hy : a.eval y = .agg (A.cells s)) :
    (execOp a.eval o).run Try.prog w = .ok (.value (.bool true)) w := by
  unfold execOp
  simp only [ho, hx, hy, Sem.run_bind]
  rw [run_eqGuard_agg w BinOp.eql 27 x y (A.cells s) (A.cells s) (by kernel_rfl)]
  simp only [Result.andThen_ok, A.bin_eq, Sem.run_bind, A.eq_regs, Sem.run_pure]
end Go.Proofs.Ytlmddkciamdldaa

/-
  One machine in a law's walk: Live; the contracts in its words; the document's example.
-/
namespace Go.Proofs.Ytlmddkciamdldaa
open Go.RowKit
set_option linter.unusedVariables false
set_option linter.unusedSimpArgs false
set_option maxRecDepth 100000
/-- the machine x, made since w0; nothing of w0 has turned -/
def Live (w0 : World) (B : Nat) (x : X.St) (w : World) : Prop := ∃ F, Mac F B x w ∧ (∀ k, F k → w0.heap.size ≤ k) ∧ Below w0.heap.size w0 w
theorem Live.below {w0 : World} {B : Nat} {x : X.St} {w : World} (h : Live w0 B x w) : Below w0.heap.size w0 w := by obtain ⟨F, h1, h2, h3⟩ := h; exact h3
theorem Live.mac {w0 : World} {B : Nat} {x : X.St} {w : World} (h : Live w0 B x w) : ∃ F, Mac F B x w := by obtain ⟨F, h1, h2, h3⟩ := h; exact ⟨F, h1⟩
theorem Live.turn0 {w0 : World} {B : Nat} {x : X.St} {w w' : World} (h : Live w0 B x w) (hT : Turn T0 w w') : Live w0 B x w' := by
  obtain ⟨F, h1, h2, h3⟩ := h
  exact ⟨F, h1.turn hT fun _ _ h => h, h2, h3.trans (hT.below w0.heap.size h3.size fun _ h => h.elim)⟩
theorem Live.kept {w0 : World} {B : Nat} {x : X.St} {w w' : World} (h : Live w0 B x w) (hK : Kept w w') : Live w0 B x w' := h.turn0 (hK.turn T0)
theorem Live.to {w0 : World} {B : Nat} {x' : X.St} {F F' : Nat → Prop} {w w' : World} (hF : ∀ k, F k → w0.heap.size ≤ k) (hb : Below w0.heap.size w0 w) (hM : Mac F' B x' w') (hT : Turn F w w') (hF' : ∀ k, F' k → F k ∨ w.heap.size ≤ k) : Live w0 B x' w' :=
  ⟨F', hM, fun k hk => by
    rcases hF' k hk with h1 | h1
    · exact hF k h1
    · exact Nat.le_trans hb.size h1, hb.trans (hT.below w0.heap.size hb.size hF)⟩
theorem Live.toB {w0 : World} {B : Nat} {x' : X.St} {F : Nat → Prop} {w w' : World} (hF : ∀ k, F k → w0.heap.size ≤ k) (hb : Below w0.heap.size w0 w) (hM : Mac F B x' w') (hB : But B w w') : Live w0 B x' w' :=
  Live.to hF hb hM (hB.turn hM.inB) fun k hk => Or.inl hk
theorem new_live {w : World} (n : Nat) (hn : n ≤ 4096) {ap : Option Addr} {m c : Nat} {xs : List Int} (hx : Ws w ap m c xs) (hm : m ≤ 1000000000) :
    Calls Try.prog 10 #[.int .i64 n, .slice ap m c] w fun e w' => ∃ B, e = .returned (.tuple #[.pointer (some ⟨B, 0, none⟩), .int .i64 0]) ∧ Live w B ⟨List.replicate n 0, A.none', 0, 0, xs, []⟩ w' := by
  refine (new_any n hn hx hm).mono ?_
  rintro e w' ⟨B, he, F, h1, h2, h3⟩
  exact ⟨B, he, F, h1, h3, h2.kept0⟩
theorem step_live {w0 : World} {B : Nat} {x : X.St} {w : World} (h : Live w0 B x w) (hn : x.outs.length < 1000000) :
    Calls Try.prog 13 #[.pointer (some ⟨B, 0, none⟩)] w fun e w' => e = .returned (.int .i64 (X.step x).st) ∧ Live w0 B (X.step x) w' := by
  obtain ⟨F, h1, h2, h3⟩ := h
  refine (step_any h1 hn).mono ?_
  rintro e w' ⟨he, F', p1, p2, p3⟩
  exact ⟨he, Live.to h2 h3 p1 p2 p3⟩
theorem run_live {w0 : World} {B : Nat} {x : X.St} {w : World} (h : Live w0 B x w) (n : Int) (N : Nat) (hN : n.toNat = N) (n0 : -9223372036854775808 ≤ n) (n1 : n ≤ 1000000) (hn : x.outs.length + N < 1000000) :
    Calls Try.prog 19 #[.pointer (some ⟨B, 0, none⟩), .int .i64 n] w fun e w' => e = .returned (.int .i64 (X.go N x).st) ∧ Live w0 B (X.go N x) w' := by
  obtain ⟨F, h1, h2, h3⟩ := h
  refine (run_any h1 n N hN n0 n1 hn).mono ?_
  rintro e w' ⟨he, F', p1, p2, p3⟩
  exact ⟨he, Live.to h2 h3 p1 p2 p3⟩
theorem place_live {w0 : World} {B : Nat} {x : X.St} {w : World} (h : Live w0 B x w) (k : Nat) (ap : Option Addr) (n c : Nat) (xs : List Int) (hx : Ws w ap n c xs) (hf : k + n ≤ x.ws.length) :
    Calls Try.prog 11 #[.pointer (some ⟨B, 0, none⟩), .int .i64 k, .slice ap n c] w fun e w' => e = .returned (.int .i64 0) ∧ Live w0 B ⟨M.placed x.ws k xs, x.s, x.pc, x.st, x.ins, x.outs⟩ w' := by
  obtain ⟨F, h1, h2, h3⟩ := h
  refine (place_any h1 k ap n c xs hx hf).mono ?_
  rintro e w' ⟨he, p1, p2⟩
  exact ⟨he, Live.toB h2 h3 p1 p2⟩
theorem start_live {w0 : World} {B : Nat} {x : X.St} {w : World} (h : Live w0 B x w) (pc : Int) (s : A.Regs) (ok : A.Ok s) (p0 : 0 ≤ pc) (p1 : pc < 4294967296) :
    Calls Try.prog 12 #[.pointer (some ⟨B, 0, none⟩), .int .u32 pc, .agg (A.cells s)] w fun e w' => e = .returned (.tuple #[]) ∧ Live w0 B ⟨x.ws, s, pc, 0, x.ins, x.outs⟩ w' := by
  obtain ⟨F, h1, h2, h3⟩ := h
  refine (start_any h1 pc s ok p0 p1).mono ?_
  rintro e w' ⟨he, q1, q2⟩
  exact ⟨he, Live.toB h2 h3 q1 q2⟩
theorem pc_live {w0 : World} {B : Nat} {x : X.St} {w : World} (h : Live w0 B x w) :
    Calls Try.prog 16 #[.pointer (some ⟨B, 0, none⟩)] w fun e w' => e = .returned (.int .u32 x.pc) ∧ w = w' := by
  obtain ⟨F, h1⟩ := h.mac; exact pc_any h1
theorem regs_live {w0 : World} {B : Nat} {x : X.St} {w : World} (h : Live w0 B x w) :
    Calls Try.prog 15 #[.pointer (some ⟨B, 0, none⟩)] w fun e w' => e = .returned (.agg (A.cells x.s)) ∧ Kept w w' := by
  obtain ⟨F, h1⟩ := h.mac; exact regs_any h1
theorem outs_live {w0 : World} {B : Nat} {x : X.St} {w : World} (h : Live w0 B x w) (hn : x.outs.length ≤ 1000000000) :
    Calls Try.prog 20 #[.pointer (some ⟨B, 0, none⟩)] w fun e w' => ∃ A' c', e = .returned (.slice A' x.outs.length c') ∧ Ws w' A' x.outs.length c' x.outs ∧ Turn T0 w w' ∧ ∀ ad, A' = some ad → w.heap.size ≤ ad.block ∧ ad.block < w'.heap.size := by
  obtain ⟨F, h1⟩ := h.mac; exact outs_any h1 hn
namespace X
/-- a step that does an instruction -/
theorem step_ins (x : St) (j : I.Ins) (h0 : x.st = 0) (ht : M.wt x.ws x.pc = 0) (hw : M.word x.ws x.pc = I.word j) (hm : I.May j) :
    step x = if doT x j = 0 ∨ doT x j = 1 then ⟨(doX x j).ws, doS x j, doP x j, doT x j, (doX x j).ins, (doX x j).outs⟩ else ⟨(doX x j).ws, x.s, x.pc, doT x j, (doX x j).ins, (doX x j).outs⟩ := by
  have hi : I.is (M.word x.ws x.pc) = true := by rw [hw]; exact I.is_word j hm
  have hd : I.dec (M.word x.ws x.pc) = j := by rw [hw]; exact I.dec_word j hm
  have hT : nextT x = doT x j := by unfold nextT; rw [if_pos ht, if_pos hi, hd]
  unfold step
  rw [if_pos h0, hT]
  unfold nextX
  rw [if_pos ⟨ht, hi⟩, hd]
  by_cases c : doT x j = 0 ∨ doT x j = 1
  · rw [if_pos c, if_pos c]
  · rw [if_neg c, if_neg c]
    have := doX_eq x j
    rw [this.1, this.2.1]
/-- the word that stands at a place -/
theorem at_word (ws : List Int) (k : Nat) (v pc : Int) (hk : ws[k]? = some v) (hp : pc = 4 * k) : M.wt ws pc = 0 ∧ M.word ws pc = v := by
  have hl : k < ws.length := by
    rcases Nat.lt_or_ge k ws.length with h1 | h1
    · exact h1
    · rw [List.getElem?_eq_none h1] at hk; cases hk
  subst hp
  have e1 : M.wt ws (4 * k) = 0 := by
    unfold M.wt M.bt
    rw [if_pos (by omega), if_neg (by omega)]
  refine ⟨e1, ?_⟩
  unfold M.word
  rw [if_pos e1, show ((4 * (k : Int)) / 4).toNat = k by omega, List.getD_eq_getElem?_getD, hk]
  rfl
end X
theorem run_imm_mov (s : A.Regs) (a i : Int) (hs : A.Ok s) (hm : I.May ⟨2, 0, a, 0, 0, i, false⟩) : A.run s ⟨2, 0, a, 0, 0, i, false⟩ = (A.show' (A.set s a.toNat (i % 4294967296)) (i % 4294967296), 0) := by
  rw [A.run_yes s _ hm (Or.inr (Or.inl rfl)) (fun h => by have := h.2.1; simp at this)]
  rfl
theorem X.first : X.step ⟨[1090519045], A.none', 0, 0, [], []⟩ = ⟨[1090519045], A.show' (A.set A.none' 1 5) 5, 4, 0, [], []⟩ := by
  have hm : I.May ⟨2, 0, 1, 0, 0, 5, false⟩ := by unfold I.May; simp
  have hw : I.word ⟨2, 0, 1, 0, 0, 5, false⟩ = 1090519045 := by simp [I.word, I.bit]
  have ha := X.at_word [1090519045] 0 1090519045 0 rfl rfl
  rw [X.step_ins _ ⟨2, 0, 1, 0, 0, 5, false⟩ rfl ha.1 (ha.2.trans hw.symm) hm]
  have hr := run_imm_mov A.none' 1 5 A.ok_none hm
  have e1 : X.doT ⟨[1090519045], A.none', 0, 0, [], []⟩ ⟨2, 0, 1, 0, 0, 5, false⟩ = 0 := by unfold X.doT; rw [if_neg (by simp), if_neg (by simp), hr]
  have e2 : X.doS ⟨[1090519045], A.none', 0, 0, [], []⟩ ⟨2, 0, 1, 0, 0, 5, false⟩ = A.show' (A.set A.none' 1 5) 5 := by unfold X.doS; rw [if_neg (by simp), if_neg (by simp), hr]; rfl
  have e3 : X.doP ⟨[1090519045], A.none', 0, 0, [], []⟩ ⟨2, 0, 1, 0, 0, 5, false⟩ = 4 := by unfold X.doP; rw [if_neg (by simp)]; rfl
  have e4 : X.doX ⟨[1090519045], A.none', 0, 0, [], []⟩ ⟨2, 0, 1, 0, 0, 5, false⟩ = ⟨[1090519045], A.none', 0, 0, [], []⟩ := by unfold X.doX; rw [if_neg (by simp)]
  rw [e1, e2, e3, e4, if_pos (Or.inl rfl)]
theorem A.field_R (s : A.Regs) (W : World) : (Instr.field 27 (.agg (A.cells s)) 0).run Try.prog W = .ok (.agg ((A.cells s).extract 0 16)) W := by
  have h := A.part_R s W
  simp only [Instr.field, Sem.run_bind, run_underlying Try.underlying27, Result.andThen_ok, asAgg, Sem.run_pure]
  exact h
theorem A.index_R (s : A.Regs) (j : Nat) (hj : j < 16) (W : World) : (Instr.index 25 (.agg ((A.cells s).extract 0 16)) (.int .i64 j)).run Try.prog W = .ok (.int .u32 (s.r j)) W :=
  run_index_cell Try.underlying25 (by omega) (by omega) Try.underlying24 rfl (by kernel_rfl) (by
    rw [Array.getElem?_extract]
    have := A.cell_r s j hj
    simp [hj, this]) W
theorem shown_any (w : World) : Calls Try.prog 7 #[] w fun e w' => e = .returned (.bool true) ∧ Turn T0 w w' := by
  go_enter Try.func7, Try.ntmps7
  go_wp2_with (fail)
  refine (new_live 1 (by omega) (Ws.empty w) (by omega)).mono ?_; rintro e w1 ⟨B, rfl, hL⟩
  have hLb := hL.below.size
  have hL1 := Lib.hid (hL.kept ((Kept.refl w1).alloc #[.int .u32 1090519045] 24))
  have hW1 := Lib.hid (Ws.sole (Has.new #[.int .u32 1090519045] 24 w1) (by omega) (by omega))
  clear hL
  go_wp2_with (fail)
  refine (place_live hL1.out 0 _ 1 1 [1090519045] hW1.out (by simp)).mono ?_; rintro e w2 ⟨rfl, hL2⟩
  replace hL2 : Live w B ⟨[1090519045], A.none', 0, 0, [], []⟩ w2 := hL2
  clear hL1 hW1
  replace hL2 := Lib.hid hL2
  go_wp2_with (fail)
  refine (step_live hL2.out (by simp)).mono ?_; rintro e w3 ⟨rfl, hL3⟩
  rw [X.first] at hL3 ⊢
  replace hL3 := Lib.hid hL3
  clear hL2
  go_wp2_with (fail)
  refine (regs_live hL3.out).mono ?_; rintro e w4 ⟨rfl, hK4⟩
  have hL4 := Lib.hid (hL3.out.kept hK4)
  clear hL3 hK4
  have hf := A.field_R (A.show' (A.set A.none' 1 5) 5)
  have hi : ∀ W, (Instr.index 25 (.agg ((A.cells (A.show' (A.set A.none' 1 5) 5)).extract 0 16)) (.int .i64 1)).run Try.prog W = .ok (.int .u32 5) W := A.index_R (A.show' (A.set A.none' 1 5) 5) 1 (by omega)
  generalize A.show' (A.set A.none' 1 5) 5 = s5 at *
  generalize (A.cells s5).extract 0 16 = c5 at *
  go_wp2_with (fail)
  refine (pc_live hL4.out).mono ?_; rintro e w5 ⟨rfl, rfl⟩
  go_wp2
  go_ret
  exact ⟨rfl, ⟨hL4.out.below.os, hL4.out.below.tape, hL4.out.below.output, hL4.out.below.size, fun k hk _ => hL4.out.below.block k hk⟩⟩
end Go.Proofs.Ytlmddkciamdldaa

/-
  The document's examples; Encode and Decode by the letters of what they answer.
-/
namespace Go.Proofs.Ytlmddkciamdldaa
open Go.RowKit
set_option linter.unusedVariables false
set_option linter.unusedSimpArgs false
set_option maxRecDepth 100000
/-- Encode of an instruction that may be -/
theorem enc_to (k op a b c i r : Int) (u : Bool) (h : I.May ⟨k, op, a, b, c, i, u⟩) (hr : I.word ⟨k, op, a, b, c, i, u⟩ = r) (w : World) :
    Calls Try.prog 9 #[.agg #[.int .i64 k, .int .i64 op, .int .i64 a, .int .i64 b, .int .i64 c, .int .i64 i, .bool u]] w fun e w' => e = .returned (.tuple #[.int .u32 r, .int .i64 0]) ∧ Kept w w' := by
  have e1 : I.may ⟨k, op, a, b, c, i, u⟩ = true := decide_eq_true h
  have C := enc_any k op a b c i u w
  simp only [I.enc, I.err, e1, reduceIte, hr] at C
  exact C
end Go.Proofs.Ytlmddkciamdldaa
