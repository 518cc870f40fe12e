/-
  Fields set one behind the other, from the highest on; and the lowest bits of a word in which a field is set. No Go text is named here.
-/
import Derived.Test.YtliofphhoaopkaaField6
import Derived.Test.YtliofphhoaopkaaIsa0
namespace Go.Proofs.Ytliofphhoaopkaa
set_option linter.unusedVariables false
set_option linter.unusedSimpArgs false
namespace F
theorem setmod (w x A K : Nat) (hw : w < 4294967296) (hk : A + K ≤ 32) : setP w x A K 32 % 2 ^ (A + K) = (x % 2 ^ K) * 2 ^ A + w % 2 ^ A := by
  rw [← nat_join A ((x % 2 ^ K) * 2 ^ A) (w % 2 ^ A) (Nat.mul_mod_left _ _) (Nat.mod_lt _ (Nat.two_pow_pos _))]
  apply Nat.eq_of_testBit_eq
  intro j
  rw [Nat.testBit_mod_two_pow, sbit w x A K j hw, Nat.testBit_or, Nat.testBit_mul_two_pow, Nat.testBit_mod_two_pow, Nat.testBit_mod_two_pow]
  by_cases h1 : j < A
  · simp [h1, show ¬ A ≤ j by omega, show j < A + K by omega]
  · by_cases h2 : j < A + K
    · simp [h1, h2, show A ≤ j by omega, show j < 32 by omega, show j - A < K by omega]
    · simp [h1, h2, show A ≤ j by omega, show ¬ j - A < K by omega]
theorem settop (y x A K : Nat) (hy : y < 4294967296) (hk : A + K ≤ 32) (hz : y % 2 ^ (A + K) = 0) : setP y x A K 32 = y + (x % 2 ^ K) * 2 ^ A := by
  have hm : (x % 2 ^ K) * 2 ^ A < 2 ^ (A + K) := by
    rw [Nat.pow_add, Nat.mul_comm (2 ^ A)]
    exact Nat.mul_lt_mul_of_pos_right (Nat.mod_lt _ (Nat.two_pow_pos _)) (Nat.two_pow_pos _)
  rw [← nat_join (A + K) y _ hz hm]
  apply Nat.eq_of_testBit_eq
  intro j
  have hyb : j < A + K → y.testBit j = false := fun h => by
    have := Nat.testBit_mod_two_pow y (A + K) j
    rw [hz] at this
    simpa [h] using this
  rw [sbit y x A K j hy, Nat.testBit_or, Nat.testBit_mul_two_pow, Nat.testBit_mod_two_pow]
  by_cases h1 : j < A
  · simp [h1, show ¬ A ≤ j by omega]
  · by_cases h2 : j < A + K
    · simp [h1, h2, hyb h2, show A ≤ j by omega, show j < 32 by omega, show j - A < K by omega]
    · simp [h1, h2, show A ≤ j by omega, show ¬ j - A < K by omega]
theorem set_top (y x i n D M : Int) (hy0 : 0 ≤ y) (hy1 : y < 4294967296) (hx0 : 0 ≤ x) (i0 : 0 ≤ i) (n0 : 0 ≤ n) (hk : i + n ≤ 32) (hD : (2 : Int) ^ i.toNat = D) (hM : (2 : Int) ^ n.toNat = M) (hz : y % (D * M) = 0) :
    F.set y i n x = y + x % M * D := by
  obtain ⟨Y, rfl⟩ := Int.eq_ofNat_of_zero_le hy0
  obtain ⟨X, rfl⟩ := Int.eq_ofNat_of_zero_le hx0
  obtain ⟨A, rfl⟩ := Int.eq_ofNat_of_zero_le i0
  obtain ⟨K, rfl⟩ := Int.eq_ofNat_of_zero_le n0
  rw [Int.toNat_natCast] at hD hM
  subst hD hM
  have h := settop Y X A K (by omega) (by omega) (by
    rw [← cast_pow, ← cast_pow, ← Int.natCast_mul, ← Int.natCast_emod, ← Nat.pow_add] at hz
    exact Int.ofNat_eq_zero.1 hz)
  unfold F.set
  rw [Int.toNat_natCast, Int.toNat_natCast, h, Int.natCast_add, Int.natCast_mul, Int.natCast_emod, cast_pow, cast_pow]
theorem set16 (x s : Int) (hx0 : 0 ≤ x) (hx1 : x < 4294967296) (s0 : 0 ≤ s) (s1 : s ≤ 1) : F.sgnd (F.set x 16 1 s) 17 = if s = 1 then x % 65536 - 65536 else x % 65536 := by
  obtain ⟨X, rfl⟩ := Int.eq_ofNat_of_zero_le hx0
  obtain ⟨S, rfl⟩ := Int.eq_ofNat_of_zero_le s0
  have h := setmod X S 16 1 (by omega) (by omega)
  have e : F.set X 16 1 S = (setP X S (16 : Nat) (1 : Nat) 32 : Nat) := by unfold F.set; rw [Int.toNat_natCast, Int.toNat_natCast]; rfl
  rw [e]
  generalize setP X S (16 : Nat) (1 : Nat) 32 = Q at *
  unfold F.sgnd
  simp only [Int.reduceToNat, Int.reducePow, Nat.reduceSub, Nat.reducePow, Nat.reduceAdd] at h ⊢
  split <;> split <;> omega
end F
namespace I
/-- the number of a word's field -/
theorem join6 (b0 b1 b2 b3 b4 b5 : Int) : F.set (F.set (F.set (F.set (F.set (F.set 0 30 2 (b0 % 4294967296)) 29 1 (b1 % 4294967296)) 24 4 (b2 % 4294967296)) 20 4 (b3 % 4294967296)) 16 4 (b4 % 4294967296)) 0 4 (b5 % 4294967296) =
    b0 % 4 * 1073741824 + b1 % 2 * 536870912 + b2 % 16 * 16777216 + b3 % 16 * 1048576 + b4 % 16 * 65536 + b5 % 16 := by
  rw [F.set_top 0 _ 30 2 1073741824 4 (by omega) (by omega) (by omega) (by omega) (by omega) (by omega) rfl rfl (by omega)]
  rw [F.set_top _ _ 29 1 536870912 2 (by omega) (by omega) (by omega) (by omega) (by omega) (by omega) rfl rfl (by omega)]
  rw [F.set_top _ _ 24 4 16777216 16 (by omega) (by omega) (by omega) (by omega) (by omega) (by omega) rfl rfl (by omega)]
  rw [F.set_top _ _ 20 4 1048576 16 (by omega) (by omega) (by omega) (by omega) (by omega) (by omega) rfl rfl (by omega)]
  rw [F.set_top _ _ 16 4 65536 16 (by omega) (by omega) (by omega) (by omega) (by omega) (by omega) rfl rfl (by omega)]
  rw [F.set_top _ _ 0 4 1 16 (by omega) (by omega) (by omega) (by omega) (by omega) (by omega) rfl rfl (by omega)]
  omega
theorem join7 (b0 b1 b2 b3 b4 b5 b6 : Int) : F.set (F.set (F.set (F.set (F.set (F.set (F.set 0 30 2 (b0 % 4294967296)) 29 1 (b1 % 4294967296)) 28 1 (b2 % 4294967296)) 24 4 (b3 % 4294967296)) 20 4 (b4 % 4294967296)) 16 4 (b5 % 4294967296)) 0 16 (b6 % 4294967296) =
    b0 % 4 * 1073741824 + b1 % 2 * 536870912 + b2 % 2 * 268435456 + b3 % 16 * 16777216 + b4 % 16 * 1048576 + b5 % 16 * 65536 + b6 % 65536 := by
  rw [F.set_top 0 _ 30 2 1073741824 4 (by omega) (by omega) (by omega) (by omega) (by omega) (by omega) rfl rfl (by omega)]
  rw [F.set_top _ _ 29 1 536870912 2 (by omega) (by omega) (by omega) (by omega) (by omega) (by omega) rfl rfl (by omega)]
  rw [F.set_top _ _ 28 1 268435456 2 (by omega) (by omega) (by omega) (by omega) (by omega) (by omega) rfl rfl (by omega)]
  rw [F.set_top _ _ 24 4 16777216 16 (by omega) (by omega) (by omega) (by omega) (by omega) (by omega) rfl rfl (by omega)]
  rw [F.set_top _ _ 20 4 1048576 16 (by omega) (by omega) (by omega) (by omega) (by omega) (by omega) rfl rfl (by omega)]
  rw [F.set_top _ _ 16 4 65536 16 (by omega) (by omega) (by omega) (by omega) (by omega) (by omega) rfl rfl (by omega)]
  rw [F.set_top _ _ 0 16 1 65536 (by omega) (by omega) (by omega) (by omega) (by omega) (by omega) rfl rfl (by omega)]
  omega
theorem join3 (b0 b1 b2 b3 : Int) : F.set (F.set (F.set (F.set 0 30 2 (b0 % 4294967296)) 29 1 (b1 % 4294967296)) 28 1 (b2 % 4294967296)) 24 4 (b3 % 4294967296) =
    b0 % 4 * 1073741824 + b1 % 2 * 536870912 + b2 % 2 * 268435456 + b3 % 16 * 16777216 := by
  rw [F.set_top 0 _ 30 2 1073741824 4 (by omega) (by omega) (by omega) (by omega) (by omega) (by omega) rfl rfl (by omega)]
  rw [F.set_top _ _ 29 1 536870912 2 (by omega) (by omega) (by omega) (by omega) (by omega) (by omega) rfl rfl (by omega)]
  rw [F.set_top _ _ 28 1 268435456 2 (by omega) (by omega) (by omega) (by omega) (by omega) (by omega) rfl rfl (by omega)]
  rw [F.set_top _ _ 24 4 16777216 16 (by omega) (by omega) (by omega) (by omega) (by omega) (by omega) rfl rfl (by omega)]
  omega
theorem join5 (b0 b1 b2 b3 b4 : Int) : F.set (F.set (F.set (F.set (F.set 0 30 2 (b0 % 4294967296)) 28 2 (b1 % 4294967296)) 24 4 (b2 % 4294967296)) 20 4 (b3 % 4294967296)) 0 20 (b4 % 4294967296) =
    b0 % 4 * 1073741824 + b1 % 4 * 268435456 + b2 % 16 * 16777216 + b3 % 16 * 1048576 + b4 % 1048576 := by
  rw [F.set_top 0 _ 30 2 1073741824 4 (by omega) (by omega) (by omega) (by omega) (by omega) (by omega) rfl rfl (by omega)]
  rw [F.set_top _ _ 28 2 268435456 4 (by omega) (by omega) (by omega) (by omega) (by omega) (by omega) rfl rfl (by omega)]
  rw [F.set_top _ _ 24 4 16777216 16 (by omega) (by omega) (by omega) (by omega) (by omega) (by omega) rfl rfl (by omega)]
  rw [F.set_top _ _ 20 4 1048576 16 (by omega) (by omega) (by omega) (by omega) (by omega) (by omega) rfl rfl (by omega)]
  rw [F.set_top _ _ 0 20 1 1048576 (by omega) (by omega) (by omega) (by omega) (by omega) (by omega) rfl rfl (by omega)]
  omega
theorem joinB (b0 b1 b2 b3 : Int) : F.set (F.set (F.set (F.set 0 30 2 (b0 % 4294967296)) 28 1 (b1 % 4294967296)) 24 4 (b2 % 4294967296)) 0 4 (b3 % 4294967296) =
    b0 % 4 * 1073741824 + b1 % 2 * 268435456 + b2 % 16 * 16777216 + b3 % 16 := by
  rw [F.set_top 0 _ 30 2 1073741824 4 (by omega) (by omega) (by omega) (by omega) (by omega) (by omega) rfl rfl (by omega)]
  rw [F.set_top _ _ 28 1 268435456 2 (by omega) (by omega) (by omega) (by omega) (by omega) (by omega) rfl rfl (by omega)]
  rw [F.set_top _ _ 24 4 16777216 16 (by omega) (by omega) (by omega) (by omega) (by omega) (by omega) rfl rfl (by omega)]
  rw [F.set_top _ _ 0 4 1 16 (by omega) (by omega) (by omega) (by omega) (by omega) (by omega) rfl rfl (by omega)]
  omega
theorem joinJ (b0 b1 b2 b3 b4 : Int) : F.set (F.set (F.set (F.set (F.set 0 30 2 (b0 % 4294967296)) 29 1 (b1 % 4294967296)) 28 1 (b2 % 4294967296)) 24 4 (b3 % 4294967296)) 0 24 (b4 % 4294967296) =
    b0 % 4 * 1073741824 + b1 % 2 * 536870912 + b2 % 2 * 268435456 + b3 % 16 * 16777216 + b4 % 16777216 := by
  rw [F.set_top 0 _ 30 2 1073741824 4 (by omega) (by omega) (by omega) (by omega) (by omega) (by omega) rfl rfl (by omega)]
  rw [F.set_top _ _ 29 1 536870912 2 (by omega) (by omega) (by omega) (by omega) (by omega) (by omega) rfl rfl (by omega)]
  rw [F.set_top _ _ 28 1 268435456 2 (by omega) (by omega) (by omega) (by omega) (by omega) (by omega) rfl rfl (by omega)]
  rw [F.set_top _ _ 24 4 16777216 16 (by omega) (by omega) (by omega) (by omega) (by omega) (by omega) rfl rfl (by omega)]
  rw [F.set_top _ _ 0 24 1 16777216 (by omega) (by omega) (by omega) (by omega) (by omega) (by omega) rfl rfl (by omega)]
  omega
end I
end Go.Proofs.Ytliofphhoaopkaa
