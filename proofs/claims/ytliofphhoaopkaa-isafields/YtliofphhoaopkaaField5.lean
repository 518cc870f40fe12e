/-
  Plain facts on fields that lie within a word: what was set is got; no Go text is named here.
-/
import Derived.Test.YtliofphhoaopkaaField0
namespace Go.Proofs.Ytliofphhoaopkaa.F
open Go.RowKit
set_option linter.unusedVariables false
set_option linter.unusedSimpArgs false

theorem gbit (x A K j : Nat) (hx : x < 4294967296) : (getP x A K 32).testBit j = (decide (j < K) && x.testBit (j + A)) := by
  rw [getP_bit]
  have e : ((j : Int) + A).toNat = j + A := by omega
  have e1 : decide ((j : Int) < (K : Int)) = decide (j < K) := by rw [decide_eq_decide]; omega
  rw [e, e1, decide_eq_true (show (0 : Int) ≤ (j : Int) + A by omega)]
  by_cases h : j + A < 32
  · rw [decide_eq_true (show j < 32 by omega), decide_eq_true (show (j : Int) + A < 32 by omega)]; simp
  · rw [big_bit x (j + A) hx (by omega)]; simp
theorem sbit (w x A K j : Nat) (hw : w < 4294967296) : (setP w x A K 32).testBit j = if A ≤ j ∧ j < A + K ∧ j < 32 then x.testBit (j - A) else w.testBit j := by
  rw [setP_bit]
  have e : ((j : Int) - A).toNat = j - A := by omega
  rw [e]
  by_cases h : j < 32
  · rw [decide_eq_true h, Bool.true_and]
    have c : ((A : Int) ≤ j ∧ (j : Int) - A < K ∧ (j : Int) < 32) ↔ (A ≤ j ∧ j < A + K ∧ j < 32) := by omega
    simp only [c]
  · rw [decide_eq_false h, if_neg (show ¬ (A ≤ j ∧ j < A + K ∧ j < 32) by omega), big_bit w j hw (by omega)]; rfl
theorem get_nat (x A K : Nat) (hx : x < 4294967296) : getP x A K 32 = x / 2 ^ A % 2 ^ K := by
  apply Nat.eq_of_testBit_eq
  intro j
  rw [gbit x A K j hx, Nat.testBit_mod_two_pow, Nat.testBit_div_two_pow]
theorem ext32 {x y : Nat} (h : ∀ j, x.testBit j = y.testBit j) : x = y := Nat.eq_of_testBit_eq h
theorem back1 (x y A K : Nat) (hx : x < 4294967296) (hk : A + K ≤ 32) : getP (setP x y A K 32) A K 32 = y % 2 ^ K := by
  apply ext32; intro j
  rw [gbit _ A K j (setP_lt _ _ _ _ _), sbit x y A K _ hx, Nat.testBit_mod_two_pow]
  by_cases h : j < K
  · rw [if_pos (by omega), Nat.add_sub_cancel]
  · rw [decide_eq_false h]; rfl
theorem back3 (x A K : Nat) (hx : x < 4294967296) : setP x (getP x A K 32) A K 32 = x := by
  apply ext32; intro j
  rw [sbit _ _ A K j hx]
  split
  · rename_i h
    rw [gbit x A K _ hx, decide_eq_true (show j - A < K by omega), Bool.true_and, Nat.sub_add_cancel h.1]
  · rfl
theorem back4 (x y A K : Nat) (hx : x < 4294967296) : getP (setP x y A K 32) (0 : Nat) A 32 = getP x (0 : Nat) A 32 := by
  apply ext32; intro j
  rw [gbit _ 0 A j (setP_lt _ _ _ _ _), gbit _ 0 A j hx, sbit _ _ A K _ hx]
  by_cases h : j < A
  · rw [if_neg (by omega)]
  · rw [decide_eq_false h]; rfl
theorem mask_bit (A K j : Nat) : ((2 ^ K - 1) * 2 ^ A).testBit j = (decide (A ≤ j) && decide (j < A + K)) := by
  rw [Nat.testBit_mul_two_pow, Nat.testBit_two_pow_sub_one]
  by_cases h : A ≤ j
  · rw [decide_eq_true h]
    congr 1
    rw [decide_eq_decide]; omega
  · simp [h]
theorem mask_lt (A K : Nat) (h : A + K ≤ 32) : (2 ^ K - 1) * 2 ^ A < 4294967296 := by
  apply Nat.lt_pow_two_of_testBit (n := 32)
  intro j hj
  rw [mask_bit, decide_eq_false (show ¬ j < A + K by omega), Bool.and_false]
theorem back2 (x y A K m : Nat) (hx : x < 4294967296) (hk : A + K ≤ 32) (hm : m = (2 ^ K - 1) * 2 ^ A) : (setP x y A K 32) &&& (4294967295 - m) = x &&& (4294967295 - m) := by
  subst hm
  apply ext32; intro j
  rw [Nat.testBit_and, Nat.testBit_and, not_bit _ _ (mask_lt A K hk), mask_bit, sbit x y A K j hx]
  split
  · rename_i h
    rw [decide_eq_true h.1, decide_eq_true h.2.1]; simp
  · rfl
theorem two_fields (x y z A K L : Nat) (hx : x < 4294967296) : setP (setP x y A K 32) z ((A + K : Nat) : Int) L 32 = setP (setP x z ((A + K : Nat) : Int) L 32) y A K 32 := by
  apply ext32; intro j
  rw [sbit _ z (A + K) L j (setP_lt _ _ _ _ _), sbit x y A K j hx, sbit _ y A K j (setP_lt _ _ _ _ _), sbit x z (A + K) L j hx]
  by_cases h : A ≤ j ∧ j < A + K ∧ j < 32
  · rw [if_neg (by omega), if_pos h, if_pos h]
  · rw [if_neg h, if_neg h]
theorem two_low (x y z A K L : Nat) (hx : x < 4294967296) (hk : A + K ≤ 32) : getP (setP (setP x y A K 32) z ((A + K : Nat) : Int) L 32) A K 32 = y % 2 ^ K := by
  rw [two_fields x y z A K L hx]; exact back1 _ y A K (setP_lt _ _ _ _ _) hk
theorem two_high (x y z A K L : Nat) (hx : x < 4294967296) (hk : A + K + L ≤ 32) : getP (setP (setP x y A K 32) z ((A + K : Nat) : Int) L 32) ((A + K : Nat) : Int) L 32 = z % 2 ^ L :=
  back1 _ z (A + K) L (setP_lt _ _ _ _ _) hk
theorem cut_two (x A K L : Nat) (hx : x < 4294967296) : getP x ((A + K : Nat) : Int) L 32 * 2 ^ K + getP x A K 32 = getP x A ((K + L : Nat) : Int) 32 := by
  rw [get_nat x (A + K) L hx, get_nat x A K hx, get_nat x A (K + L) hx, Nat.pow_add, ← Nat.div_div_eq_div_mul, Nat.pow_add, Nat.mod_mul, Nat.mul_comm, Nat.add_comm]
theorem whole_get (x : Nat) (hx : x < 4294967296) : getP x (0 : Nat) (32 : Nat) 32 = x := by
  rw [get_nat x 0 32 hx]; simp; exact hx
theorem whole_set (x y : Nat) (hx : x < 4294967296) (hy : y < 4294967296) : setP x y (0 : Nat) (32 : Nat) 32 = y := by
  apply ext32; intro j
  rw [sbit _ _ 0 32 j hx]
  split
  · rfl
  · rw [big_bit x j hx (by omega), big_bit y j hy (by omega)]
theorem none_get (x : Nat) (A : Nat) (hx : x < 4294967296) : getP x A (0 : Nat) 32 = 0 := by rw [get_nat x A 0 hx]; simp [Nat.mod_one]
theorem none_set (x y A : Nat) (hx : x < 4294967296) : setP x y A (0 : Nat) 32 = x := by
  apply ext32; intro j
  rw [sbit _ _ A 0 j hx, if_neg (by omega)]
theorem past_get (x K : Nat) (hx : x < 4294967296) : getP x (32 : Nat) K 32 = 0 := by
  rw [get_nat x 32 K hx, Nat.div_eq_of_lt hx]; simp
theorem ahead_set (x y : Nat) (n : Int) (hx : x < 4294967296) : setP x y (-n) n 32 = x := by
  apply ext32; intro j
  rw [setP_bit, if_neg (by omega)]
  by_cases h : j < 32
  · rw [decide_eq_true h]; rfl
  · rw [decide_eq_false h, big_bit x j hx (by omega)]; rfl
end Go.Proofs.Ytliofphhoaopkaa.F
