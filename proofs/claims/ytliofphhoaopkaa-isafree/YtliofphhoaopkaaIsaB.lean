/-
  The law IsaBits: which words are none.
-/
import Derived.Test.YtliofphhoaopkaaIsaA
namespace Go.Proofs.Ytliofphhoaopkaa
open Go.RowKit
set_option linter.unusedVariables false
set_option linter.unusedSimpArgs false
namespace I
theorem bitOf (Y k : Nat) (b : Bool) (h : Y.testBit k = b) : Y / 2 ^ k % 2 = if b then 1 else 0 := by
  rw [Nat.testBit_eq_decide_div_mod_eq] at h
  subst h
  by_cases h1 : Y / 2 ^ k % 2 = 1
  · rw [h1]; rfl
  · rw [decide_eq_false h1]; simp only [Bool.false_eq_true, reduceIte]; omega
theorem and_hi (W M : Nat) (h : M < 4294967296) : W &&& M < 4294967296 := Nat.lt_of_le_of_lt Nat.and_le_right h
theorem or_hi (A B : Nat) (h : A < 4294967296) (h' : B < 4294967296) : A ||| B < 4294967296 := Nat.or_lt_two_pow (n := 32) h h'
theorem is_not (y : Int) (h : ¬ (May (guess y) ∧ word (guess y) = y)) : is y = false := by
  unfold is may
  by_cases hm : May (guess y)
  · rw [decide_eq_true hm]
    by_cases hw : word (guess y) = y
    · exact absurd ⟨hm, hw⟩ h
    · simpa using hw
  · rw [decide_eq_false hm]; rfl
theorem bits_1 (W X : Nat) : ((W &&& 1341194239 ||| 786432) ||| (X &&& 196608)) / 2147483648 % 2 = 0 ∧ ((W &&& 1341194239 ||| 786432) ||| (X &&& 196608)) / 536870912 % 2 = 0 ∧ ((W &&& 1341194239 ||| 786432) ||| (X &&& 196608)) / 268435456 % 2 = 0 ∧ ((W &&& 1341194239 ||| 786432) ||| (X &&& 196608)) / 524288 % 2 = 1 ∧ ((W &&& 1341194239 ||| 786432) ||| (X &&& 196608)) / 262144 % 2 = 1 := by
  refine ⟨?_, ?_, ?_, ?_, ?_⟩
  · exact bitOf _ 31 false (by simp only [Nat.testBit_or, Nat.testBit_and, show Nat.testBit 1341194239 31 = false from by decide, show Nat.testBit 196608 31 = false from by decide, show Nat.testBit 786432 31 = false from by decide]; simp)
  · exact bitOf _ 29 false (by simp only [Nat.testBit_or, Nat.testBit_and, show Nat.testBit 1341194239 29 = false from by decide, show Nat.testBit 196608 29 = false from by decide, show Nat.testBit 786432 29 = false from by decide]; simp)
  · exact bitOf _ 28 false (by simp only [Nat.testBit_or, Nat.testBit_and, show Nat.testBit 1341194239 28 = false from by decide, show Nat.testBit 196608 28 = false from by decide, show Nat.testBit 786432 28 = false from by decide]; simp)
  · exact bitOf _ 19 true (by simp only [Nat.testBit_or, Nat.testBit_and, show Nat.testBit 1341194239 19 = false from by decide, show Nat.testBit 196608 19 = false from by decide, show Nat.testBit 786432 19 = true from by decide]; simp)
  · exact bitOf _ 18 true (by simp only [Nat.testBit_or, Nat.testBit_and, show Nat.testBit 1341194239 18 = false from by decide, show Nat.testBit 196608 18 = false from by decide, show Nat.testBit 786432 18 = true from by decide]; simp)
theorem bits_2 (W X : Nat) : ((W &&& 268107791) ||| (X &&& 65520 ||| 16)) / 2147483648 % 2 = 0 ∧ ((W &&& 268107791) ||| (X &&& 65520 ||| 16)) / 1073741824 % 2 = 0 ∧ ((W &&& 268107791) ||| (X &&& 65520 ||| 16)) / 536870912 % 2 = 0 ∧ ((W &&& 268107791) ||| (X &&& 65520 ||| 16)) / 268435456 % 2 = 0 ∧ ((W &&& 268107791) ||| (X &&& 65520 ||| 16)) / 16 % 2 = 1 := by
  refine ⟨?_, ?_, ?_, ?_, ?_⟩
  · exact bitOf _ 31 false (by simp only [Nat.testBit_or, Nat.testBit_and, show Nat.testBit 16 31 = false from by decide, show Nat.testBit 268107791 31 = false from by decide, show Nat.testBit 65520 31 = false from by decide]; simp)
  · exact bitOf _ 30 false (by simp only [Nat.testBit_or, Nat.testBit_and, show Nat.testBit 16 30 = false from by decide, show Nat.testBit 268107791 30 = false from by decide, show Nat.testBit 65520 30 = false from by decide]; simp)
  · exact bitOf _ 29 false (by simp only [Nat.testBit_or, Nat.testBit_and, show Nat.testBit 16 29 = false from by decide, show Nat.testBit 268107791 29 = false from by decide, show Nat.testBit 65520 29 = false from by decide]; simp)
  · exact bitOf _ 28 false (by simp only [Nat.testBit_or, Nat.testBit_and, show Nat.testBit 16 28 = false from by decide, show Nat.testBit 268107791 28 = false from by decide, show Nat.testBit 65520 28 = false from by decide]; simp)
  · exact bitOf _ 4 true (by simp only [Nat.testBit_or, Nat.testBit_and, show Nat.testBit 16 4 = true from by decide, show Nat.testBit 268107791 4 = false from by decide, show Nat.testBit 65520 4 = true from by decide]; simp)
theorem bits_3 (W X : Nat) : ((W &&& 520093711 ||| 3221225472) ||| (X &&& 65520 ||| 16)) / 2147483648 % 2 = 1 ∧ ((W &&& 520093711 ||| 3221225472) ||| (X &&& 65520 ||| 16)) / 1073741824 % 2 = 1 ∧ ((W &&& 520093711 ||| 3221225472) ||| (X &&& 65520 ||| 16)) / 536870912 % 2 = 0 ∧ ((W &&& 520093711 ||| 3221225472) ||| (X &&& 65520 ||| 16)) / 16 % 2 = 1 := by
  refine ⟨?_, ?_, ?_, ?_⟩
  · exact bitOf _ 31 true (by simp only [Nat.testBit_or, Nat.testBit_and, show Nat.testBit 16 31 = false from by decide, show Nat.testBit 3221225472 31 = true from by decide, show Nat.testBit 520093711 31 = false from by decide, show Nat.testBit 65520 31 = false from by decide]; simp)
  · exact bitOf _ 30 true (by simp only [Nat.testBit_or, Nat.testBit_and, show Nat.testBit 16 30 = false from by decide, show Nat.testBit 3221225472 30 = true from by decide, show Nat.testBit 520093711 30 = false from by decide, show Nat.testBit 65520 30 = false from by decide]; simp)
  · exact bitOf _ 29 false (by simp only [Nat.testBit_or, Nat.testBit_and, show Nat.testBit 16 29 = false from by decide, show Nat.testBit 3221225472 29 = false from by decide, show Nat.testBit 520093711 29 = false from by decide, show Nat.testBit 65520 29 = false from by decide]; simp)
  · exact bitOf _ 4 true (by simp only [Nat.testBit_or, Nat.testBit_and, show Nat.testBit 16 4 = true from by decide, show Nat.testBit 3221225472 4 = false from by decide, show Nat.testBit 520093711 4 = false from by decide, show Nat.testBit 65520 4 = true from by decide]; simp)
theorem bits_4 (W : Nat) : (W &&& 267386895 ||| 537133056) / 2147483648 % 2 = 0 ∧ (W &&& 267386895 ||| 537133056) / 1073741824 % 2 = 0 ∧ (W &&& 267386895 ||| 537133056) / 536870912 % 2 = 1 ∧ (W &&& 267386895 ||| 537133056) / 268435456 % 2 = 0 ∧ (W &&& 267386895 ||| 537133056) / 524288 % 2 = 0 ∧ (W &&& 267386895 ||| 537133056) / 262144 % 2 = 1 ∧ (W &&& 267386895 ||| 537133056) / 131072 % 2 = 0 ∧ (W &&& 267386895 ||| 537133056) / 65536 % 2 = 0 := by
  refine ⟨?_, ?_, ?_, ?_, ?_, ?_, ?_, ?_⟩
  · exact bitOf _ 31 false (by simp only [Nat.testBit_or, Nat.testBit_and, show Nat.testBit 267386895 31 = false from by decide, show Nat.testBit 537133056 31 = false from by decide]; simp)
  · exact bitOf _ 30 false (by simp only [Nat.testBit_or, Nat.testBit_and, show Nat.testBit 267386895 30 = false from by decide, show Nat.testBit 537133056 30 = false from by decide]; simp)
  · exact bitOf _ 29 true (by simp only [Nat.testBit_or, Nat.testBit_and, show Nat.testBit 267386895 29 = false from by decide, show Nat.testBit 537133056 29 = true from by decide]; simp)
  · exact bitOf _ 28 false (by simp only [Nat.testBit_or, Nat.testBit_and, show Nat.testBit 267386895 28 = false from by decide, show Nat.testBit 537133056 28 = false from by decide]; simp)
  · exact bitOf _ 19 false (by simp only [Nat.testBit_or, Nat.testBit_and, show Nat.testBit 267386895 19 = false from by decide, show Nat.testBit 537133056 19 = false from by decide]; simp)
  · exact bitOf _ 18 true (by simp only [Nat.testBit_or, Nat.testBit_and, show Nat.testBit 267386895 18 = false from by decide, show Nat.testBit 537133056 18 = true from by decide]; simp)
  · exact bitOf _ 17 false (by simp only [Nat.testBit_or, Nat.testBit_and, show Nat.testBit 267386895 17 = false from by decide, show Nat.testBit 537133056 17 = false from by decide]; simp)
  · exact bitOf _ 16 false (by simp only [Nat.testBit_or, Nat.testBit_and, show Nat.testBit 267386895 16 = false from by decide, show Nat.testBit 537133056 16 = false from by decide]; simp)
theorem bits_5 (W : Nat) : (W &&& 251658255 ||| 1048576) / 2147483648 % 2 = 0 ∧ (W &&& 251658255 ||| 1048576) / 1073741824 % 2 = 0 ∧ (W &&& 251658255 ||| 1048576) / 536870912 % 2 = 0 ∧ (W &&& 251658255 ||| 1048576) / 1048576 % 2 = 1 ∧ (W &&& 251658255 ||| 1048576) / 524288 % 2 = 0 ∧ (W &&& 251658255 ||| 1048576) / 262144 % 2 = 0 ∧ (W &&& 251658255 ||| 1048576) / 131072 % 2 = 0 ∧ (W &&& 251658255 ||| 1048576) / 65536 % 2 = 0 := by
  refine ⟨?_, ?_, ?_, ?_, ?_, ?_, ?_, ?_⟩
  · exact bitOf _ 31 false (by simp only [Nat.testBit_or, Nat.testBit_and, show Nat.testBit 1048576 31 = false from by decide, show Nat.testBit 251658255 31 = false from by decide]; simp)
  · exact bitOf _ 30 false (by simp only [Nat.testBit_or, Nat.testBit_and, show Nat.testBit 1048576 30 = false from by decide, show Nat.testBit 251658255 30 = false from by decide]; simp)
  · exact bitOf _ 29 false (by simp only [Nat.testBit_or, Nat.testBit_and, show Nat.testBit 1048576 29 = false from by decide, show Nat.testBit 251658255 29 = false from by decide]; simp)
  · exact bitOf _ 20 true (by simp only [Nat.testBit_or, Nat.testBit_and, show Nat.testBit 1048576 20 = true from by decide, show Nat.testBit 251658255 20 = false from by decide]; simp)
  · exact bitOf _ 19 false (by simp only [Nat.testBit_or, Nat.testBit_and, show Nat.testBit 1048576 19 = false from by decide, show Nat.testBit 251658255 19 = false from by decide]; simp)
  · exact bitOf _ 18 false (by simp only [Nat.testBit_or, Nat.testBit_and, show Nat.testBit 1048576 18 = false from by decide, show Nat.testBit 251658255 18 = false from by decide]; simp)
  · exact bitOf _ 17 false (by simp only [Nat.testBit_or, Nat.testBit_and, show Nat.testBit 1048576 17 = false from by decide, show Nat.testBit 251658255 17 = false from by decide]; simp)
  · exact bitOf _ 16 false (by simp only [Nat.testBit_or, Nat.testBit_and, show Nat.testBit 1048576 16 = false from by decide, show Nat.testBit 251658255 16 = false from by decide]; simp)
theorem bits_6 (W : Nat) : (W &&& 268107791 ||| 268435456) / 2147483648 % 2 = 0 ∧ (W &&& 268107791 ||| 268435456) / 1073741824 % 2 = 0 ∧ (W &&& 268107791 ||| 268435456) / 536870912 % 2 = 0 ∧ (W &&& 268107791 ||| 268435456) / 268435456 % 2 = 1 := by
  refine ⟨?_, ?_, ?_, ?_⟩
  · exact bitOf _ 31 false (by simp only [Nat.testBit_or, Nat.testBit_and, show Nat.testBit 268107791 31 = false from by decide, show Nat.testBit 268435456 31 = false from by decide]; simp)
  · exact bitOf _ 30 false (by simp only [Nat.testBit_or, Nat.testBit_and, show Nat.testBit 268107791 30 = false from by decide, show Nat.testBit 268435456 30 = false from by decide]; simp)
  · exact bitOf _ 29 false (by simp only [Nat.testBit_or, Nat.testBit_and, show Nat.testBit 268107791 29 = false from by decide, show Nat.testBit 268435456 29 = false from by decide]; simp)
  · exact bitOf _ 28 true (by simp only [Nat.testBit_or, Nat.testBit_and, show Nat.testBit 268107791 28 = false from by decide, show Nat.testBit 268435456 28 = true from by decide]; simp)
theorem none_1 (y : Int) (y0 : 0 ≤ y) (y1 : y < 4294967296) (h31 : y / 2147483648 % 2 = 0) (h29 : y / 536870912 % 2 = 0) (h28 : y / 268435456 % 2 = 0) (h19 : y / 524288 % 2 = 1) (h18 : y / 262144 % 2 = 1) : is y = false := by
  refine is_not y (fun ⟨hm, hw⟩ => ?_)
  have hf : y / 1073741824 = 0 ∨ y / 1073741824 = 1 := by omega
  have ho : 12 ≤ y / 65536 % 16 := by omega
  have hu : ¬ (y / 536870912 % 2 = 1) := by omega
  rcases hf with hf | hf
  · rw [show guess y = ⟨1, y / 65536 % 16, y / 16777216 % 16, y / 1048576 % 16, y % 16, 0, decide (y / 536870912 % 2 = 1)⟩ by unfold guess; rw [if_pos hf, if_neg (fun h => hu h.1)]] at hm
    unfold May at hm
    simp only at hm
    omega
  · rw [show guess y = ⟨2, y / 65536 % 16, y / 16777216 % 16, y / 1048576 % 16, 0, if y / 268435456 % 2 = 1 then y % 65536 - 65536 else y % 65536, decide (y / 536870912 % 2 = 1)⟩ by unfold guess; rw [if_neg (by omega), if_pos hf]] at hm
    unfold May at hm
    simp only at hm
    omega
theorem none_2 (y : Int) (y0 : 0 ≤ y) (y1 : y < 4294967296) (h31 : y / 2147483648 % 2 = 0) (h30 : y / 1073741824 % 2 = 0) (h29 : y / 536870912 % 2 = 0) (h28 : y / 268435456 % 2 = 0) (h4 : y / 16 % 2 = 1) : is y = false := by
  refine is_not y (fun ⟨hm, hw⟩ => ?_)
  have hf : y / 1073741824 = 0 := by omega
  have hu : ¬ (y / 536870912 % 2 = 1) := by omega
  rw [show guess y = ⟨1, y / 65536 % 16, y / 16777216 % 16, y / 1048576 % 16, y % 16, 0, decide (y / 536870912 % 2 = 1)⟩ by unfold guess; rw [if_pos hf, if_neg (fun h => hu h.1)]] at hw
  rw [decide_eq_false hu] at hw
  simp only [word, reduceIte, bit_f] at hw
  omega
theorem none_3 (y : Int) (y0 : 0 ≤ y) (y1 : y < 4294967296) (h31 : y / 2147483648 % 2 = 1) (h30 : y / 1073741824 % 2 = 1) (h29 : y / 536870912 % 2 = 0) (h4 : y / 16 % 2 = 1) : is y = false := by
  refine is_not y (fun ⟨hm, hw⟩ => ?_)
  have hf : y / 1073741824 = 3 := by omega
  have hu : ¬ (y / 536870912 % 2 = 1) := by omega
  rw [show guess y = ⟨6, y / 16777216 % 16, 0, 0, y % 16, 0, decide (y / 268435456 % 2 = 1)⟩ by unfold guess; rw [if_neg (by omega), if_neg (by omega), if_neg (by omega), if_neg hu]] at hw
  simp only [word, reduceIte, Int.reduceEq] at hw
  have B0 := bit_lo (decide (y / 268435456 % 2 = 1))
  have B1 := bit_hi (decide (y / 268435456 % 2 = 1))
  omega
theorem none_4 (y : Int) (y0 : 0 ≤ y) (y1 : y < 4294967296) (h31 : y / 2147483648 % 2 = 0) (h30 : y / 1073741824 % 2 = 0) (h29 : y / 536870912 % 2 = 1) (h28 : y / 268435456 % 2 = 0) (h19 : y / 524288 % 2 = 0) (h18 : y / 262144 % 2 = 1) (h17 : y / 131072 % 2 = 0) (h16 : y / 65536 % 2 = 0) : is y = false := by
  refine is_not y (fun ⟨hm, hw⟩ => ?_)
  have hf : y / 1073741824 = 0 := by omega
  have ho : y / 65536 % 16 = 4 := by omega
  rw [show guess y = ⟨1, 4, y / 16777216 % 16, y / 1048576 % 16, y % 16, 0, true⟩ by unfold guess; rw [if_pos hf, if_neg (by omega), ho, decide_eq_true (by omega)]] at hm
  unfold May at hm
  simp at hm
theorem none_5 (y : Int) (y0 : 0 ≤ y) (y1 : y < 4294967296) (h31 : y / 2147483648 % 2 = 0) (h30 : y / 1073741824 % 2 = 0) (h29 : y / 536870912 % 2 = 0) (h20 : y / 1048576 % 2 = 1) (h19 : y / 524288 % 2 = 0) (h18 : y / 262144 % 2 = 0) (h17 : y / 131072 % 2 = 0) (h16 : y / 65536 % 2 = 0) : is y = false := by
  refine is_not y (fun ⟨hm, hw⟩ => ?_)
  have hf : y / 1073741824 = 0 := by omega
  have ho : y / 65536 % 16 = 0 := by omega
  have hu : ¬ (y / 536870912 % 2 = 1) := by omega
  have hb : ¬ (y / 1048576 % 16 = 0) := by omega
  rw [show guess y = ⟨1, 0, y / 16777216 % 16, y / 1048576 % 16, y % 16, 0, false⟩ by unfold guess; rw [if_pos hf, if_neg (fun h => hu h.1), ho, decide_eq_false hu]] at hm
  unfold May at hm
  simp [hb] at hm
theorem none_6 (y : Int) (y0 : 0 ≤ y) (y1 : y < 4294967296) (h31 : y / 2147483648 % 2 = 0) (h30 : y / 1073741824 % 2 = 0) (h29 : y / 536870912 % 2 = 0) (h28 : y / 268435456 % 2 = 1) : is y = false := by
  refine is_not y (fun ⟨hm, hw⟩ => ?_)
  have hf : y / 1073741824 = 0 := by omega
  have hu : ¬ (y / 536870912 % 2 = 1) := by omega
  rw [show guess y = ⟨1, y / 65536 % 16, y / 16777216 % 16, y / 1048576 % 16, y % 16, 0, decide (y / 536870912 % 2 = 1)⟩ by unfold guess; rw [if_pos hf, if_neg (fun h => hu h.1)]] at hw
  rw [decide_eq_false hu] at hw
  simp only [word, reduceIte, bit_f] at hw
  have g : 268435456 ≤ y := by omega
  have a1 : y / 16777216 % 16 ≤ 15 := by omega
  have a2 : y / 1048576 % 16 ≤ 15 := by omega
  have a3 : y / 65536 % 16 ≤ 15 := by omega
  have a4 : y % 16 ≤ 15 := by omega
  generalize y / 16777216 % 16 = A at *
  generalize y / 1048576 % 16 = B at *
  generalize y / 65536 % 16 = C at *
  generalize y % 16 = D at *
  clear h31 h30 h29 h28 hf hu hm
  omega
theorem at_1 (x y : Int) (hx : U32 x) (hy : U32 y) : U32 (bits .or .u32 (bits .or .u32 (bits .and .u32 x 1341194239) 786432) (bits .and .u32 y 196608)) ∧ is (bits .or .u32 (bits .or .u32 (bits .and .u32 x 1341194239) 786432) (bits .and .u32 y 196608)) = false := by
  obtain ⟨W, rfl⟩ := Int.eq_ofNat_of_zero_le hx.1
  obtain ⟨X, rfl⟩ := Int.eq_ofNat_of_zero_le hy.1
  have hW : W < 4294967296 := by have := hx.2; omega
  have hX : X < 4294967296 := by have := hy.2; omega
  have e : bits .or .u32 (bits .or .u32 (bits .and .u32 (W : Int) 1341194239) 786432) (bits .and .u32 (X : Int) 196608) = (((W &&& 1341194239 ||| 786432) ||| (X &&& 196608) : Nat) : Int) := by
    rw [show (1341194239 : Int) = ((1341194239 : Nat) : Int) from rfl, show (786432 : Int) = ((786432 : Nat) : Int) from rfl, show (196608 : Int) = ((196608 : Nat) : Int) from rfl, u32_and_nat _ _ hW (by omega), u32_and_nat _ _ hX (by omega), u32_or_nat _ _ (and_hi _ _ (by omega)) (by omega), u32_or_nat _ _ (or_hi _ _ (and_hi _ _ (by omega)) (by omega)) (and_hi _ _ (by omega))]
  have hb : (W &&& 1341194239 ||| 786432) ||| (X &&& 196608) < 4294967296 := or_hi _ _ (or_hi _ _ (and_hi _ _ (by omega)) (by omega)) (and_hi _ _ (by omega))
  obtain ⟨h31, h29, h28, h19, h18⟩ := bits_1 W X
  rw [e]
  generalize (W &&& 1341194239 ||| 786432) ||| (X &&& 196608) = Y at *
  exact ⟨⟨by omega, by omega⟩, none_1 _ (by omega) (by omega) (by omega) (by omega) (by omega) (by omega) (by omega)⟩
theorem at_2 (x y : Int) (hx : U32 x) (hy : U32 y) : U32 (bits .or .u32 (bits .and .u32 x 268107791) (bits .or .u32 (bits .and .u32 y 65520) 16)) ∧ is (bits .or .u32 (bits .and .u32 x 268107791) (bits .or .u32 (bits .and .u32 y 65520) 16)) = false := by
  obtain ⟨W, rfl⟩ := Int.eq_ofNat_of_zero_le hx.1
  obtain ⟨X, rfl⟩ := Int.eq_ofNat_of_zero_le hy.1
  have hW : W < 4294967296 := by have := hx.2; omega
  have hX : X < 4294967296 := by have := hy.2; omega
  have e : bits .or .u32 (bits .and .u32 (W : Int) 268107791) (bits .or .u32 (bits .and .u32 (X : Int) 65520) 16) = (((W &&& 268107791) ||| (X &&& 65520 ||| 16) : Nat) : Int) := by
    rw [show (268107791 : Int) = ((268107791 : Nat) : Int) from rfl, show (65520 : Int) = ((65520 : Nat) : Int) from rfl, show (16 : Int) = ((16 : Nat) : Int) from rfl, u32_and_nat _ _ hW (by omega), u32_and_nat _ _ hX (by omega), u32_or_nat _ _ (and_hi _ _ (by omega)) (by omega), u32_or_nat _ _ (and_hi _ _ (by omega)) (or_hi _ _ (and_hi _ _ (by omega)) (by omega))]
  have hb : (W &&& 268107791) ||| (X &&& 65520 ||| 16) < 4294967296 := or_hi _ _ (and_hi _ _ (by omega)) (or_hi _ _ (and_hi _ _ (by omega)) (by omega))
  obtain ⟨h31, h30, h29, h28, h4⟩ := bits_2 W X
  rw [e]
  generalize (W &&& 268107791) ||| (X &&& 65520 ||| 16) = Y at *
  exact ⟨⟨by omega, by omega⟩, none_2 _ (by omega) (by omega) (by omega) (by omega) (by omega) (by omega) (by omega)⟩
theorem at_3 (x y : Int) (hx : U32 x) (hy : U32 y) : U32 (bits .or .u32 (bits .or .u32 (bits .and .u32 x 520093711) 3221225472) (bits .or .u32 (bits .and .u32 y 65520) 16)) ∧ is (bits .or .u32 (bits .or .u32 (bits .and .u32 x 520093711) 3221225472) (bits .or .u32 (bits .and .u32 y 65520) 16)) = false := by
  obtain ⟨W, rfl⟩ := Int.eq_ofNat_of_zero_le hx.1
  obtain ⟨X, rfl⟩ := Int.eq_ofNat_of_zero_le hy.1
  have hW : W < 4294967296 := by have := hx.2; omega
  have hX : X < 4294967296 := by have := hy.2; omega
  have e : bits .or .u32 (bits .or .u32 (bits .and .u32 (W : Int) 520093711) 3221225472) (bits .or .u32 (bits .and .u32 (X : Int) 65520) 16) = (((W &&& 520093711 ||| 3221225472) ||| (X &&& 65520 ||| 16) : Nat) : Int) := by
    rw [show (520093711 : Int) = ((520093711 : Nat) : Int) from rfl, show (3221225472 : Int) = ((3221225472 : Nat) : Int) from rfl, show (65520 : Int) = ((65520 : Nat) : Int) from rfl, show (16 : Int) = ((16 : Nat) : Int) from rfl, u32_and_nat _ _ hW (by omega), u32_and_nat _ _ hX (by omega), u32_or_nat _ _ (and_hi _ _ (by omega)) (by omega), u32_or_nat _ _ (and_hi _ _ (by omega)) (by omega), u32_or_nat _ _ (or_hi _ _ (and_hi _ _ (by omega)) (by omega)) (or_hi _ _ (and_hi _ _ (by omega)) (by omega))]
  have hb : (W &&& 520093711 ||| 3221225472) ||| (X &&& 65520 ||| 16) < 4294967296 := or_hi _ _ (or_hi _ _ (and_hi _ _ (by omega)) (by omega)) (or_hi _ _ (and_hi _ _ (by omega)) (by omega))
  obtain ⟨h31, h30, h29, h4⟩ := bits_3 W X
  rw [e]
  generalize (W &&& 520093711 ||| 3221225472) ||| (X &&& 65520 ||| 16) = Y at *
  exact ⟨⟨by omega, by omega⟩, none_3 _ (by omega) (by omega) (by omega) (by omega) (by omega) (by omega)⟩
theorem at_4 (x y : Int) (hx : U32 x) (hy : U32 y) : U32 (bits .or .u32 (bits .and .u32 x 267386895) 537133056) ∧ is (bits .or .u32 (bits .and .u32 x 267386895) 537133056) = false := by
  obtain ⟨W, rfl⟩ := Int.eq_ofNat_of_zero_le hx.1
  obtain ⟨X, rfl⟩ := Int.eq_ofNat_of_zero_le hy.1
  have hW : W < 4294967296 := by have := hx.2; omega
  have hX : X < 4294967296 := by have := hy.2; omega
  have e : bits .or .u32 (bits .and .u32 (W : Int) 267386895) 537133056 = ((W &&& 267386895 ||| 537133056 : Nat) : Int) := by
    rw [show (267386895 : Int) = ((267386895 : Nat) : Int) from rfl, show (537133056 : Int) = ((537133056 : Nat) : Int) from rfl, u32_and_nat _ _ hW (by omega), u32_or_nat _ _ (and_hi _ _ (by omega)) (by omega)]
  have hb : W &&& 267386895 ||| 537133056 < 4294967296 := or_hi _ _ (and_hi _ _ (by omega)) (by omega)
  obtain ⟨h31, h30, h29, h28, h19, h18, h17, h16⟩ := bits_4 W
  rw [e]
  generalize W &&& 267386895 ||| 537133056 = Y at *
  exact ⟨⟨by omega, by omega⟩, none_4 _ (by omega) (by omega) (by omega) (by omega) (by omega) (by omega) (by omega) (by omega) (by omega) (by omega)⟩
theorem at_5 (x y : Int) (hx : U32 x) (hy : U32 y) : U32 (bits .or .u32 (bits .and .u32 x 251658255) 1048576) ∧ is (bits .or .u32 (bits .and .u32 x 251658255) 1048576) = false := by
  obtain ⟨W, rfl⟩ := Int.eq_ofNat_of_zero_le hx.1
  obtain ⟨X, rfl⟩ := Int.eq_ofNat_of_zero_le hy.1
  have hW : W < 4294967296 := by have := hx.2; omega
  have hX : X < 4294967296 := by have := hy.2; omega
  have e : bits .or .u32 (bits .and .u32 (W : Int) 251658255) 1048576 = ((W &&& 251658255 ||| 1048576 : Nat) : Int) := by
    rw [show (251658255 : Int) = ((251658255 : Nat) : Int) from rfl, show (1048576 : Int) = ((1048576 : Nat) : Int) from rfl, u32_and_nat _ _ hW (by omega), u32_or_nat _ _ (and_hi _ _ (by omega)) (by omega)]
  have hb : W &&& 251658255 ||| 1048576 < 4294967296 := or_hi _ _ (and_hi _ _ (by omega)) (by omega)
  obtain ⟨h31, h30, h29, h20, h19, h18, h17, h16⟩ := bits_5 W
  rw [e]
  generalize W &&& 251658255 ||| 1048576 = Y at *
  exact ⟨⟨by omega, by omega⟩, none_5 _ (by omega) (by omega) (by omega) (by omega) (by omega) (by omega) (by omega) (by omega) (by omega) (by omega)⟩
theorem at_6 (x y : Int) (hx : U32 x) (hy : U32 y) : U32 (bits .or .u32 (bits .and .u32 x 268107791) 268435456) ∧ is (bits .or .u32 (bits .and .u32 x 268107791) 268435456) = false := by
  obtain ⟨W, rfl⟩ := Int.eq_ofNat_of_zero_le hx.1
  obtain ⟨X, rfl⟩ := Int.eq_ofNat_of_zero_le hy.1
  have hW : W < 4294967296 := by have := hx.2; omega
  have hX : X < 4294967296 := by have := hy.2; omega
  have e : bits .or .u32 (bits .and .u32 (W : Int) 268107791) 268435456 = ((W &&& 268107791 ||| 268435456 : Nat) : Int) := by
    rw [show (268107791 : Int) = ((268107791 : Nat) : Int) from rfl, show (268435456 : Int) = ((268435456 : Nat) : Int) from rfl, u32_and_nat _ _ hW (by omega), u32_or_nat _ _ (and_hi _ _ (by omega)) (by omega)]
  have hb : W &&& 268107791 ||| 268435456 < 4294967296 := or_hi _ _ (and_hi _ _ (by omega)) (by omega)
  obtain ⟨h31, h30, h29, h28⟩ := bits_6 W
  rw [e]
  generalize W &&& 268107791 ||| 268435456 = Y at *
  exact ⟨⟨by omega, by omega⟩, none_6 _ (by omega) (by omega) (by omega) (by omega) (by omega) (by omega)⟩
end I
set_option maxRecDepth 100000 in
set_option maxHeartbeats 2000000 in
theorem walk_Bits (x y : Int) (hx : U32 x) (hy : U32 y) (w : World) : Calls Try.prog 6 #[.int .u32 x, .int .u32 y] w fun e w' => e = .returned (.bool true) ∧ Below w.heap.size w w' := by
  have q1 := I.at_1 x y hx hy
  obtain ⟨y1, E1⟩ : ∃ r, bits .or .u32 (bits .or .u32 (bits .and .u32 x 1341194239) 786432) (bits .and .u32 y 196608) = r := ⟨_, rfl⟩
  rw [E1] at q1
  have C1 := Lib.hid (dec_not y1 q1.1 q1.2)
  clear q1
  have q2 := I.at_2 x y hx hy
  obtain ⟨y2, E2⟩ : ∃ r, bits .or .u32 (bits .and .u32 x 268107791) (bits .or .u32 (bits .and .u32 y 65520) 16) = r := ⟨_, rfl⟩
  rw [E2] at q2
  have C2 := Lib.hid (dec_not y2 q2.1 q2.2)
  clear q2
  have q3 := I.at_3 x y hx hy
  obtain ⟨y3, E3⟩ : ∃ r, bits .or .u32 (bits .or .u32 (bits .and .u32 x 520093711) 3221225472) (bits .or .u32 (bits .and .u32 y 65520) 16) = r := ⟨_, rfl⟩
  rw [E3] at q3
  have C3 := Lib.hid (dec_not y3 q3.1 q3.2)
  clear q3
  have q4 := I.at_4 x y hx hy
  obtain ⟨y4, E4⟩ : ∃ r, bits .or .u32 (bits .and .u32 x 267386895) 537133056 = r := ⟨_, rfl⟩
  rw [E4] at q4
  have C4 := Lib.hid (dec_not y4 q4.1 q4.2)
  clear q4
  have q5 := I.at_5 x y hx hy
  obtain ⟨y5, E5⟩ : ∃ r, bits .or .u32 (bits .and .u32 x 251658255) 1048576 = r := ⟨_, rfl⟩
  rw [E5] at q5
  have C5 := Lib.hid (dec_not y5 q5.1 q5.2)
  clear q5
  have q6 := I.at_6 x y hx hy
  obtain ⟨y6, E6⟩ : ∃ r, bits .or .u32 (bits .and .u32 x 268107791) 268435456 = r := ⟨_, rfl⟩
  rw [E6] at q6
  have C6 := Lib.hid (dec_not y6 q6.1 q6.2)
  clear q6
  go_enter Try.func6, Try.ntmps6
  go_wp2_with fail
  refine (shown_any _).mono ?_; rintro e w0 ⟨rfl, hK0⟩
  go_wp2_with fail
  refine (C1.out _).mono ?_; rintro e w1 ⟨rfl, hK1⟩
  go_wp2_with fail
  refine (C2.out _).mono ?_; rintro e w2 ⟨rfl, hK2⟩
  go_wp2_with fail
  refine (C3.out _).mono ?_; rintro e w3 ⟨rfl, hK3⟩
  go_wp2_with fail
  refine (C4.out _).mono ?_; rintro e w4 ⟨rfl, hK4⟩
  go_wp2_with fail
  refine (C5.out _).mono ?_; rintro e w5 ⟨rfl, hK5⟩
  go_wp2_with fail
  refine (C6.out _).mono ?_; rintro e w6 ⟨rfl, hK6⟩
  have HK := Lib.hid ((((((((((((hK0.trans hK1).alloc _ _).trans hK2).alloc _ _).trans hK3).alloc _ _).trans hK4).alloc _ _).trans hK5).alloc _ _).trans hK6).alloc #[.int .i64 0, .int .i64 0, .int .i64 0, .int .i64 0, .int .i64 0, .int .i64 0, .bool false] 23)
  clear hK0 hK1 hK2 hK3 hK4 hK5 hK6
  go_wp2_with fail
  go_ret
  exact yesB rfl HK.out
end Go.Proofs.Ytliofphhoaopkaa
