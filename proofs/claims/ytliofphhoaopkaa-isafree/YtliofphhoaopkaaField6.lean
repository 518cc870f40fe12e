/-
  The facts on fields, in the words of the walks of FieldBack, FieldParts and FieldShifts; no Go text is named here.
-/
import Derived.Test.YtliofphhoaopkaaField5
namespace Go.Proofs.Ytliofphhoaopkaa.F
open Go.RowKit
set_option linter.unusedVariables false
set_option linter.unusedSimpArgs false
theorem pow_le32 (K : Nat) (h : K ≤ 32) : 2 ^ K ≤ 4294967296 := Nat.pow_le_pow_right (n := 2) (by decide) h
theorem pow_ge1 (K : Nat) : 1 ≤ 2 ^ K := Nat.one_le_two_pow
theorem cast_pow (K : Nat) : ((2 ^ K : Nat) : Int) = 2 ^ K := by rw [Int.natCast_pow]; rfl
theorem mask_int (K : Nat) (h : K ≤ 32) : ((2 : Int) ^ K % 4294967296 - 1) % 4294967296 = ((2 ^ K - 1 : Nat) : Int) := by
  have h1 := pow_le32 K h
  have h2 := pow_ge1 K
  rw [← cast_pow]
  generalize 2 ^ K = Q at *
  omega
theorem mask_wrap (A K : Nat) (h : A + K ≤ 32) : IntKind.u32.wrap (((2 ^ K - 1 : Nat) : Int) * 2 ^ A) = (((2 ^ K - 1) * 2 ^ A : Nat) : Int) := by
  have h1 := mask_lt A K h
  rw [IntKind.wrap_u32', ← cast_pow, ← Int.natCast_mul]
  generalize (2 ^ K - 1) * 2 ^ A = Q at *
  omega
theorem t1 (x y a k M : Int) (h0 : 0 ≤ x) (h1 : x < 4294967296) (h2 : 0 ≤ y) (h3 : y < 4294967296) (a0 : 0 ≤ a) (k0 : 0 ≤ k) (k1 : k ≤ 32 - a) (hM : (2 ^ k.toNat % 4294967296 - 1) % 4294967296 = M) :
    get (set x a k y) a k = bits .and .u32 y M := by
  obtain ⟨X, rfl⟩ := Int.eq_ofNat_of_zero_le h0
  obtain ⟨Y, rfl⟩ := Int.eq_ofNat_of_zero_le h2
  obtain ⟨A, rfl⟩ := Int.eq_ofNat_of_zero_le a0
  obtain ⟨K, rfl⟩ := Int.eq_ofNat_of_zero_le k0
  rw [Int.toNat_natCast, mask_int K (by omega)] at hM
  have l := pow_le32 K (by omega)
  subst hM
  rw [u32_and_nat _ _ (by omega) (by omega), Nat.and_two_pow_sub_one_eq_mod]
  unfold get set
  rw [Int.toNat_natCast, Int.toNat_natCast, Int.toNat_natCast, back1 X Y A K (by omega) (by omega)]
theorem t2 (x y a k M : Int) (h0 : 0 ≤ x) (h1 : x < 4294967296) (h2 : 0 ≤ y) (h3 : y < 4294967296) (a0 : 0 ≤ a) (k0 : 0 ≤ k) (k1 : k ≤ 32 - a) (hM : (2 ^ k.toNat % 4294967296 - 1) % 4294967296 = M) :
    bits .andNot .u32 (set x a k y) (IntKind.u32.wrap (M * 2 ^ a.toNat)) = bits .andNot .u32 x (IntKind.u32.wrap (M * 2 ^ a.toNat)) := by
  obtain ⟨X, rfl⟩ := Int.eq_ofNat_of_zero_le h0
  obtain ⟨Y, rfl⟩ := Int.eq_ofNat_of_zero_le h2
  obtain ⟨A, rfl⟩ := Int.eq_ofNat_of_zero_le a0
  obtain ⟨K, rfl⟩ := Int.eq_ofNat_of_zero_le k0
  rw [Int.toNat_natCast, mask_int K (by omega)] at hM
  subst hM
  have l := mask_lt A K (by omega)
  rw [Int.toNat_natCast, mask_wrap A K (by omega)]
  unfold set
  rw [u32_andNot_nat _ _ (setP_lt _ _ _ _ _) l, u32_andNot_nat _ _ (by omega) l, Int.toNat_natCast, Int.toNat_natCast, back2 X Y A K _ (by omega) (by omega) rfl]
theorem t3 (x a k : Int) (h0 : 0 ≤ x) (h1 : x < 4294967296) (a0 : 0 ≤ a) (k0 : 0 ≤ k) : set x a k (get x a k) = x := by
  obtain ⟨X, rfl⟩ := Int.eq_ofNat_of_zero_le h0
  obtain ⟨A, rfl⟩ := Int.eq_ofNat_of_zero_le a0
  obtain ⟨K, rfl⟩ := Int.eq_ofNat_of_zero_le k0
  unfold get set
  rw [Int.toNat_natCast, Int.toNat_natCast, back3 X A K (by omega)]
theorem t4 (x y a k : Int) (h0 : 0 ≤ x) (h1 : x < 4294967296) (a0 : 0 ≤ a) (k0 : 0 ≤ k) : get (set x a k y) 0 a = get x 0 a := by
  obtain ⟨X, rfl⟩ := Int.eq_ofNat_of_zero_le h0
  obtain ⟨A, rfl⟩ := Int.eq_ofNat_of_zero_le a0
  obtain ⟨K, rfl⟩ := Int.eq_ofNat_of_zero_le k0
  unfold get set
  rw [Int.toNat_natCast, Int.toNat_natCast]
  exact congrArg Int.ofNat (back4 X y.toNat A K (by omega))
/-! FieldParts -/
theorem p1 (x i m n : Int) (h0 : 0 ≤ x) (h1 : x < 4294967296) (i0 : 0 ≤ i) (m0 : 0 ≤ m) (n0 : 0 ≤ n) : get x (i + m) n * 2 ^ m.toNat + get x i m = get x i (m + n) := by
  obtain ⟨X, rfl⟩ := Int.eq_ofNat_of_zero_le h0
  obtain ⟨A, rfl⟩ := Int.eq_ofNat_of_zero_le i0
  obtain ⟨K, rfl⟩ := Int.eq_ofNat_of_zero_le m0
  obtain ⟨L, rfl⟩ := Int.eq_ofNat_of_zero_le n0
  unfold get
  rw [Int.toNat_natCast, Int.toNat_natCast, ← cast_pow, ← Int.natCast_mul, ← Int.natCast_add, ← Int.natCast_add, ← Int.natCast_add, cut_two X A K L (by omega)]
theorem p2 (x y z i m n : Int) (h0 : 0 ≤ x) (h1 : x < 4294967296) (i0 : 0 ≤ i) (m0 : 0 ≤ m) (n0 : 0 ≤ n) : set (set x i m y) (i + m) n z = set (set x (i + m) n z) i m y := by
  obtain ⟨X, rfl⟩ := Int.eq_ofNat_of_zero_le h0
  obtain ⟨A, rfl⟩ := Int.eq_ofNat_of_zero_le i0
  obtain ⟨K, rfl⟩ := Int.eq_ofNat_of_zero_le m0
  obtain ⟨L, rfl⟩ := Int.eq_ofNat_of_zero_le n0
  unfold set
  rw [Int.toNat_natCast, Int.toNat_natCast, Int.toNat_natCast, ← Int.natCast_add, two_fields X y.toNat z.toNat A K L (by omega)]
theorem p3 (x y z i m n : Int) (h0 : 0 ≤ x) (h1 : x < 4294967296) (h2 : 0 ≤ y) (h3 : y < 4294967296) (i0 : 0 ≤ i) (m0 : 0 ≤ m) (n0 : 0 ≤ n) (h : i + m + n ≤ 32) : get (set (set x i m y) (i + m) n z) i m = get y 0 m := by
  obtain ⟨X, rfl⟩ := Int.eq_ofNat_of_zero_le h0
  obtain ⟨Y, rfl⟩ := Int.eq_ofNat_of_zero_le h2
  obtain ⟨A, rfl⟩ := Int.eq_ofNat_of_zero_le i0
  obtain ⟨K, rfl⟩ := Int.eq_ofNat_of_zero_le m0
  obtain ⟨L, rfl⟩ := Int.eq_ofNat_of_zero_le n0
  unfold get set
  simp only [Int.toNat_natCast]
  rw [← Int.natCast_add, two_low X Y z.toNat A K L (by omega) (by omega)]
  have e := get_nat Y 0 K (by omega)
  rw [Nat.pow_zero, Nat.div_one] at e
  exact congrArg Int.ofNat e.symm
theorem p4 (x y z i m n : Int) (h0 : 0 ≤ x) (h1 : x < 4294967296) (h2 : 0 ≤ z) (h3 : z < 4294967296) (i0 : 0 ≤ i) (m0 : 0 ≤ m) (n0 : 0 ≤ n) (h : i + m + n ≤ 32) : get (set (set x i m y) (i + m) n z) (i + m) n = get z 0 n := by
  obtain ⟨X, rfl⟩ := Int.eq_ofNat_of_zero_le h0
  obtain ⟨Z, rfl⟩ := Int.eq_ofNat_of_zero_le h2
  obtain ⟨A, rfl⟩ := Int.eq_ofNat_of_zero_le i0
  obtain ⟨K, rfl⟩ := Int.eq_ofNat_of_zero_le m0
  obtain ⟨L, rfl⟩ := Int.eq_ofNat_of_zero_le n0
  unfold get set
  simp only [Int.toNat_natCast]
  rw [← Int.natCast_add, two_high X y.toNat Z A K L (by omega) (by omega)]
  have e := get_nat Z 0 L (by omega)
  rw [Nat.pow_zero, Nat.div_one] at e
  exact congrArg Int.ofNat e.symm
/-! FieldShifts -/
theorem get_div (x i n : Int) (h0 : 0 ≤ x) (h1 : x < 4294967296) (i0 : 0 ≤ i) (n0 : 0 ≤ n) : get x i n = x / 2 ^ i.toNat % 2 ^ n.toNat := by
  obtain ⟨X, rfl⟩ := Int.eq_ofNat_of_zero_le h0
  obtain ⟨A, rfl⟩ := Int.eq_ofNat_of_zero_le i0
  obtain ⟨K, rfl⟩ := Int.eq_ofNat_of_zero_le n0
  unfold get
  rw [Int.toNat_natCast, Int.toNat_natCast, Int.toNat_natCast, get_nat X A K (by omega), Int.natCast_emod, Int.natCast_ediv, cast_pow, cast_pow]
theorem f2 (x : Int) (h0 : 0 ≤ x) (h1 : x < 4294967296) : get x 0 32 = x := by
  obtain ⟨X, rfl⟩ := Int.eq_ofNat_of_zero_le h0
  unfold get; rw [Int.toNat_natCast]; exact congrArg Int.ofNat (whole_get X (by omega))
theorem f3 (x y : Int) (h0 : 0 ≤ x) (h1 : x < 4294967296) (h2 : 0 ≤ y) (h3 : y < 4294967296) : set x 0 32 y = y := by
  obtain ⟨X, rfl⟩ := Int.eq_ofNat_of_zero_le h0
  obtain ⟨Y, rfl⟩ := Int.eq_ofNat_of_zero_le h2
  unfold set; rw [Int.toNat_natCast, Int.toNat_natCast]; exact congrArg Int.ofNat (whole_set X Y (by omega) (by omega))
theorem f4 (x i : Int) (h0 : 0 ≤ x) (h1 : x < 4294967296) (i0 : 0 ≤ i) : get x i 0 = 0 := by
  obtain ⟨X, rfl⟩ := Int.eq_ofNat_of_zero_le h0
  obtain ⟨A, rfl⟩ := Int.eq_ofNat_of_zero_le i0
  unfold get; rw [Int.toNat_natCast]; exact congrArg Int.ofNat (none_get X A (by omega))
theorem f5 (x i y : Int) (h0 : 0 ≤ x) (h1 : x < 4294967296) (i0 : 0 ≤ i) : set x i 0 y = x := by
  obtain ⟨X, rfl⟩ := Int.eq_ofNat_of_zero_le h0
  obtain ⟨A, rfl⟩ := Int.eq_ofNat_of_zero_le i0
  unfold set; rw [Int.toNat_natCast]; exact congrArg Int.ofNat (none_set X y.toNat A (by omega))
theorem f6 (x n : Int) (h0 : 0 ≤ x) (h1 : x < 4294967296) (n0 : 0 ≤ n) : get x 32 n = 0 := by
  obtain ⟨X, rfl⟩ := Int.eq_ofNat_of_zero_le h0
  obtain ⟨K, rfl⟩ := Int.eq_ofNat_of_zero_le n0
  unfold get; rw [Int.toNat_natCast]; exact congrArg Int.ofNat (past_get X K (by omega))
theorem f7 (x n y : Int) (h0 : 0 ≤ x) (h1 : x < 4294967296) : set x (-n) n y = x := by
  obtain ⟨X, rfl⟩ := Int.eq_ofNat_of_zero_le h0
  unfold set; rw [Int.toNat_natCast]; exact congrArg Int.ofNat (ahead_set X y.toNat n (by omega))
theorem f1 (x i n : Int) (h0 : 0 ≤ x) (h1 : x < 4294967296) (i0 : 0 ≤ i) (n0 : 0 ≤ n) (n1 : n ≤ 32) :
    bits .and .u64 (x / 2 ^ i.toNat) (IntKind.u64.wrap (IntKind.u64.wrap (2 ^ n.toNat) - 1)) % 4294967296 = get x i n := by
  rw [get_div x i n h0 h1 i0 n0]
  obtain ⟨X, rfl⟩ := Int.eq_ofNat_of_zero_le h0
  obtain ⟨A, rfl⟩ := Int.eq_ofNat_of_zero_le i0
  obtain ⟨K, rfl⟩ := Int.eq_ofNat_of_zero_le n0
  simp only [Int.toNat_natCast]
  have l1 := pow_le32 K (by omega)
  have l2 := pow_ge1 K
  have e1 : IntKind.u64.wrap (IntKind.u64.wrap (2 ^ K) - 1) = ((2 ^ K - 1 : Nat) : Int) := by
    rw [IntKind.wrap_u64, IntKind.wrap_u64, ← cast_pow]
    generalize 2 ^ K = Q at *
    omega
  have e2 : (X : Int) / 2 ^ A = ((X / 2 ^ A : Nat) : Int) := by rw [Int.natCast_ediv, cast_pow]
  have l3 : X / 2 ^ A ≤ X := Nat.div_le_self _ _
  rw [e1, e2, u64_and_nat _ _ (by omega) (by omega), Nat.and_two_pow_sub_one_eq_mod, ← cast_pow K, ← Int.natCast_emod]
  have l4 := Nat.mod_le (X / 2 ^ A) (2 ^ K)
  generalize X / 2 ^ A % 2 ^ K = Q at *
  omega
end Go.Proofs.Ytliofphhoaopkaa.F
