/-
  Plain facts on parts of words, bit by bit, for the walks of package field: no Go text is named here.
-/
import Derived.RowKit
import Derived.IntWalk
import Derived.Laws.BitsAllLaws
namespace Go.Proofs.YtkkoihhkfophnaaDoor.F
open Go.RowKit
set_option linter.unusedVariables false
set_option linter.unusedSimpArgs false
set_option maxRecDepth 100000

/-- the number whose k lowest bits are f's -/
def ofB (f : Nat → Bool) : Nat → Nat
  | 0 => 0
  | k + 1 => ofB f k ||| (if f k then 2 ^ k else 0)
theorem testBit_ofB (f : Nat → Bool) (k i : Nat) : (ofB f k).testBit i = (decide (i < k) && f i) := by
  induction k with
  | zero => simp [ofB]
  | succ k ih =>
    rw [ofB, Nat.testBit_or, ih]
    by_cases h : i = k
    · subst h; cases hf : f i <;> simp [Nat.testBit_two_pow]
    · have e : decide (i < k + 1) = decide (i < k) := by rw [decide_eq_decide]; omega
      rw [e]
      split
      · rw [Nat.testBit_two_pow, decide_eq_false (show ¬ k = i by omega)]; simp
      · simp
theorem ofB_lt (f : Nat → Bool) (k : Nat) : ofB f k < 2 ^ k := by
  apply Nat.lt_pow_two_of_testBit; intro i hi; rw [testBit_ofB, decide_eq_false (by omega)]; rfl
theorem big_bit (x i : Nat) (hx : x < 4294967296) (hi : 32 ≤ i) : x.testBit i = false :=
  Nat.testBit_lt_two_pow (Nat.lt_of_lt_of_le hx (by have := Nat.pow_le_pow_right (n := 2) (by decide) hi; omega))

/-- what is got of x, up to the bit i -/
def getP (x : Nat) (a n i : Int) : Nat :=
  ofB (fun j => decide ((j : Int) < n) && decide (0 ≤ (j : Int) + a) && decide ((j : Int) + a < i) && x.testBit ((j : Int) + a).toNat) 32
/-- w with the field set to x, up to the bit i -/
def setP (w x : Nat) (a n i : Int) : Nat :=
  ofB (fun j => if a ≤ (j : Int) ∧ (j : Int) - a < n ∧ (j : Int) < i then x.testBit ((j : Int) - a).toNat else w.testBit j) 32
theorem getP_bit (x : Nat) (a n i : Int) (k : Nat) : (getP x a n i).testBit k =
    (decide (k < 32) && (decide ((k : Int) < n) && decide (0 ≤ (k : Int) + a) && decide ((k : Int) + a < i) && x.testBit ((k : Int) + a).toNat)) := testBit_ofB _ _ _
theorem setP_bit (w x : Nat) (a n i : Int) (k : Nat) : (setP w x a n i).testBit k =
    (decide (k < 32) && (if a ≤ (k : Int) ∧ (k : Int) - a < n ∧ (k : Int) < i then x.testBit ((k : Int) - a).toNat else w.testBit k)) := testBit_ofB _ _ _
theorem getP_lt (x : Nat) (a n i : Int) : getP x a n i < 4294967296 := ofB_lt _ 32
theorem setP_lt (w x : Nat) (a n i : Int) : setP w x a n i < 4294967296 := ofB_lt _ 32

/-- the bit, as a number -/
theorem bit_one (x i : Nat) (hx : x < 4294967296) : bits .and .u32 ((x : Int) / 2 ^ i) 1 = ((if x.testBit i then 1 else 0 : Nat) : Int) := by
  have e : ((x : Int) / 2 ^ i) = ((x / 2 ^ i : Nat) : Int) := by rw [Int.natCast_ediv, Int.natCast_pow]; rfl
  have hlt : x / 2 ^ i < 4294967296 := Nat.lt_of_le_of_lt (Nat.div_le_self _ _) hx
  have h := u32_and_nat (x / 2 ^ i) 1 hlt (by decide)
  rw [e]
  refine Eq.trans h ?_
  rw [Nat.and_one_is_mod, Nat.testBit_eq_decide_div_mod_eq]
  congr 1
  by_cases hb : x / 2 ^ i % 2 = 1
  · rw [hb]; simp
  · have : x / 2 ^ i % 2 = 0 := by omega
    rw [this]; simp
theorem bit_shl (b : Bool) (m : Nat) : (((if b then 1 else 0 : Nat) : Int) * 2 ^ m % 4294967296) = ((if b then 2 ^ m % 4294967296 else 0 : Nat) : Int) := by
  cases b
  · simp
  · simp only [if_true, Int.natCast_emod, Int.natCast_pow]; simp
theorem pow_bit (m k : Nat) : (2 ^ m % 4294967296 : Nat).testBit k = (decide (k = m) && decide (k < 32)) := by
  have e : (4294967296 : Nat) = 2 ^ 32 := rfl
  rw [e, Nat.testBit_mod_two_pow, Nat.testBit_two_pow, Bool.and_comm]
  congr 1
  rw [decide_eq_decide]; omega
theorem pow_lt (m : Nat) : (2 ^ m % 4294967296 : Nat) < 4294967296 := Nat.mod_lt _ (by decide)
theorem if_lt (b : Bool) (m : Nat) (h : m < 4294967296) : (if b then m else 0) < 4294967296 := by cases b <;> simp <;> omega

/-- what Get's round leaves -/
def gval (p x i pl : Int) : Int := bits .or .u32 p (bits .and .u32 (x / 2 ^ i.toNat) 1 * 2 ^ min pl.toNat 32 % 4294967296)
/-- what Set's round leaves -/
def sval (p x i pl : Int) : Int := bits .or .u32 (bits .andNot .u32 p (2 ^ i.toNat % 4294967296)) (bits .and .u32 (x / 2 ^ min pl.toNat 32) 1 * 2 ^ i.toNat % 4294967296)

theorem gval_nat (p x i pl : Nat) (hp : p < 4294967296) (hx : x < 4294967296) :
    gval p x i pl = ((p ||| (if x.testBit i then 2 ^ min pl 32 % 4294967296 else 0) : Nat) : Int) := by
  unfold gval
  rw [Int.toNat_natCast, Int.toNat_natCast, bit_one x i hx, bit_shl]
  exact u32_or_nat _ _ hp (if_lt _ _ (pow_lt _))
theorem sval_nat (p x i pl : Nat) (hp : p < 4294967296) (hx : x < 4294967296) (hi : i < 32) :
    sval p x i pl = (((p &&& (4294967295 - 2 ^ i % 4294967296)) ||| (if x.testBit (min pl 32) then 2 ^ i % 4294967296 else 0) : Nat) : Int) := by
  unfold sval
  rw [Int.toNat_natCast, Int.toNat_natCast, bit_one x _ hx, bit_shl]
  have e : ((2 : Int) ^ i % 4294967296) = ((2 ^ i % 4294967296 : Nat) : Int) := by
    rw [Int.natCast_emod, Int.natCast_pow]; rfl
  rw [e, u32_andNot_nat _ _ hp (pow_lt _)]
  exact u32_or_nat _ _ (Nat.lt_of_le_of_lt Nat.and_le_left hp) (if_lt _ _ (pow_lt _))
theorem not_bit (y k : Nat) (h : y < 4294967296) : (4294967295 - y).testBit k = (decide (k < 32) && !y.testBit k) := by
  have e : 4294967295 - y = 2 ^ 32 - (y + 1) := by omega
  rw [e, Nat.testBit_two_pow_sub_succ h]
theorem get_step (x : Nat) (a n : Int) (i : Nat) (hx : x < 4294967296) (hi : i < 32) (h0 : 0 ≤ (i : Int) - a) (h1 : (i : Int) - a < n) :
    gval (getP x a n i) x i ((i : Int) - a) = (getP x a n ((i : Int) + 1) : Nat) := by
  obtain ⟨pl, hpl⟩ := Int.eq_ofNat_of_zero_le h0
  rw [hpl, gval_nat _ _ _ _ (getP_lt _ _ _ _) hx]
  congr 1
  apply Nat.eq_of_testBit_eq
  intro k
  rw [Nat.testBit_or, getP_bit, getP_bit]
  by_cases hk : k < 32
  · by_cases hkp : k = pl
    · subst hkp
      have e : (k : Int) + a = i := by omega
      rw [e, decide_eq_true hk, decide_eq_true (show (k : Int) < n by omega), decide_eq_true (show (0 : Int) ≤ i by omega), decide_eq_false (show ¬ (i : Int) < i by omega), decide_eq_true (show (i : Int) < i + 1 by omega), Int.toNat_natCast]
      have e2 : min k 32 = k := by omega
      rw [e2]
      split
      · rename_i hb; rw [pow_bit, hb]; simp [hk]
      · rename_i hb; simp only [Bool.not_eq_true] at hb; rw [hb]; simp
    · have e : decide ((k : Int) + a < i + 1) = decide ((k : Int) + a < i) := by rw [decide_eq_decide]; omega
      rw [e]
      have z : (if x.testBit i = true then 2 ^ min pl 32 % 4294967296 else 0).testBit k = false := by
        split
        · rw [pow_bit, decide_eq_false (by omega)]; rfl
        · simp
      rw [z, Bool.or_false]
  · rw [decide_eq_false hk]
    have z : (if x.testBit i = true then 2 ^ min pl 32 % 4294967296 else 0).testBit k = false := by
      split
      · rw [pow_bit, decide_eq_false hk, Bool.and_false]
      · simp
    rw [z]; rfl
theorem set_step (w x : Nat) (a n : Int) (i : Nat) (hx : x < 4294967296) (hi : i < 32) (h0 : 0 ≤ (i : Int) - a) (h1 : (i : Int) - a < n) :
    sval (setP w x a n i) x i ((i : Int) - a) = (setP w x a n ((i : Int) + 1) : Nat) := by
  obtain ⟨pl, hpl⟩ := Int.eq_ofNat_of_zero_le h0
  rw [hpl, sval_nat _ _ _ _ (setP_lt _ _ _ _ _) hx hi]
  congr 1
  have hm : x.testBit (min pl 32) = x.testBit pl := by
    by_cases h : pl ≤ 32
    · rw [Nat.min_eq_left h]
    · rw [big_bit x _ hx (by omega), big_bit x pl hx (by omega)]
  rw [hm]
  apply Nat.eq_of_testBit_eq
  intro k
  rw [Nat.testBit_or, Nat.testBit_and, not_bit _ _ (pow_lt _), pow_bit, setP_bit, setP_bit]
  by_cases hk : k < 32
  · by_cases hki : k = i
    · subst hki
      rw [decide_eq_true hk, if_neg (show ¬ (a ≤ (k : Int) ∧ (k : Int) - a < n ∧ (k : Int) < k) by omega), if_pos (show a ≤ (k : Int) ∧ (k : Int) - a < n ∧ (k : Int) < (k : Int) + 1 by omega), hpl]
      simp only [Int.toNat_natCast, decide_true, Bool.and_true, Bool.not_true, Bool.and_false, Bool.false_or, Bool.true_and]
      split
      · rename_i hb; rw [pow_bit, hb]; simp [hk]
      · rename_i hb; simp only [Bool.not_eq_true] at hb; rw [hb]; simp
    · rw [decide_eq_true hk, decide_eq_false hki]
      have z : (if x.testBit pl = true then 2 ^ i % 4294967296 else 0).testBit k = false := by
        split
        · rw [pow_bit, decide_eq_false hki]; rfl
        · simp
      rw [z]
      have c : (a ≤ (k : Int) ∧ (k : Int) - a < n ∧ (k : Int) < i) ↔ (a ≤ (k : Int) ∧ (k : Int) - a < n ∧ (k : Int) < (i : Int) + 1) := by omega
      simp only [c]; simp
  · rw [decide_eq_false hk]
    have z : (if x.testBit pl = true then 2 ^ i % 4294967296 else 0).testBit k = false := by
      split
      · rw [pow_bit, decide_eq_false hk, Bool.and_false]
      · simp
    rw [z]; rfl
theorem get_start (x : Nat) (a n i : Int) (h : i ≤ 0 ∨ i ≤ a) : getP x a n i = 0 := by
  apply Nat.eq_of_testBit_eq
  intro k
  rw [getP_bit, Nat.zero_testBit]
  by_cases h1 : 0 ≤ (k : Int) + a
  · rw [decide_eq_false (show ¬ (k : Int) + a < i by omega)]; simp
  · rw [decide_eq_false h1]; simp
theorem set_start (w x : Nat) (a n i : Int) (hw : w < 4294967296) (h : i ≤ 0 ∨ i ≤ a) : setP w x a n i = w := by
  apply Nat.eq_of_testBit_eq
  intro k
  rw [setP_bit, if_neg (by omega)]
  by_cases hk : k < 32
  · rw [decide_eq_true hk]; rfl
  · rw [decide_eq_false hk, big_bit w k hw (by omega)]; rfl
/-- behind the field nothing turns -/
theorem get_end (x : Nat) (a n i i' : Int) (hi : i ≤ i') (h : n ≤ i - a ∨ i' ≤ a ∨ n ≤ 0) : getP x a n i' = getP x a n i := by
  apply Nat.eq_of_testBit_eq
  intro k
  rw [getP_bit, getP_bit]
  by_cases h1 : (k : Int) < n
  · rw [show decide ((k : Int) + a < i') = decide ((k : Int) + a < i) from by rw [decide_eq_decide]; omega]
  · rw [decide_eq_false h1]; simp
theorem set_end (w x : Nat) (a n i i' : Int) (hi : i ≤ i') (h : n ≤ i - a ∨ i' ≤ a ∨ n ≤ 0) : setP w x a n i' = setP w x a n i := by
  apply Nat.eq_of_testBit_eq
  intro k
  rw [setP_bit, setP_bit]
  have c : (a ≤ (k : Int) ∧ (k : Int) - a < n ∧ (k : Int) < i') ↔ (a ≤ (k : Int) ∧ (k : Int) - a < n ∧ (k : Int) < i) := by omega
  simp only [c]
/-- one bit more that is not in the field -/
theorem get_out (x : Nat) (a n : Int) (i : Nat) (h : ¬ (a ≤ (i : Int) ∧ (i : Int) - a < n)) : getP x a n ((i : Int) + 1) = getP x a n i := by
  apply Nat.eq_of_testBit_eq
  intro k
  rw [getP_bit, getP_bit]
  by_cases h1 : (k : Int) < n
  · rw [show decide ((k : Int) + a < (i : Int) + 1) = decide ((k : Int) + a < i) from by rw [decide_eq_decide]; omega]
  · rw [decide_eq_false h1]; simp
theorem set_out (w x : Nat) (a n : Int) (i : Nat) (h : ¬ (a ≤ (i : Int) ∧ (i : Int) - a < n)) : setP w x a n ((i : Int) + 1) = setP w x a n i := by
  apply Nat.eq_of_testBit_eq
  intro k
  rw [setP_bit, setP_bit]
  have c : (a ≤ (k : Int) ∧ (k : Int) - a < n ∧ (k : Int) < (i : Int) + 1) ↔ (a ≤ (k : Int) ∧ (k : Int) - a < n ∧ (k : Int) < i) := by omega
  simp only [c]

theorem get_stepI (x a n i : Int) (hx0 : 0 ≤ x) (hx : x < 4294967296) (hi0 : 0 ≤ i) (hi : i < 32) (h0 : a ≤ i) (h1 : i - a < n) :
    gval (getP x.toNat a n i : Nat) x i (i - a) = (getP x.toNat a n (i + 1) : Nat) := by
  obtain ⟨X, rfl⟩ := Int.eq_ofNat_of_zero_le hx0
  obtain ⟨I, rfl⟩ := Int.eq_ofNat_of_zero_le hi0
  rw [Int.toNat_natCast]
  exact get_step X a n I (by omega) (by omega) (by omega) h1
theorem set_stepI (w x a n i : Int) (hx0 : 0 ≤ x) (hx : x < 4294967296) (hi0 : 0 ≤ i) (hi : i < 32) (h0 : a ≤ i) (h1 : i - a < n) :
    sval (setP w.toNat x.toNat a n i : Nat) x i (i - a) = (setP w.toNat x.toNat a n (i + 1) : Nat) := by
  obtain ⟨X, rfl⟩ := Int.eq_ofNat_of_zero_le hx0
  obtain ⟨I, rfl⟩ := Int.eq_ofNat_of_zero_le hi0
  rw [Int.toNat_natCast]
  exact set_step w.toNat X a n I (by omega) (by omega) (by omega) h1
theorem place_neg (k a : Int) (h : a < 0) (h0 : -9223372036854775808 ≤ a) (hk : 0 ≤ k) (hk1 : k < 32) : IntKind.u64.wrap (k - IntKind.u64.wrap a) = k - a := by
  rw [IntKind.wrap_u64, IntKind.wrap_u64]; omega
/-- what Get answers -/
def get (x a n : Int) : Int := (getP x.toNat a n 32 : Nat)
/-- what Set answers -/
def set (w a n x : Int) : Int := (setP w.toNat x.toNat a n 32 : Nat)
theorem get_lo (x a n : Int) : 0 ≤ get x a n := by unfold get; omega
theorem get_hi (x a n : Int) : get x a n < 4294967296 := by have := getP_lt x.toNat a n 32; unfold get; omega
theorem set_lo (w a n x : Int) : 0 ≤ set w a n x := by unfold set; omega
theorem set_hi (w a n x : Int) : set w a n x < 4294967296 := by have := setP_lt w.toNat x.toNat a n 32; unfold set; omega

/-! signed numbers of k bits -/
def clamp (n : Int) : Int := if n < 1 then 1 else if 32 < n then 32 else n
theorem clamp_lo (n : Int) : 1 ≤ clamp n := by unfold clamp; split <;> (try split) <;> omega
theorem clamp_hi (n : Int) : clamp n ≤ 32 := by unfold clamp; split <;> (try split) <;> omega
theorem clamp_1 (n : Int) (h : n < 1) : clamp n = 1 := by unfold clamp; rw [if_pos h]
theorem clamp_32 (n : Int) (h : 32 < n) : clamp n = 32 := by unfold clamp; rw [if_neg (by omega), if_pos h]
theorem clamp_in (n : Int) (h : 1 ≤ n) (h' : n ≤ 32) : clamp n = n := by unfold clamp; rw [if_neg (by omega), if_neg (by omega)]
/-- the lowest k bits of x, signed -/
def sgnd (x k : Int) : Int := if x % 2 ^ k.toNat < 2 ^ (k.toNat - 1) then x % 2 ^ k.toNat else x % 2 ^ k.toNat - 2 ^ k.toNat
/-- is v a signed number of k bits? -/
def fitsK (v k : Int) : Bool := decide (-2 ^ (k.toNat - 1) ≤ v) && decide (v < 2 ^ (k.toNat - 1))
theorem cases32 (k : Int) (h : 1 ≤ k) (h' : k ≤ 32) : k = 1 ∨ k = 2 ∨ k = 3 ∨ k = 4 ∨ k = 5 ∨ k = 6 ∨ k = 7 ∨ k = 8 ∨ k = 9 ∨ k = 10 ∨ k = 11 ∨ k = 12 ∨ k = 13 ∨ k = 14 ∨ k = 15 ∨ k = 16 ∨ k = 17 ∨ k = 18 ∨ k = 19 ∨ k = 20 ∨ k = 21 ∨ k = 22 ∨ k = 23 ∨ k = 24 ∨ k = 25 ∨ k = 26 ∨ k = 27 ∨ k = 28 ∨ k = 29 ∨ k = 30 ∨ k = 31 ∨ k = 32 := by omega
/-- the power of k bits: half of it, and it -/
theorem pow_half (k : Int) (h : 1 ≤ k) : (2 : Int) ^ k.toNat = 2 * 2 ^ (k.toNat - 1) := by
  have e : k.toNat = k.toNat - 1 + 1 := by omega
  rw [e, Int.pow_succ, Nat.add_sub_cancel]; omega
theorem half_lo (k : Int) : (1 : Int) ≤ 2 ^ (k.toNat - 1) := by have := Int.pow_pos (n := 2) (m := k.toNat - 1) (by decide); omega
theorem half_hi (k : Int) (h : k ≤ 32) : (2 : Int) ^ (k.toNat - 1) ≤ 2147483648 := by
  have h2 := Nat.pow_le_pow_right (n := 2) (by decide) (show k.toNat - 1 ≤ 31 by omega)
  have h3 : ((2 ^ (k.toNat - 1) : Nat) : Int) ≤ ((2 ^ 31 : Nat) : Int) := Int.ofNat_le.2 h2
  rw [Int.natCast_pow] at h3
  exact h3
theorem sgnd_shift (x k : Int) (hx0 : 0 ≤ x) (hx1 : x < 4294967296) (h : 1 ≤ k) (h' : k ≤ 32) :
    wrap64 (wrap32 (x * 2 ^ (32 - k).toNat % 4294967296) / 2 ^ (32 - k).toNat) = sgnd x k := by
  rcases cases32 k h h' with r | r | r | r | r | r | r | r | r | r | r | r | r | r | r | r | r | r | r | r | r | r | r | r | r | r | r | r | r | r | r | r <;> subst r <;> unfold sgnd wrap64 wrap32 <;> simp only [Int.reduceSub, Int.reduceToNat, Int.reducePow, Nat.reduceSub] <;> split <;> omega
end Go.Proofs.YtkkoihhkfophnaaDoor.F
