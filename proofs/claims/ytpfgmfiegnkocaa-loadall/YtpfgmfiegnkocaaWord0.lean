/-
  Plain facts on numbers of 32 bits, for the walks of package word: no Go text is named here.
-/
import Derived.RowKit
import Derived.IntWalk
import Derived.Laws.BitsAllLaws
namespace Go.Proofs.Ytpfgmfiegnkocaa.W
open Go.RowKit
set_option linter.unusedVariables false
set_option linter.unusedSimpArgs false
set_option maxRecDepth 100000

/-- a word as a signed number -/
def sgn (a : Int) : Int := if a < 2147483648 then a else a - 4294967296
/-- 1, if set -/
def one (c : Bool) : Int := if c then 1 else 0
/-- is it a signed number of 32 bits? -/
def inS (x : Int) : Bool := decide (-2147483648 ≤ x) && decide (x ≤ 2147483647)
/-- modulo two to the 32 -/
def low (x : Int) : Int := x % 4294967296
/-- is it above the greatest word? -/
def over (x : Int) : Bool := decide (4294967295 < x)
/-- is it below nought? -/
def neg (x : Int) : Bool := decide (x < 0)

theorem sgn_lo (a : Int) (h0 : 0 ≤ a) : -2147483648 ≤ sgn a := by unfold sgn; split <;> omega
theorem sgn_hi (a : Int) (h1 : a < 4294967296) : sgn a ≤ 2147483647 := by unfold sgn; split <;> omega
theorem sgn_mod (a : Int) (h0 : 0 ≤ a) (h1 : a < 4294967296) : sgn a % 4294967296 = a := by unfold sgn; split <;> omega
theorem wrap_sgn (a : Int) (h0 : 0 ≤ a) (h1 : a < 4294967296) : wrap64 (wrap32 a) = sgn a := by
  unfold wrap64 wrap32 sgn; split <;> omega
theorem wrap32_sgn (a : Int) (h0 : 0 ≤ a) (h1 : a < 4294967296) : wrap32 a = sgn a := by
  unfold wrap32 sgn; split <;> omega
theorem one_lo (c : Bool) : 0 ≤ one c := by cases c <;> decide
theorem one_hi (c : Bool) : one c ≤ 1 := by cases c <;> decide
theorem low_lo (x : Int) : 0 ≤ low x := by unfold low; omega
theorem low_hi (x : Int) : low x < 4294967296 := by unfold low; omega
theorem inS_iff (x : Int) : inS x = true ↔ -2147483648 ≤ x ∧ x ≤ 2147483647 := by simp [inS]

/-! products -/
/-- the product that is meant -/
def prod (u : Bool) (a b : Int) : Int := if u then a * b else sgn a * sgn b
theorem wrapU (p : Int) : IntKind.u64.wrap p % 4294967296 = low p := by rw [IntKind.wrap_u64]; unfold low; omega
theorem wrapU' (p : Int) : IntKind.u64.wrap p / 4294967296 % 4294967296 = low (p / 4294967296) := by rw [IntKind.wrap_u64]; unfold low; omega
theorem wrapS (p : Int) : IntKind.u64.wrap (wrap64 p) % 4294967296 = low p := by rw [IntKind.wrap_u64]; unfold low wrap64; omega
theorem wrapS' (p : Int) : IntKind.u64.wrap (wrap64 p) / 4294967296 % 4294967296 = low (p / 4294967296) := by rw [IntKind.wrap_u64]; unfold low wrap64; omega
theorem mul_lo (x y : Int) (hx : 0 ≤ x) (hy : 0 ≤ y) : 0 ≤ x * y := Int.mul_nonneg hx hy
theorem mul_hi (x y m n : Int) (hx : 0 ≤ x) (hy : 0 ≤ y) (h : x ≤ m) (k : y ≤ n) : x * y ≤ m * n :=
  Int.le_trans (Int.mul_le_mul_of_nonneg_right h hy) (Int.mul_le_mul_of_nonneg_left k (by omega))
theorem halves (a b : Int) : a * b = a % 65536 * (b % 65536) + (a % 65536 * (b / 65536) + a / 65536 * (b % 65536)) * 65536 + a / 65536 * (b / 65536) * 4294967296 := by
  have ha : a = a / 65536 * 65536 + a % 65536 := by omega
  have hb : b = b / 65536 * 65536 + b % 65536 := by omega
  generalize a / 65536 = y at *
  generalize a % 65536 = x at *
  generalize b / 65536 = v at *
  generalize b % 65536 = u at *
  subst ha hb
  have e1 : (y * 65536 + x) * (v * 65536 + u) = y * 65536 * (v * 65536) + y * 65536 * u + (x * (v * 65536) + x * u) := by
    rw [Int.add_mul, Int.mul_add, Int.mul_add]
  have e2 : y * 65536 * (v * 65536) = y * v * 4294967296 := by
    rw [Int.mul_assoc, Int.mul_comm 65536 (v * 65536), Int.mul_assoc, ← Int.mul_assoc]; rfl
  have e3 : y * 65536 * u = y * u * 65536 := by rw [Int.mul_assoc, Int.mul_comm 65536 u, ← Int.mul_assoc]
  have e4 : x * (v * 65536) = x * v * 65536 := by rw [← Int.mul_assoc]
  rw [e1, e2, e3, e4]; omega
theorem signs (a b : Int) : sgn a * sgn b = a * b - (if a < 2147483648 then 0 else b) * 4294967296 - (if b < 2147483648 then 0 else a) * 4294967296 + (if a < 2147483648 then 0 else if b < 2147483648 then 0 else 18446744073709551616) := by
  unfold sgn
  have e (x y : Int) : (x - 4294967296) * y = x * y - y * 4294967296 := by rw [Int.sub_mul, Int.mul_comm 4294967296 y]
  have f (x y : Int) : x * (y - 4294967296) = x * y - x * 4294967296 := by rw [Int.mul_sub]
  split <;> split
  · omega
  · rw [f]; omega
  · rw [e]; omega
  · rw [e, f]; omega

theorem sgn_of_lt (a : Int) (h0 : 0 ≤ a) (h1 : a < 4294967296) (h : W.sgn a < 0) : ¬ a < 2147483648 := by unfold sgn at h; split at h <;> omega
theorem sgn_of_ge (a : Int) (h : 0 ≤ W.sgn a) (h1 : a < 4294967296) : a < 2147483648 := by unfold sgn at h; split at h <;> omega
theorem half_low (u : Bool) (a b : Int) : a % 65536 * (b % 65536) % 65536 + (a % 65536 * (b / 65536) + a / 65536 * (b % 65536) + a % 65536 * (b % 65536) / 65536) % 65536 * 65536 = low (prod u a b) := by
  have h := halves a b
  have hs := signs a b
  have e : low (prod u a b) = a * b % 4294967296 := by
    cases u
    · simp only [prod, low, Bool.false_eq_true, if_false]; rw [hs]; repeat' split
      all_goals omega
    · simp only [prod, low, if_true]
  rw [e]; omega
theorem half_high (a b : Int) : a / 65536 * (b / 65536) + (a % 65536 * (b / 65536) + a / 65536 * (b % 65536) + a % 65536 * (b % 65536) / 65536) / 65536 = a * b / 4294967296 := by
  have h := halves a b
  omega
theorem high_of (a b c d : Int) (hc : c = if a < 2147483648 then 0 else b) (hd : d = if b < 2147483648 then 0 else a) : (a * b / 4294967296 - c - d + 17179869184) % 4294967296 = low (prod false a b / 4294967296) := by
  simp only [prod, low, Bool.false_eq_true, if_false]
  rw [signs a b, ← hc, ← hd]
  split
  · omega
  · split <;> omega

/-! quotients -/
theorem quo_pos (x y : Int) (_hy : 0 < y) (h : ¬ x.tmod y < 0) : x.tdiv y = x / y ∧ x.tmod y = x % y := by
  have h1 := Int.mul_tdiv_add_tmod x y
  have hlt := Int.tmod_lt_of_pos x _hy
  have hm : x % y = x.tmod y := by
    have : x = x.tmod y + y * x.tdiv y := by omega
    rw [this, Int.add_mul_emod_self_left]
    have e := Int.emod_eq_of_lt (a := x.tmod y) (b := y) (by omega) hlt
    rw [← this]; exact e
  have hd := Int.emod_add_mul_ediv x y
  refine ⟨?_, hm.symm⟩
  have : y * x.tdiv y = y * (x / y) := by omega
  exact Int.eq_of_mul_eq_mul_left (by omega) this
theorem quo_neg (x y : Int) (_hy : 0 < y) (h : x.tmod y < 0) : x.tdiv y - 1 = x / y ∧ x.tmod y + y = x % y := by
  have h1 := Int.mul_tdiv_add_tmod x y
  have hlt : -y < x.tmod y := Int.lt_tmod_of_pos x _hy
  have hm : x % y = x.tmod y + y := by
    have e0 : y * (x.tdiv y - 1) = y * x.tdiv y - y := by rw [Int.mul_sub, Int.mul_one]
    have : x = x.tmod y + y + y * (x.tdiv y - 1) := by rw [e0]; omega
    rw [this, Int.add_mul_emod_self_left, ← this]
    exact Int.emod_eq_of_lt (by omega) (by omega)
  have hd := Int.emod_add_mul_ediv x y
  refine ⟨?_, hm.symm⟩
  have e0 : y * (x.tdiv y - 1) = y * x.tdiv y - y := by rw [Int.mul_sub, Int.mul_one]
  have : y * (x.tdiv y - 1) = y * (x / y) := by rw [e0]; omega
  exact Int.eq_of_mul_eq_mul_left (by omega) this

theorem tmod_low (x : Int) : x.tmod 4294967296 % 4294967296 = x % 4294967296 := by
  have := Int.mul_tdiv_add_tmod x 4294967296; omega
theorem wrap64_low2 (x : Int) : (wrap64 (x + 4294967296)).tmod 4294967296 % 4294967296 = low x := by rw [tmod_low]; unfold wrap64 low; omega
theorem wrap64_low3 (x : Int) : (wrap64 (wrap64 x + 4294967296)).tmod 4294967296 % 4294967296 = low x := by rw [tmod_low]; unfold wrap64 low; omega
theorem wrap64_low (x : Int) : wrap64 x % 4294967296 = low x := by unfold wrap64 low; omega

/-! what was added is subtracted -/
theorem back1 (a b o : Int) (h0 : 0 ≤ a) (h1 : a < 4294967296) : low (low (a + b + o) - b - o) = a := by unfold low; omega
theorem back2 (a b o : Int) (h0 : 0 ≤ a) (h1 : a < 4294967296) (h2 : 0 ≤ b) (h3 : b < 4294967296) (o1 : 0 ≤ o) (o2 : o ≤ 1) : neg (low (a + b + o) - b - o) = over (a + b + o) := by
  unfold low neg over; rw [decide_eq_decide]; omega
theorem back3 (a b o : Int) (h0 : 0 ≤ a) (h1 : a < 4294967296) : low (low (a - b - o) + b + o) = a := by unfold low; omega
theorem back4 (a b o : Int) (h0 : 0 ≤ a) (h1 : a < 4294967296) (h2 : 0 ≤ b) (h3 : b < 4294967296) (o1 : 0 ≤ o) (o2 : o ≤ 1) : over (low (a - b - o) + b + o) = neg (a - b - o) := by
  unfold low neg over; rw [decide_eq_decide]; omega
theorem back5 (x y o : Int) : inS (y + x + o) = inS (x + y + o) := by rw [Int.add_comm y x]
theorem low_in (a : Int) (h0 : 0 ≤ a) (h1 : a < 4294967296) : low a = a := by unfold low; omega
theorem over_in (a : Int) (h1 : a < 4294967296) : over a = false := by unfold over; simp; omega
theorem inS_sgn (a : Int) (h0 : 0 ≤ a) (h1 : a < 4294967296) : inS (sgn a) = true := by
  have := sgn_lo a h0
  have := sgn_hi a h1
  rw [inS_iff]; omega
theorem sub_out (a b o : Int) (h0 : 0 ≤ a) (h1 : a < 4294967296) (h2 : 0 ≤ b) (h3 : b < 4294967296) (o1 : 0 ≤ o) (o2 : o ≤ 1) (h : inS (sgn a - sgn b - o) = false) : (a / 2147483648 != b / 2147483648) = true := by
  rw [bne_iff_ne]
  have h' : ¬ inS (sgn a - sgn b - o) = true := by rw [h]; decide
  rw [inS_iff] at h'
  unfold sgn at h'
  split at h' <;> split at h' <;> omega
theorem add_out (a b o : Int) (h0 : 0 ≤ a) (h1 : a < 4294967296) (h2 : 0 ≤ b) (h3 : b < 4294967296) (o1 : 0 ≤ o) (o2 : o ≤ 1) (h : inS (sgn a + sgn b + o) = false) : (a / 2147483648 == b / 2147483648) = true := by
  rw [beq_iff_eq]
  have h' : ¬ inS (sgn a + sgn b + o) = true := by rw [h]; decide
  rw [inS_iff] at h'
  unfold sgn at h'
  split at h' <;> split at h' <;> omega

theorem sgn_pos (b : Int) (h : 0 < W.sgn b) (h1 : b < 4294967296) : 0 < b ∧ b < 2147483648 ∧ W.sgn b = b := by unfold sgn at *; split at h <;> split <;> omega
theorem sgn_npos (b : Int) (h : ¬ 0 < W.sgn b) (h0 : 0 ≤ b) : b = 0 ∨ 2147483648 ≤ b := by unfold sgn at *; split at h <;> omega
theorem rest_lo (a b : Int) (hb : 0 < W.sgn b) : 0 ≤ W.sgn a % W.sgn b := Int.emod_nonneg _ (by omega)
theorem rest_hi (a b : Int) (hb : 0 < W.sgn b) : W.sgn a % W.sgn b < W.sgn b := Int.emod_lt_of_pos _ hb
theorem rest_low (a b : Int) (hb : 0 < W.sgn b) (h1 : b < 4294967296) : low (W.sgn a % W.sgn b) = W.sgn a % W.sgn b := by
  have h2 := rest_lo a b hb
  have h3 := rest_hi a b hb
  have h4 := sgn_pos b hb h1
  unfold low; exact Int.emod_eq_of_lt h2 (by omega)
theorem rest_lt (a b : Int) (hb : 0 < W.sgn b) (h1 : b < 4294967296) : low (W.sgn a % W.sgn b) < b := by
  rw [rest_low a b hb h1]
  have h3 := rest_hi a b hb
  have h4 := sgn_pos b hb h1
  omega
theorem quo_back (a b : Int) (h0 : 0 ≤ a) (h : a < 4294967296) (hb : 0 < W.sgn b) (h1 : b < 4294967296) : (low (W.sgn a / W.sgn b) * b + low (W.sgn a % W.sgn b)) % 4294967296 = a := by
  rw [rest_low a b hb h1]
  have h4 := sgn_pos b hb h1
  have e := Int.emod_add_mul_ediv (sgn a) (sgn b)
  have m := sgn_mod a h0 h
  rw [h4.2.2] at e ⊢
  generalize sgn a / b = q at *
  generalize sgn a % b = r at *
  unfold low
  have e2 : q % 4294967296 * b % 4294967296 = q * b % 4294967296 := by rw [Int.mul_emod, Int.emod_emod, ← Int.mul_emod]
  rw [Int.mul_comm b q] at e
  omega

/-! shifts: by a number below 32 -/
def sl (a : Int) (m : Nat) : Int := a * 2 ^ m % 4294967296
def sr (a : Int) (m : Nat) : Int := sgn a / 2 ^ m % 4294967296
def ro (a : Int) (m : Nat) : Int := a / 2 ^ m + a * 2 ^ (32 - m) % 4294967296
def shiftN (k a : Int) (m : Nat) : Int := if k = 1 then sl a m else if k = 2 then sr a m else if k = 3 then ro a m else a
/-- what package word's Shift answers -/
def shift (k a n : Int) : Int := shiftN k a (n % 32).toNat
/-- one place -/
def step (k a : Int) : Int := if k = 1 then a * 2 % 4294967296 else if k = 2 then a / 2 + a / 2147483648 * 2147483648 else if k = 3 then a / 2 + a % 2 * 2147483648 else a

theorem step1 (k s : Int) (h : (k == 1) = true) : s * 2 % 4294967296 = step k s := by
  have e : k = 1 := by simpa using h
  simp only [step, if_pos e]
theorem step2 (k s : Int) (h : (k == 2) = true) : s / 2 + s / 2147483648 * 2147483648 = step k s := by
  have e : k = 2 := by simpa using h
  have e' : ¬ k = 1 := by omega
  simp only [step, if_neg e', if_pos e]
theorem step3 (k s : Int) (h : (k == 3) = true) : s / 2 + s % 2 * 2147483648 = step k s := by
  have e : k = 3 := by simpa using h
  have e' : ¬ k = 1 := by omega
  have e'' : ¬ k = 2 := by omega
  simp only [step, if_neg e', if_neg e'', if_pos e]
theorem step4 (k s : Int) (h : (k == 1) = false) (h' : (k == 2) = false) (h'' : (k == 3) = false) : s = step k s := by
  have e : ¬ k = 3 := by simpa using h''
  have e' : ¬ k = 1 := by simpa using h
  have e'' : ¬ k = 2 := by simpa using h'
  simp only [step, if_neg e', if_neg e'', if_neg e]
theorem cases32 (m : Nat) (h : m < 32) : m = 0 ∨ m = 1 ∨ m = 2 ∨ m = 3 ∨ m = 4 ∨ m = 5 ∨ m = 6 ∨ m = 7 ∨ m = 8 ∨ m = 9 ∨ m = 10 ∨ m = 11 ∨ m = 12 ∨ m = 13 ∨ m = 14 ∨ m = 15 ∨ m = 16 ∨ m = 17 ∨ m = 18 ∨ m = 19 ∨ m = 20 ∨ m = 21 ∨ m = 22 ∨ m = 23 ∨ m = 24 ∨ m = 25 ∨ m = 26 ∨ m = 27 ∨ m = 28 ∨ m = 29 ∨ m = 30 ∨ m = 31 := by omega
theorem sl_step (a : Int) (m : Nat) (h : m < 31) : sl a m * 2 % 4294967296 = sl a (m + 1) := by
  unfold sl; rw [Int.pow_succ, ← Int.mul_assoc]; omega
theorem sr_step (a : Int) (m : Nat) (h : m < 31) (h0 : 0 ≤ a) (h1 : a < 4294967296) : sr a m / 2 + sr a m / 2147483648 * 2147483648 = sr a (m + 1) := by
  have s1 := sgn_lo a h0
  have s2 := sgn_hi a h1
  unfold sr
  generalize sgn a = s at *
  rcases cases32 m (by omega) with r | r | r | r | r | r | r | r | r | r | r | r | r | r | r | r | r | r | r | r | r | r | r | r | r | r | r | r | r | r | r | r <;> subst r <;> simp only [Nat.reduceAdd, Int.reducePow] <;> omega
theorem pow_pos2 (m : Nat) : (0 : Int) < 2 ^ m := Int.pow_pos (by decide)
theorem pow_split (m n : Nat) (h : n = m) : (2 : Int) ^ n = 2 ^ m := by rw [h]
theorem ro_alt (a : Int) (m : Nat) (h : m ≤ 32) : ro a m = a / 2 ^ m + a % 2 ^ m * 2 ^ (32 - m) := by
  unfold ro
  have e : (4294967296 : Int) = 2 ^ (32 - m) * 2 ^ m := by
    rw [← Int.pow_add, pow_split 32 (32 - m + m) (by omega)]; rfl
  rw [e, Int.mul_comm a, Int.mul_emod_mul_of_pos _ _ (pow_pos2 _), Int.mul_comm (2 ^ (32 - m))]
theorem div_step (a : Int) (m : Nat) : a / 2 ^ (m + 1) = a / 2 ^ m / 2 := by
  have hp := pow_pos2 m
  rw [Int.ediv_ediv, if_neg (by omega), Int.pow_succ]; omega
theorem mod_step (a : Int) (m : Nat) : a % 2 ^ (m + 1) = a / 2 ^ m % 2 * 2 ^ m + a % 2 ^ m := by
  have h1 := Int.emod_add_mul_ediv a (2 ^ m)
  have h2 := Int.emod_add_mul_ediv a (2 ^ (m + 1))
  rw [div_step a m, Int.pow_succ, Int.mul_assoc] at h2
  rw [Int.pow_succ]
  have h3 : 2 ^ m * (a / 2 ^ m) = 2 ^ m * (2 * (a / 2 ^ m / 2)) + a / 2 ^ m % 2 * 2 ^ m := by
    rw [Int.mul_comm (a / 2 ^ m % 2), ← Int.mul_add]
    congr 1; omega
  omega
theorem ro_step (a : Int) (m : Nat) (h : m < 32) : ro a m / 2 + ro a m % 2 * 2147483648 = ro a (m + 1) := by
  rw [ro_alt a m (by omega), ro_alt a (m + 1) (by omega), div_step, mod_step]
  have e1 : (2 : Int) ^ (32 - m) = 2 ^ (32 - (m + 1)) * 2 := by
    rw [← Int.pow_succ]; exact pow_split _ _ (by omega)
  have e2 : (2147483648 : Int) = 2 ^ m * 2 ^ (32 - (m + 1)) := by
    rw [← Int.pow_add, pow_split 31 (m + (32 - (m + 1))) (by omega)]; rfl
  rw [e1, Int.add_mul, Int.mul_assoc (a / 2 ^ m % 2), ← e2, ← Int.mul_assoc (a % 2 ^ m)]
  omega
theorem sl_lo (a : Int) (m : Nat) : 0 ≤ sl a m := by unfold sl; omega
theorem sl_hi (a : Int) (m : Nat) : sl a m < 4294967296 := by unfold sl; omega
theorem sr_lo (a : Int) (m : Nat) : 0 ≤ sr a m := by unfold sr; omega
theorem sr_hi (a : Int) (m : Nat) : sr a m < 4294967296 := by unfold sr; omega
theorem ro_zero (a : Int) : ro a 0 = a := by unfold ro; simp only [Int.reducePow, Nat.sub_zero]; omega
theorem sl_zero (a : Int) (h0 : 0 ≤ a) (h1 : a < 4294967296) : sl a 0 = a := by unfold sl; simp only [Int.reducePow]; omega
theorem sr_zero (a : Int) (h0 : 0 ≤ a) (h1 : a < 4294967296) : sr a 0 = a := by
  unfold sr sgn; simp only [Int.reducePow]; split <;> omega
theorem step_lo (k a : Int) (h0 : 0 ≤ a) : 0 ≤ step k a := by
  unfold step; repeat' split
  all_goals omega
theorem step_hi (k a : Int) (h0 : 0 ≤ a) (h1 : a < 4294967296) : step k a < 4294967296 := by
  unfold step; repeat' split
  all_goals omega
theorem shiftN_step (k a : Int) (m : Nat) (h : m < 31) (h0 : 0 ≤ a) (h1 : a < 4294967296) : step k (shiftN k a m) = shiftN k a (m + 1) := by
  unfold step shiftN
  by_cases e1 : k = 1
  · simp only [e1, if_true]; exact sl_step a m h
  · by_cases e2 : k = 2
    · simp only [e2, if_true, if_neg (show ¬ (2 : Int) = 1 by decide)]; exact sr_step a m h h0 h1
    · by_cases e3 : k = 3
      · simp only [e3, if_true, if_neg (show ¬ (3 : Int) = 1 by decide), if_neg (show ¬ (3 : Int) = 2 by decide)]; exact ro_step a m (by omega)
      · simp only [if_neg e1, if_neg e2, if_neg e3]
theorem shiftN_zero (k a : Int) (h0 : 0 ≤ a) (h1 : a < 4294967296) : shiftN k a 0 = a := by
  unfold shiftN
  split
  · exact sl_zero a h0 h1
  · split
    · exact sr_zero a h0 h1
    · split
      · exact ro_zero a
      · rfl
theorem shiftN_in (k a : Int) (m : Nat) (h : m < 32) (h0 : 0 ≤ a) (h1 : a < 4294967296) : 0 ≤ shiftN k a m ∧ shiftN k a m < 4294967296 := by
  induction m with
  | zero => rw [shiftN_zero k a h0 h1]; exact ⟨h0, h1⟩
  | succ m ih =>
    have := ih (by omega)
    rw [← shiftN_step k a m (by omega) h0 h1]
    exact ⟨step_lo k _ this.1, step_hi k _ this.1 this.2⟩
/-- by two numbers, one behind the other -/
theorem shiftN_add (k a : Int) (x y : Nat) (h : x + y < 32) (h0 : 0 ≤ a) (h1 : a < 4294967296) : shiftN k (shiftN k a x) y = shiftN k a (x + y) := by
  have hb := shiftN_in k a x (by omega) h0 h1
  induction y with
  | zero => exact shiftN_zero k _ hb.1 hb.2
  | succ y ih =>
    rw [← shiftN_step k _ y (by omega) hb.1 hb.2, ih (by omega), shiftN_step k a (x + y) (by omega) h0 h1]; rfl
/-- to turn by 32 in all -/
theorem ro_back (a : Int) (x : Nat) (h : x < 32) (hx : 0 < x) (h0 : 0 ≤ a) (h1 : a < 4294967296) : ro (ro a x) (32 - x) = a := by
  rw [ro_alt a x (by omega), ro_alt _ (32 - x) (by omega)]
  have e : 32 - (32 - x) = x := by omega
  rw [e]
  have hp := pow_pos2 x
  have hq := pow_pos2 (32 - x)
  have hlt : a / 2 ^ x < 2 ^ (32 - x) := by
    apply Int.ediv_lt_of_lt_mul hp
    rw [← Int.pow_add, pow_split 32 (32 - x + x) (by omega)]; omega
  have hge : 0 ≤ a / 2 ^ x := Int.ediv_nonneg h0 (by omega)
  have hr := Int.emod_nonneg a (b := 2 ^ x) (by omega)
  rw [Int.add_mul_ediv_right _ _ (by omega), Int.ediv_eq_zero_of_lt hge hlt, Int.mul_comm (a % 2 ^ x), Int.add_mul_emod_self_left, Int.emod_eq_of_lt hge hlt]
  have := Int.emod_add_mul_ediv a (2 ^ x)
  rw [Int.mul_comm (a / 2 ^ x)]; omega
theorem ro_bits (a : Int) (m : Nat) (h : m < 32) (h0 : 0 ≤ a) (h1 : a < 4294967296) (hk : ((32 - (m : Int)).toNat) = 32 - m) :
    bits .or .u32 (a / 2 ^ m) (a * 2 ^ (32 - (m : Int)).toNat % 4294967296) = ro a m := by
  rw [hk]
  have e := ro_alt a m (by omega)
  unfold ro at e ⊢
  have hp := pow_pos2 m
  have hq := pow_pos2 (32 - m)
  have hge : 0 ≤ a / 2 ^ m := Int.ediv_nonneg h0 (by omega)
  have hlt : a / 2 ^ m < 2 ^ (32 - m) := by
    apply Int.ediv_lt_of_lt_mul hp
    rw [← Int.pow_add, pow_split 32 (32 - m + m) (by omega)]; omega
  have hle : (2 : Int) ^ (32 - m) ≤ 4294967296 := by
    have h2 := Nat.pow_le_pow_right (n := 2) (by decide) (show 32 - m ≤ 32 by omega)
    have h3 : ((2 ^ (32 - m) : Nat) : Int) ≤ ((2 ^ 32 : Nat) : Int) := Int.ofNat_le.2 h2
    rw [Int.natCast_pow] at h3
    exact h3
  have e' : a * 2 ^ (32 - m) % 4294967296 = a % 2 ^ m * 2 ^ (32 - m) := by omega
  rw [u32_or _ _ hge (by omega) (by omega) (by omega), Nat.or_comm, nat_join (32 - m)]
  · omega
  · have hr := Int.emod_nonneg a (b := 2 ^ m) (by omega)
    rw [e']
    obtain ⟨r, hr'⟩ := Int.eq_ofNat_of_zero_le hr
    rw [hr', show (2 : Int) ^ (32 - m) = ((2 ^ (32 - m) : Nat) : Int) from by rw [Int.natCast_pow]; rfl, ← Int.natCast_mul, Int.toNat_natCast, Nat.mul_mod_left]
  · have : ((a / 2 ^ m).toNat : Int) < ((2 ^ (32 - m) : Nat) : Int) := by
      rw [Int.natCast_pow, Int.toNat_of_nonneg hge]; exact hlt
    omega
theorem sr_sign (a : Int) (m : Nat) (h : m < 32) (h0 : 0 ≤ a) (h1 : a < 4294967296) : sr a m / 2147483648 = a / 2147483648 := by
  induction m with
  | zero => rw [sr_zero a h0 h1]
  | succ m ih =>
    have e := ih (by omega)
    have l := sr_lo a m
    have u := sr_hi a m
    rw [← sr_step a m (by omega) h0 h1]; omega
theorem sr_small (a : Int) (m : Nat) (h0 : 0 ≤ a) (h1 : a < 2147483648) : sr a m = a / 2 ^ m := by
  unfold sr sgn
  rw [if_pos h1]
  have h2 : 0 ≤ a / 2 ^ m := Int.ediv_nonneg h0 (by have := pow_pos2 m; omega)
  have h3 : a / 2 ^ m ≤ a := Int.ediv_le_self _ h0
  omega
theorem shift_mod (k a m : Int) : shift k a m = shift k a (m % 32) := by unfold shift; rw [Int.emod_emod]
theorem shift_add (k a x y : Int) (h0 : 0 ≤ a) (h1 : a < 4294967296) (hx : 0 ≤ x) (hy : 0 ≤ y) (h : x + y < 32) : shift k (shift k a x) y = shift k a (x + y) := by
  unfold shift
  rw [shiftN_add k a _ _ (by omega) h0 h1]
  congr 1; omega
theorem shift_none (k a n : Int) (h0 : 0 ≤ a) (h1 : a < 4294967296) (h : n % 32 = 0) : shift k a n = a := by
  unfold shift; rw [h]; exact shiftN_zero k a h0 h1
theorem shift_lo (k a n : Int) (h0 : 0 ≤ a) (h1 : a < 4294967296) : 0 ≤ shift k a n := (shiftN_in k a _ (by omega) h0 h1).1
theorem shift_hi (k a n : Int) (h0 : 0 ≤ a) (h1 : a < 4294967296) : shift k a n < 4294967296 := (shiftN_in k a _ (by omega) h0 h1).2
theorem shift_left (a n : Int) : shift 1 a (n % 32) = a * 2 ^ (n % 32).toNat % 4294967296 := by
  unfold shift shiftN sl; rw [if_pos rfl, Int.emod_emod]
theorem shift_sign (a n : Int) (h0 : 0 ≤ a) (h1 : a < 4294967296) : shift 2 a n / 2147483648 = a / 2147483648 := by
  unfold shift shiftN; rw [if_neg (by decide), if_pos rfl]; exact sr_sign a _ (by omega) h0 h1
theorem shift_small (a n : Int) (h0 : 0 ≤ a) (h1 : a < 2147483648) : shift 2 a (n % 32) = a / 2 ^ (n % 32).toNat := by
  unfold shift shiftN; rw [if_neg (by decide), if_pos rfl, Int.emod_emod]; exact sr_small a _ h0 h1
theorem shift_round (a n : Int) (h0 : 0 ≤ a) (h1 : a < 4294967296) : shift 3 (shift 3 a (n % 32)) (32 - n % 32) = a := by
  by_cases e : n % 32 = 0
  · rw [e, shift_none 3 a 0 h0 h1 (by decide)]; exact shift_none 3 a _ h0 h1 (by decide)
  · unfold shift shiftN
    rw [if_neg (by decide), if_neg (by decide), if_pos rfl, if_neg (by decide), if_neg (by decide), if_pos rfl]
    have e1 : ((32 - n % 32) % 32).toNat = 32 - (n % 32 % 32).toNat := by omega
    rw [e1]; exact ro_back a _ (by omega) (by omega) h0 h1
theorem shift_other (k a n : Int) (h : k = 0 ∨ k = 4) : shift k a n = a := by
  unfold shift shiftN; rw [if_neg (by omega), if_neg (by omega), if_neg (by omega)]

/-! products -/
theorem prod_comm (u : Bool) (a b : Int) : prod u b a = prod u a b := by unfold prod; cases u <;> simp [Int.mul_comm]
theorem prod_low (a b : Int) : low (prod false a b) = low (prod true a b) := by
  rw [← half_low false a b, half_low true a b]
theorem prod_one (a : Int) : prod true a 1 = a := by simp [prod]
theorem prod_one' (a : Int) : prod false a 1 = sgn a := by simp [prod, show sgn 1 = 1 from rfl]
theorem prod_small (a b : Int) : prod false (a % 65536) (b % 65536) = a % 65536 * (b % 65536) := by
  simp only [prod, Bool.false_eq_true, if_false]
  have e (x : Int) : sgn (x % 65536) = x % 65536 := by unfold sgn; rw [if_pos (by omega)]
  rw [e, e]
theorem low_high (a : Int) (h0 : 0 ≤ a) (h1 : a < 4294967296) : low (a / 4294967296) = 0 := by unfold low; omega
theorem sgn_high (a : Int) (h0 : 0 ≤ a) (h1 : a < 4294967296) : low (sgn a / 4294967296) = if a < 2147483648 then 0 else 4294967295 := by unfold low sgn; split <;> omega
theorem sgn_low (a : Int) (h0 : 0 ≤ a) (h1 : a < 4294967296) : low (sgn a) = a := by unfold low sgn; split <;> omega
/-! differences, both ways about -/
theorem opp1 (a b : Int) : low (low (a - b - one false) + low (b - a - one false) + one false) = 0 := by simp only [one, low, Bool.false_eq_true, if_false]; omega
theorem opp2 (a b : Int) (h0 : 0 ≤ a) (h1 : a < 4294967296) (h2 : 0 ≤ b) (h3 : b < 4294967296) : over (low (a - b - one false) + low (b - a - one false) + one false) = (a != b) := by
  by_cases h : a = b
  · subst h; simp [one, low, over]
  · have e : (a != b) = true := by rw [bne_iff_ne]; exact h
    rw [e]; simp only [one, low, over, Bool.false_eq_true, if_false, decide_eq_true_eq]; omega
theorem opp3 (a : Int) (h0 : 0 ≤ a) (h1 : a < 4294967296) : low (0 - low (0 - a - one false) - one false) = a := by simp only [one, low, Bool.false_eq_true, if_false]; omega
theorem opp4 (a : Int) (h0 : 0 ≤ a) : neg (0 - a - one false) = (a != 0) := by
  by_cases h : a = 0
  · subst h; rfl
  · have e : (a != 0) = true := by rw [bne_iff_ne]; exact h
    rw [e]; simp only [one, neg, Bool.false_eq_true, if_false, decide_eq_true_eq]; omega
theorem opp5 (a b : Int) : low (low (a - b - one true) + 1 + one false) = low (a - b - one false) := by simp only [one, low, Bool.false_eq_true, if_false, if_true]; omega
theorem opp6 (a b : Int) : neg (a - b - one true) = decide (a ≤ b) := by simp only [one, neg, if_true]; rw [decide_eq_decide]; omega
theorem opp7 (a b : Int) : neg (a - b - one false) = decide (a < b) := by simp only [one, neg, Bool.false_eq_true, if_false]; rw [decide_eq_decide]; omega

/-! quotients -/
theorem and30 (b : Int) (h0 : 0 ≤ b) (h1 : b < 4294967296) : bits .and .u32 b 1073741823 = b % 1073741824 := by
  rw [u32_and b 1073741823 h0 h1 (by decide) (by decide)]
  have : (1073741823 : Int).toNat = 2 ^ 30 - 1 := by decide
  rw [this, Nat.and_two_pow_sub_one_eq_mod]
  omega
theorem sgn_id (a : Int) (h : a < 2147483648) : sgn a = a := by unfold sgn; rw [if_pos h]
theorem low_id (a : Int) (h0 : 0 ≤ a) (h1 : a < 4294967296) : low a = a := by unfold low; omega
theorem div_small (a d : Int) (h0 : 0 ≤ a) (h1 : a < 2147483648) (d0 : 0 < d) (d1 : d < 2147483648) : low (sgn a / sgn d) = a / d ∧ low (sgn a % sgn d) = a % d := by
  rw [sgn_id a h1, sgn_id d d1]
  have q0 : 0 ≤ a / d := Int.ediv_nonneg h0 (by omega)
  have q1 : a / d ≤ a := Int.ediv_le_self _ h0
  have r0 := Int.emod_nonneg a (b := d) (by omega)
  have r1 := Int.emod_lt_of_pos a d0
  exact ⟨low_id _ q0 (by omega), low_id _ r0 (by omega)⟩
theorem div_one (a : Int) (h0 : 0 ≤ a) (h1 : a < 4294967296) : low (sgn a / sgn 1) = a ∧ low (sgn a % sgn 1) = 0 := by
  rw [sgn_id 1 (by decide), Int.ediv_one, Int.emod_one]; exact ⟨sgn_low a h0 h1, rfl⟩

/-! numbers of 64 bits by halves -/
theorem join64 (h l : Int) (h0 : 0 ≤ h) (h1 : h < 4294967296) (l0 : 0 ≤ l) (l1 : l < 4294967296) : bits .or .u64 (h * 4294967296) l = h * 4294967296 + l := by
  rw [u64_or _ _ (by omega) (by omega) l0 (by omega), nat_join 32 _ _ (by omega) (by omega)]; omega
theorem long_add (a b : Int) (c : Bool) (hc : over (a % 4294967296 + b % 4294967296 + one false) = c) (h0 : 0 ≤ a) (h1 : a ≤ 18446744073709551615) (h2 : 0 ≤ b) (h3 : b ≤ 18446744073709551615) :
    low (a / 4294967296 + b / 4294967296 + one c) * 4294967296 + low (a % 4294967296 + b % 4294967296 + one false) = IntKind.u64.wrap (a + b) ∧ over (a / 4294967296 + b / 4294967296 + one c) = decide (IntKind.u64.wrap (a + b) < a) := by
  rw [IntKind.wrap_u64]
  cases c
  · simp only [over, one, low, Bool.false_eq_true, if_false, decide_eq_false_iff_not, decide_eq_decide] at *
    constructor <;> omega
  · simp only [over, one, low, Bool.false_eq_true, if_false, if_true, decide_eq_true_eq, decide_eq_decide] at *
    constructor <;> omega
theorem long_sub (a b : Int) (c : Bool) (hc : neg (a % 4294967296 - b % 4294967296 - one false) = c) (h0 : 0 ≤ a) (h1 : a ≤ 18446744073709551615) (h2 : 0 ≤ b) (h3 : b ≤ 18446744073709551615) :
    low (a / 4294967296 - b / 4294967296 - one c) * 4294967296 + low (a % 4294967296 - b % 4294967296 - one false) = IntKind.u64.wrap (a - b) ∧ neg (a / 4294967296 - b / 4294967296 - one c) = decide (a < b) := by
  rw [IntKind.wrap_u64]
  cases c
  · simp only [neg, one, low, Bool.false_eq_true, if_false, decide_eq_false_iff_not, decide_eq_decide] at *
    constructor <;> omega
  · simp only [neg, one, low, Bool.false_eq_true, if_false, if_true, decide_eq_true_eq, decide_eq_decide] at *
    constructor <;> omega
end Go.Proofs.Ytpfgmfiegnkocaa.W
