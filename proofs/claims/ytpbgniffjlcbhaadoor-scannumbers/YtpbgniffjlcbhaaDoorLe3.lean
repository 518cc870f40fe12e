/-
  The contracts of the document's Put; of Take, the program's and the document's.
-/
import Derived.Test.YtpbgniffjlcbhaaDoorLe2
import Derived.Laws.BitsAllLaws
namespace Go.Proofs.YtpbgniffjlcbhaaDoor
open Go.RowKit
set_option linter.unusedVariables false
set_option linter.unusedSimpArgs false
set_option maxRecDepth 100000
theorem L.shift (x : Int) (k : Nat) : x / 2 ^ (8 * k) / 256 = x / 2 ^ (8 * (k + 1)) := by
  rw [Int.ediv_ediv_of_nonneg (Int.le_of_lt (Int.pow_pos (by decide))), show (256 : Int) = 2 ^ 8 from rfl, ← Int.pow_add, show 8 * k + 8 = 8 * (k + 1) by omega]
theorem L.bounds (x : Int) (k : Nat) (x0 : 0 ≤ x) (x1 : x < 4294967296) : 0 ≤ x / 2 ^ (8 * k) ∧ x / 2 ^ (8 * k) < 4294967296 := by
  have p : (0 : Int) < 2 ^ (8 * k) := Int.pow_pos (by decide)
  refine ⟨Int.ediv_nonneg x0 (Int.le_of_lt p), ?_⟩
  exact Int.lt_of_le_of_lt (Int.ediv_le_self _ x0) x1
/-- a word's lowest j bytes -/
def L.acc (bs : List Int) (p : Nat) : Nat → Int
  | 0 => 0
  | j + 1 => L.acc bs p j + bs.getD (p + j) 0 * 2 ^ (8 * j)
theorem L.acc_word (bs : List Int) (p : Nat) : L.acc bs p 4 = L.word bs p := by
  unfold L.word
  simp only [L.acc, Nat.add_zero]
  omega
theorem L.byt_getD {bs : List Int} (hb : L.Byt bs) (q : Nat) : 0 ≤ bs.getD q 0 ∧ bs.getD q 0 < 256 := by
  rw [List.getD_eq_getElem?_getD]
  cases h : bs[q]? with
  | none => simp
  | some x => exact hb x (List.mem_of_getElem? h)
theorem L.acc_rng (bs : List Int) (hb : L.Byt bs) (p : Nat) : ∀ j, j ≤ 4 → 0 ≤ L.acc bs p j ∧ L.acc bs p j < ((2 ^ (8 * j) : Nat) : Int) := by
  have k0 := L.byt_getD hb (p + 0)
  have k1 := L.byt_getD hb (p + 1)
  have k2 := L.byt_getD hb (p + 2)
  have k3 := L.byt_getD hb (p + 3)
  intro j hj
  match j, hj with
  | 0, _ => simp [L.acc]
  | 1, _ => simp only [L.acc]; omega
  | 2, _ => simp only [L.acc]; omega
  | 3, _ => simp only [L.acc]; omega
  | 4, _ => simp only [L.acc]; omega
theorem L.or_acc (a y : Int) (j : Nat) (hj : j < 4) (a0 : 0 ≤ a) (a1 : a < ((2 ^ (8 * j) : Nat) : Int)) (y0 : 0 ≤ y) (y1 : y < 256) : bits .or .u32 a (y * 2 ^ (8 * j) % 4294967296) = a + y * 2 ^ (8 * j) := by
  obtain ⟨A, rfl⟩ := Int.eq_ofNat_of_zero_le a0
  obtain ⟨Y, rfl⟩ := Int.eq_ofNat_of_zero_le y0
  have hp : 2 ^ (8 * j) ≤ 16777216 := Nat.pow_le_pow_right (n := 2) (by decide) (show 8 * j ≤ 24 by omega)
  have hp0 : 0 < 2 ^ (8 * j) := Nat.two_pow_pos _
  have e : ((Y : Int) * 2 ^ (8 * j)) = ((Y * 2 ^ (8 * j) : Nat) : Int) := by rw [Int.natCast_mul, Int.natCast_pow]; rfl
  have hA : A < 2 ^ (8 * j) := Int.ofNat_lt.1 a1
  have hm : Y * 2 ^ (8 * j) ≤ 255 * 16777216 := Nat.mul_le_mul (by omega) hp
  rw [e, Int.emod_eq_of_lt (by omega) (by omega)]
  rw [u32_or_nat _ _ (by omega) (by omega), Nat.or_comm, nat_join (8 * j) _ _ (Nat.mul_mod_left _ _) hA]
  omega
theorem L.words_step (bs : List Int) (i n : Nat) (hi : i < n) : (L.words bs i ++ List.replicate (n - i) 0).set i (L.word bs (4 * i)) = L.words bs (i + 1) ++ List.replicate (n - (i + 1)) 0 := by
  have hl : (L.words bs i).length = i := by simp [L.words]
  rw [List.set_append_right _ _ (by omega), hl, Nat.sub_self, show n - i = (n - (i + 1)) + 1 by omega, List.replicate_succ, List.set_cons_zero]
  rw [show L.words bs (i + 1) = L.words bs i ++ [L.word bs (4 * i)] by simp [L.words, List.range_succ], List.append_assoc]
  rfl
theorem L.tk_no {bs : List Int} {n : Int} (h : n < 0 ∨ ((bs.length / 4 : Nat) : Int) < n) : L.tkE bs n = 3 ∧ L.tkW bs n = [] := by
  unfold L.tkE L.tkW
  rw [if_pos h, if_pos h]; exact ⟨rfl, rfl⟩
theorem L.tk_yes {bs : List Int} {n : Nat} (h : n ≤ bs.length / 4) : L.tkE bs n = 0 ∧ L.tkW bs n = L.words bs n := by
  unfold L.tkE L.tkW
  have h2 : ¬ ((n : Int) < 0 ∨ ((bs.length / 4 : Nat) : Int) < n) := by omega
  rw [if_neg h2, if_neg h2]; exact ⟨rfl, rfl⟩
/-- a word's highest j bytes -/
def L.hi (bs : List Int) (p : Nat) : Nat → Int
  | 0 => 0
  | j + 1 => L.hi bs p j * 256 + bs.getD (p + (3 - j)) 0
theorem L.hi_word (bs : List Int) (p : Nat) : L.hi bs p 4 = L.word bs p := by
  unfold L.word
  simp only [L.hi, Nat.add_zero, Nat.sub_self, Nat.sub_zero, show 3 - 1 = 2 from rfl, show 3 - 2 = 1 from rfl]
  omega
theorem L.hi_rng (bs : List Int) (hb : L.Byt bs) (p : Nat) (j : Nat) (hj : j < 4) : 0 ≤ L.hi bs p j ∧ L.hi bs p j < 16777216 := by
  have k1 := L.byt_getD hb (p + 1)
  have k2 := L.byt_getD hb (p + 2)
  have k3 := L.byt_getD hb (p + 3)
  match j, hj with
  | 0, _ => simp [L.hi]
  | 1, _ => simp only [L.hi, Nat.sub_zero]; omega
  | 2, _ => simp only [L.hi, Nat.sub_zero, show 3 - 1 = 2 from rfl]; omega
  | 3, _ => simp only [L.hi, Nat.sub_zero, show 3 - 1 = 2 from rfl, show 3 - 2 = 1 from rfl]; omega
theorem L.words_more (bs : List Int) (i : Nat) : L.words bs i ++ [L.word bs (4 * i)] = L.words bs (i + 1) := by simp [L.words, List.range_succ]
end Go.Proofs.YtpbgniffjlcbhaaDoor
