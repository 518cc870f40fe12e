/-
  The contracts of package memory: SetWord, SetByte, Place, Words.
-/
import Derived.Laws.CopyOwn
import Derived.Test.YtpfgmfiegnkocaaM09
namespace Go.Proofs.Ytpfgmfiegnkocaa
open Go.RowKit
variable {tyM : TypeId} {tlM : List Value}
set_option linter.unusedVariables false
set_option linter.unusedSimpArgs false
set_option maxRecDepth 100000
/-- copy into a block that is known -/
theorem copy_has {P : Program} {w : World} {ops : Array Oper} {rest : List Oper} {o : Oper} {a : Act} {Q : Exit → Act → World → Prop} (hgd : o.guard = none) (d s : Operand) (dT sT : TypeId)
    (ho : o.op = .call { callee := .builtin .copy, args := #[d, s], argTypes := #[dT, sT] }) (elem : TypeId) (hu : P.underlying dT = some (.slice elem)) (hsz : (P.info? elem).map (·.size) = some 1)
    (dp sp : Option Addr) (dLen dCap sLen sCap : Nat) (hd : a.eval d = .slice dp dLen dCap) (hs : a.eval s = .slice sp sLen sCap)
    (g off : Nat) (cur : Array Value) (t : TypeId) (hg : Has g cur t w) (cs : List Value) (hn : cs.length = Nat.min sLen dLen)
    (hpos : 0 < cs.length → dp = some ⟨g, off, none⟩ ∧ ∃ ad, sp = some ad ∧ ∀ (j : Nat) (v : Value), cs[j]? = some v → w.cell? (ad.add j) = some v)
    (hfit : off + cs.length ≤ cur.size) (h1 : ∀ v ∈ cs, v.oneCell' = true)
    (h : wpList P ops Q rest (a.put o.dst (goInt cs.length)) (w.setRow g (cur.toList.take off ++ cs ++ cur.toList.drop (off + cs.length)).toArray)) : wpList P ops Q (o :: rest) a w := by
  by_cases h0 : cs.length = 0
  · obtain rfl : cs = [] := List.eq_nil_of_length_eq_zero h0
    refine wpList_copy_nothing hgd d s dT sT ho elem hu hsz dp sp dLen dCap sLen sCap hd hs (by simpa using hn.symm) ?_
    have e : (cur.toList.take off ++ ([] : List Value) ++ cur.toList.drop (off + ([] : List Value).length)).toArray = cur := by simp
    rw [e, setRow_self w g cur t (0, 0) hg] at h
    exact h
  · obtain ⟨rfl, ad, rfl, hsrc⟩ := hpos (by omega)
    refine wpList_copy_own hgd d s dT sT ho elem hu hsz g off dLen dCap ad sLen sCap hd hs cur t hg cs hn hsrc hfit h1 ?_
    rw [List.append_assoc] at h
    exact h
/-- the words behind SetWord, SetByte -/
def M.setW (ws : List Int) (a x : Int) : List Int := if M.wt ws a = 0 then ws.set (a / 4).toNat x else ws
def M.mix (y a x : Int) : Int := y - y / 2 ^ (8 * (a % 4)).toNat % 256 * 2 ^ (8 * (a % 4)).toNat + x * 2 ^ (8 * (a % 4)).toNat
def M.setB (ws : List Int) (a x : Int) : List Int := if M.bt ws a = 0 then ws.set (a / 4).toNat (M.mix (ws.getD (a / 4).toNat 0) a x) else ws
theorem M.mask_bit (k i : Nat) (hk : k ≤ 24) : (4294967295 - 255 * 2 ^ k).testBit i = (decide (i < k) || (decide (k + 8 ≤ i) && decide (i < 32))) := by
  have e : 4294967295 - 255 * 2 ^ k = 2 ^ k * (2 ^ 8 * (2 ^ (24 - k) - 1) + 0) + (2 ^ k - 1) := by
    have h1 : 2 ^ k * (2 ^ 8 * 2 ^ (24 - k)) = 4294967296 := by rw [← Nat.pow_add, ← Nat.pow_add, show k + (8 + (24 - k)) = 32 by omega]
    have h2 : 1 ≤ 2 ^ (24 - k) := Nat.one_le_two_pow
    have h3 : 1 ≤ 2 ^ k := Nat.one_le_two_pow
    rw [show (2 : Nat) ^ 8 = 256 from rfl] at h1 ⊢
    generalize 2 ^ (24 - k) = Q at *
    generalize 2 ^ k = P at *
    rw [Nat.add_zero, Nat.mul_sub, Nat.mul_sub, h1]
    have h4 : P * 256 ≤ P * (256 * Q) := Nat.mul_le_mul_left _ (by omega)
    omega
  rw [e, Nat.testBit_two_pow_mul_add _ (by have : 1 ≤ 2 ^ k := Nat.one_le_two_pow; omega), Nat.testBit_two_pow_mul_add _ (by decide), Nat.testBit_two_pow_sub_one, Nat.testBit_two_pow_sub_one]
  by_cases c1 : i < k
  · simp [c1]
  · by_cases c2 : i - k < 8
    · simp [c1, c2, show ¬ k + 8 ≤ i by omega]
    · simp only [c1, c2, if_false, show k + 8 ≤ i by omega, decide_true, decide_false, Bool.true_and, Bool.false_or]
      rw [decide_eq_decide]; omega
theorem M.put_bits (y x k : Nat) (hk : k ≤ 24) (hy : y < 4294967296) (hx : x < 256) : (y &&& (4294967295 - 255 * 2 ^ k)) ||| (x * 2 ^ k) = y - y / 2 ^ k % 256 * 2 ^ k + x * 2 ^ k := by
  have e : y - y / 2 ^ k % 256 * 2 ^ k + x * 2 ^ k = 2 ^ k * (2 ^ 8 * (y / 2 ^ k / 256) + x) + y % 2 ^ k := by
    have h1 := Nat.div_add_mod y (2 ^ k)
    have h2 := Nat.div_add_mod (y / 2 ^ k) 256
    have h3 : 2 ^ k * (y / 2 ^ k) = 2 ^ k * (256 * (y / 2 ^ k / 256)) + 2 ^ k * (y / 2 ^ k % 256) := by rw [← Nat.mul_add, h2]
    rw [Nat.mul_add, Nat.mul_comm x, Nat.mul_comm (y / 2 ^ k % 256), show (2 : Nat) ^ 8 = 256 from rfl]
    generalize 2 ^ k * (y / 2 ^ k % 256) = A1 at *
    generalize 2 ^ k * (256 * (y / 2 ^ k / 256)) = A2 at *
    generalize 2 ^ k * (y / 2 ^ k) = A3 at *
    generalize y % 2 ^ k = A4 at *
    generalize 2 ^ k * x = A5 at *
    clear h2
    omega
  rw [e]
  apply Nat.eq_of_testBit_eq
  intro i
  rw [Nat.testBit_two_pow_mul_add _ (Nat.mod_lt _ (Nat.two_pow_pos k)), Nat.testBit_two_pow_mul_add _ (show x < 2 ^ 8 by omega), Nat.testBit_or, Nat.testBit_and, M.mask_bit k i hk, Nat.testBit_mod_two_pow, Nat.mul_comm x, Nat.testBit_two_pow_mul]
  by_cases c1 : i < k
  · simp [c1, show ¬ k ≤ i by omega]
  · by_cases c2 : i - k < 8
    · simp [c1, c2, show ¬ k + 8 ≤ i by omega, show k ≤ i by omega]
    · have hxb : x.testBit (i - k) = false := Nat.testBit_lt_two_pow (Nat.lt_of_lt_of_le hx (show 2 ^ 8 ≤ 2 ^ (i - k) from Nat.pow_le_pow_right (by decide) (by omega)))
      have hyb : y.testBit i = (y / 2 ^ k / 256).testBit (i - k - 8) := by
        rw [Nat.div_div_eq_div_mul, show 2 ^ k * 256 = 2 ^ (k + 8) by rw [Nat.pow_add], Nat.testBit_div_two_pow, show i - k - 8 + (k + 8) = i by omega]
      simp only [c1, c2, if_false, show k + 8 ≤ i by omega, decide_true, decide_false, Bool.true_and, Bool.false_or, hxb, Bool.and_false, Bool.or_false]
      rw [← hyb]
      by_cases c3 : i < 32
      · simp [c3]
      · have : y.testBit i = false := Nat.testBit_lt_two_pow (Nat.lt_of_lt_of_le hy (show 2 ^ 32 ≤ 2 ^ i from Nat.pow_le_pow_right (by decide) (by omega)))
        simp [this]
theorem M.put (y a x : Int) (h0 : 0 ≤ a) (x0 : 0 ≤ x) (x1 : x < 256) (y0 : 0 ≤ y) (y1 : y < 4294967296) :
    bits .or .u32 (bits .andNot .u32 y (255 * 2 ^ (8 * (a % 4)).toNat % 4294967296)) (x * 2 ^ (8 * (a % 4)).toNat % 4294967296) = M.mix y a x := by
  unfold M.mix
  obtain ⟨k, hk⟩ : ∃ k : Nat, k = (8 * (a % 4)).toNat := ⟨_, rfl⟩
  rw [← hk]
  have hk4 : k = 0 ∨ k = 8 ∨ k = 16 ∨ k = 24 := by omega
  have hk24 : k ≤ 24 := by omega
  clear hk
  obtain ⟨y, rfl⟩ := Int.eq_ofNat_of_zero_le y0
  obtain ⟨x, rfl⟩ := Int.eq_ofNat_of_zero_le x0
  have p1 : (2 : Int) ^ k ≤ 16777216 := by rcases hk4 with rfl | rfl | rfl | rfl <;> decide
  have p0 : (1 : Int) ≤ 2 ^ k := by rcases hk4 with rfl | rfl | rfl | rfl <;> decide
  have e2 : ((2 : Int) ^ k) = ((2 ^ k : Nat) : Int) := by rw [Int.natCast_pow]; rfl
  have px : (x : Int) * 2 ^ k < 4294967296 := by
    have : (x : Int) * 2 ^ k ≤ 255 * 2 ^ k := Int.mul_le_mul_of_nonneg_right (by omega) (by omega)
    omega
  have px0 : 0 ≤ (x : Int) * 2 ^ k := Int.mul_nonneg (by omega) (by omega)
  rw [Int.emod_eq_of_lt px0 px, Int.emod_eq_of_lt (by omega) (by omega)]
  rw [show (255 : Int) * 2 ^ k = ((255 * 2 ^ k : Nat) : Int) by rw [Int.natCast_mul, ← e2]; rfl, show (x : Int) * 2 ^ k = ((x * 2 ^ k : Nat) : Int) by rw [Int.natCast_mul, ← e2]]
  have q1 : 255 * 2 ^ k < 4294967296 := by rcases hk4 with rfl | rfl | rfl | rfl <;> decide
  have q2 : x * 2 ^ k < 4294967296 := Nat.lt_of_le_of_lt (Nat.mul_le_mul_right _ (by omega : x ≤ 255)) q1
  rw [u32_andNot_nat y _ (by omega) q1, u32_or_nat _ _ (Nat.lt_of_le_of_lt Nat.and_le_left (by omega)) q2, M.put_bits y x k hk24 (by omega) (by omega)]
  have hle : y / 2 ^ k % 256 * 2 ^ k ≤ y := Nat.le_trans (Nat.mul_le_mul_right _ (Nat.mod_le _ _)) (Nat.div_mul_le_self _ _)
  rw [e2, Int.natCast_add, Int.natCast_sub hle, Int.natCast_mul, Int.natCast_mul, Int.natCast_emod, Int.natCast_ediv]
  rfl
theorem M.mix_range (y a x : Int) (h0 : 0 ≤ a) (x0 : 0 ≤ x) (x1 : x < 256) (y0 : 0 ≤ y) (y1 : y < 4294967296) : 0 ≤ M.mix y a x ∧ M.mix y a x < 4294967296 := by
  unfold M.mix
  have : a % 4 = 0 ∨ a % 4 = 1 ∨ a % 4 = 2 ∨ a % 4 = 3 := by omega
  rcases this with h | h | h | h <;> rw [h] <;> simp only [show (8 * (0 : Int)).toNat = 0 from rfl, show (8 * (1 : Int)).toNat = 8 from rfl, show (8 * (2 : Int)).toNat = 16 from rfl, show (8 * (3 : Int)).toNat = 24 from rfl] <;> omega
theorem M.mix_byte (y a x : Int) (j : Nat) (hj : j < 4) (h0 : 0 ≤ a) (x0 : 0 ≤ x) (x1 : x < 256) (y0 : 0 ≤ y) (y1 : y < 4294967296) : M.mix y a x / 2 ^ (8 * j) % 256 = if a % 4 = j then x else y / 2 ^ (8 * j) % 256 := by
  have h4 : a % 4 = 0 ∨ a % 4 = 1 ∨ a % 4 = 2 ∨ a % 4 = 3 := by omega
  have hj4 : j = 0 ∨ j = 1 ∨ j = 2 ∨ j = 3 := by omega
  have p0 : (8 * (0 : Int)).toNat = 0 := rfl
  have p1 : (8 * (1 : Int)).toNat = 8 := rfl
  have p2 : (8 * (2 : Int)).toNat = 16 := rfl
  have p3 : (8 * (3 : Int)).toNat = 24 := rfl
  by_cases c : a % 4 = j
  · rw [if_pos c]
    unfold M.mix
    rw [c]
    rcases hj4 with rfl | rfl | rfl | rfl
    · show (y - y / 2 ^ 0 % 256 * 2 ^ 0 + x * 2 ^ 0) / 2 ^ 0 % 256 = x; omega
    · show (y - y / 2 ^ 8 % 256 * 2 ^ 8 + x * 2 ^ 8) / 2 ^ 8 % 256 = x; omega
    · show (y - y / 2 ^ 16 % 256 * 2 ^ 16 + x * 2 ^ 16) / 2 ^ 16 % 256 = x; omega
    · show (y - y / 2 ^ 24 % 256 * 2 ^ 24 + x * 2 ^ 24) / 2 ^ 24 % 256 = x; omega
  · rw [if_neg c]
    unfold M.mix
    rcases h4 with h | h | h | h <;> rw [h] at c ⊢
    · rw [p0]; rcases hj4 with rfl | rfl | rfl | rfl
      · omega
      · show (y - y / 2 ^ 0 % 256 * 2 ^ 0 + x * 2 ^ 0) / 2 ^ 8 % 256 = y / 2 ^ 8 % 256; omega
      · show (y - y / 2 ^ 0 % 256 * 2 ^ 0 + x * 2 ^ 0) / 2 ^ 16 % 256 = y / 2 ^ 16 % 256; omega
      · show (y - y / 2 ^ 0 % 256 * 2 ^ 0 + x * 2 ^ 0) / 2 ^ 24 % 256 = y / 2 ^ 24 % 256; omega
    · rw [p1]; rcases hj4 with rfl | rfl | rfl | rfl
      · show (y - y / 2 ^ 8 % 256 * 2 ^ 8 + x * 2 ^ 8) / 2 ^ 0 % 256 = y / 2 ^ 0 % 256; omega
      · omega
      · show (y - y / 2 ^ 8 % 256 * 2 ^ 8 + x * 2 ^ 8) / 2 ^ 16 % 256 = y / 2 ^ 16 % 256; omega
      · show (y - y / 2 ^ 8 % 256 * 2 ^ 8 + x * 2 ^ 8) / 2 ^ 24 % 256 = y / 2 ^ 24 % 256; omega
    · rw [p2]; rcases hj4 with rfl | rfl | rfl | rfl
      · show (y - y / 2 ^ 16 % 256 * 2 ^ 16 + x * 2 ^ 16) / 2 ^ 0 % 256 = y / 2 ^ 0 % 256; omega
      · show (y - y / 2 ^ 16 % 256 * 2 ^ 16 + x * 2 ^ 16) / 2 ^ 8 % 256 = y / 2 ^ 8 % 256; omega
      · omega
      · show (y - y / 2 ^ 16 % 256 * 2 ^ 16 + x * 2 ^ 16) / 2 ^ 24 % 256 = y / 2 ^ 24 % 256; omega
    · rw [p3]; rcases hj4 with rfl | rfl | rfl | rfl
      · show (y - y / 2 ^ 24 % 256 * 2 ^ 24 + x * 2 ^ 24) / 2 ^ 0 % 256 = y / 2 ^ 0 % 256; omega
      · show (y - y / 2 ^ 24 % 256 * 2 ^ 24 + x * 2 ^ 24) / 2 ^ 8 % 256 = y / 2 ^ 8 % 256; omega
      · show (y - y / 2 ^ 24 % 256 * 2 ^ 24 + x * 2 ^ 24) / 2 ^ 16 % 256 = y / 2 ^ 16 % 256; omega
      · omega
end Go.Proofs.Ytpfgmfiegnkocaa
