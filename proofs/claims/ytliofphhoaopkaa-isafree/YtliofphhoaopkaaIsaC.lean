/-
  The law IsaFree: each word that moves something between a register and the memory, and each one that branches by a number, is an instruction.
-/
import Derived.Test.YtliofphhoaopkaaIsaB
namespace Go.Proofs.Ytliofphhoaopkaa
open Go.RowKit
set_option linter.unusedVariables false
set_option linter.unusedSimpArgs false
namespace I
theorem sx_lo (n x : Int) (h : 0 ≤ x) (h' : x < 2 * n) : -n ≤ sx n x := by unfold sx; split <;> omega
theorem sx_hi (n x : Int) (h : 0 ≤ x) (h' : x < 2 * n) : sx n x < n := by unfold sx; split <;> omega
theorem sx_mod (n x : Int) (h : 0 ≤ x) (h' : x < 2 * n) : sx n x % (2 * n) = x := by
  unfold sx; split
  · exact Int.emod_eq_of_lt h h'
  · rw [Int.sub_emod_right]; exact Int.emod_eq_of_lt h h'
theorem free5 (y : Int) (h : y / 1073741824 = 2) : guess y = ⟨5, y / 268435456 % 4, y / 16777216 % 16, y / 1048576 % 16, 0, sx 524288 (y % 1048576), false⟩ := by
  unfold guess; rw [if_neg (by omega), if_neg (by omega), if_pos h]
theorem is5 (y : Int) (h : y / 1073741824 = 2) : is y = true := by
  have s0 := sx_lo 524288 (y % 1048576) (by omega) (by omega)
  have s1 := sx_hi 524288 (y % 1048576) (by omega) (by omega)
  have s2 := sx_mod 524288 (y % 1048576) (by omega) (by omega)
  have hm : May ⟨5, y / 268435456 % 4, y / 16777216 % 16, y / 1048576 % 16, 0, sx 524288 (y % 1048576), false⟩ := by
    unfold May
    dsimp only
    generalize sx 524288 (y % 1048576) = S at *
    refine ⟨by omega, Or.inr (Or.inr (Or.inr (Or.inl ⟨rfl, by omega, by omega, rfl, by omega, by omega, rfl⟩)))⟩
  unfold is
  rw [free5 y h]
  rw [show may _ = true from decide_eq_true hm]
  simp [word]
  generalize sx 524288 (y % 1048576) = S at *
  simp only [Int.reduceMul] at s2
  omega
theorem free7 (y : Int) (h : y / 536870912 = 7) : guess y = ⟨7, y / 16777216 % 16, 0, 0, 0, sx 8388608 (y % 16777216), decide (y / 268435456 % 2 = 1)⟩ := by
  unfold guess; rw [if_neg (by omega), if_neg (by omega), if_neg (by omega), if_pos (by omega)]
theorem is7 (y : Int) (h : y / 536870912 = 7) : is y = true := by
  have s0 := sx_lo 8388608 (y % 16777216) (by omega) (by omega)
  have s1 := sx_hi 8388608 (y % 16777216) (by omega) (by omega)
  have s2 := sx_mod 8388608 (y % 16777216) (by omega) (by omega)
  have hm : May ⟨7, y / 16777216 % 16, 0, 0, 0, sx 8388608 (y % 16777216), decide (y / 268435456 % 2 = 1)⟩ := by
    unfold May
    dsimp only
    generalize sx 8388608 (y % 16777216) = S at *
    refine ⟨by omega, Or.inr (Or.inr (Or.inr (Or.inr (Or.inr ⟨rfl, by omega, by omega, rfl, rfl, rfl, by omega, by omega⟩))))⟩
  unfold is
  rw [free7 y h]
  rw [show may _ = true from decide_eq_true hm]
  have hb : bit (decide (y / 268435456 % 2 = 1)) = y / 268435456 % 2 := by
    by_cases q : y / 268435456 % 2 = 1
    · rw [decide_eq_true q, q]; rfl
    · rw [decide_eq_false q]; show (0 : Int) = _; omega
  simp [word]
  rw [hb]
  generalize sx 8388608 (y % 16777216) = S at *
  simp only [Int.reduceMul] at s2
  omega
theorem and_mask (x : Int) (hx : U32 x) (n : Nat) (M : Int) (hn : n ≤ 32) (hM : M = ((2 ^ n - 1 : Nat) : Int)) : bits .and .u32 x M = x % ((2 ^ n : Nat) : Int) := by
  obtain ⟨W, rfl⟩ := Int.eq_ofNat_of_zero_le hx.1
  have hW : W < 4294967296 := by have := hx.2; omega
  have hp : 2 ^ n ≤ 4294967296 := F.pow_le32 n hn
  have hq : 1 ≤ 2 ^ n := Nat.one_le_two_pow
  subst hM
  rw [u32_and_nat _ _ hW (by omega), Nat.and_two_pow_sub_one_eq_mod]
  omega
theorem or_top (a c : Int) (k : Nat) (ha0 : 0 ≤ a) (ha : a < ((2 ^ k : Nat) : Int)) (hc0 : 0 ≤ c) (hc : c < 4294967296) (hcm : c % ((2 ^ k : Nat) : Int) = 0) (hk : k ≤ 32) : bits .or .u32 a c = a + c := by
  obtain ⟨A, rfl⟩ := Int.eq_ofNat_of_zero_le ha0
  obtain ⟨C, rfl⟩ := Int.eq_ofNat_of_zero_le hc0
  have hp : 2 ^ k ≤ 4294967296 := F.pow_le32 k hk
  rw [u32_or_nat _ _ (by omega) (by omega), Nat.or_comm, nat_join k C A (by omega) (by omega)]
  omega
end I
set_option maxRecDepth 100000 in
set_option maxHeartbeats 2000000 in
theorem walk_Free_at (x o1 a1 b1 i1 m1 o2 i2 m2 y1 y2 : Int) (v2 : Bool) (hx : U32 x) (w : World)
    (E1 : bits .or .u32 (bits .and .u32 x 1073741823) 2147483648 = y1) (E2 : bits .or .u32 (bits .and .u32 x 536870911) 3758096384 = y2)
    (C1 : Hid (∀ w, Calls Try.prog 14 #[.int .u32 y1] w fun e w' => e = .returned (.tuple #[.agg #[.int .i64 5, .int .i64 o1, .int .i64 a1, .int .i64 b1, .int .i64 0, .int .i64 i1, .bool false], .bool true]) ∧ Kept w w'))
    (C2 : Hid (∀ w, Calls Try.prog 14 #[.int .u32 y2] w fun e w' => e = .returned (.tuple #[.agg #[.int .i64 7, .int .i64 o2, .int .i64 0, .int .i64 0, .int .i64 0, .int .i64 i2, .bool v2], .bool true]) ∧ Kept w w'))
    (E3 : bits .and .u32 (x / 268435456) 3 = o1) (o10 : 0 ≤ o1) (o11 : o1 ≤ 3) (E4 : bits .and .u32 (i1 % 4294967296) 1048575 = m1) (E5 : bits .and .u32 x 1048575 = m1)
    (E6 : (bits .and .u32 (x / 268435456) 1 == 1) = v2) (E7 : bits .and .u32 (x / 16777216) 15 = o2) (o20 : 0 ≤ o2) (o21 : o2 ≤ 15)
    (E8 : bits .and .u32 (i2 % 4294967296) 16777215 = m2) (E9 : bits .and .u32 x 16777215 = m2)
    (i10 : -524288 ≤ i1) (i11 : i1 < 524288) (i20 : -8388608 ≤ i2) (i21 : i2 < 8388608) :
    Calls Try.prog 10 #[.int .u32 x] w fun e w' => e = .returned (.bool true) ∧ Below w.heap.size w w' := by
  go_enter Try.func10, Try.ntmps10
  go_wp2_with fail
  refine (shown_any _).mono ?_; rintro e w0 ⟨rfl, hK0⟩
  go_wp2_with fail
  refine (C1.out _).mono ?_; rintro e w1 ⟨rfl, hK1⟩
  have X1 := Lib.hid (Box.new 5 o1 a1 b1 0 i1 false w1)
  go_wp2_with fail
  refine (C2.out _).mono ?_; rintro e w2 ⟨rfl, hK2⟩
  have XI := Lib.hid (((X1.out).kept hK2).alloc (.cells #[.int .i64 7, .int .i64 o2, .int .i64 0, .int .i64 0, .int .i64 0, .int .i64 i2, .bool v2] 23))
  have XJ := Lib.hid (Box.new 7 o2 0 0 0 i2 v2 w2)
  have HK := Lib.hid ((((hK0.trans hK1).alloc #[.int .i64 5, .int .i64 o1, .int .i64 a1, .int .i64 b1, .int .i64 0, .int .i64 i1, .bool false] 23).trans hK2).alloc #[.int .i64 7, .int .i64 o2, .int .i64 0, .int .i64 0, .int .i64 0, .int .i64 i2, .bool v2] 23)
  clear hK0 hK1 hK2 E1 E2 X1
  go_upto_region 4 with (fail)
  have XI := XI.out
  have XJ := XJ.out
  have HK := HK.out
  generalize (w2.alloc (.cells #[.int .i64 7, .int .i64 o2, .int .i64 0, .int .i64 0, .int .i64 0, .int .i64 i2, .bool v2] 23)) = w3 at XI XJ HK ⊢
  obtain ⟨j0, j1, j2, j3, j4, j5, j6⟩ := XI.cells
  obtain ⟨l0, l1, l2, l3, l4, l5, l6⟩ := XJ.cells
  have HK := Lib.hid HK
  clear XI XJ j2 j3 j4 j6 l2 l3 l4
  try simp only [List.append]
  go_wp2_with fail
  go_ret
  exact yesB (by simp) HK.out
end Go.Proofs.Ytliofphhoaopkaa
