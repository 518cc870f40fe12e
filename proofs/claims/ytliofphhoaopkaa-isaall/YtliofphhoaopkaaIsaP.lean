/-
  The contract of rivetref03's Encode, whole.
-/
import Derived.Test.YtliofphhoaopkaaIsaO
namespace Go.Proofs.Ytliofphhoaopkaa
open Go.RowKit
set_option linter.unusedVariables false
set_option linter.unusedSimpArgs false
theorem I.or_low (c a : Int) (k : Nat) (ha0 : 0 ≤ a) (ha : a < ((2 ^ k : Nat) : Int)) (hc0 : 0 ≤ c) (hc : c < 4294967296) (hcm : c % ((2 ^ k : Nat) : Int) = 0) (hk : k ≤ 32) : bits .or .u32 c a = c + a := by
  obtain ⟨A, rfl⟩ := Int.eq_ofNat_of_zero_le ha0
  obtain ⟨C, rfl⟩ := Int.eq_ofNat_of_zero_le hc0
  have hp : 2 ^ k ≤ 4294967296 := F.pow_le32 k hk
  rw [u32_or_nat _ _ (by omega) (by omega), nat_join k C A (by omega) (by omega)]
  omega
theorem I.rsum_1 (op a b c i B S T : Int) (a0 : 0 ≤ a) (a1 : a ≤ 15) (b0 : 0 ≤ b) (b1 : b ≤ 15) (c0 : 0 ≤ c) (c1 : c ≤ 15) (o0 : 0 ≤ op) (o1 : op ≤ 15) (B0 : 0 ≤ B) (B1 : B ≤ 1) (S0 : 0 ≤ S) (S1 : S ≤ 1) (T0 : 0 ≤ T) (T1 : T ≤ 1) : bits .or .u32 (bits .or .u32 (bits .or .u32 (bits .or .u32 (B * 536870912) (a * 16777216)) (b * 1048576)) (op * 65536)) (c) = B * 536870912 + a * 16777216 + b * 1048576 + op * 65536 + c := by
  rw [I.or_low (B * 536870912) (a * 16777216) 28 (by omega) (by omega) (by omega) (by omega) (by omega) (by omega)]
  rw [I.or_low (B * 536870912 + a * 16777216) (b * 1048576) 24 (by omega) (by omega) (by omega) (by omega) (by omega) (by omega)]
  rw [I.or_low (B * 536870912 + a * 16777216 + b * 1048576) (op * 65536) 20 (by omega) (by omega) (by omega) (by omega) (by omega) (by omega)]
  rw [I.or_low (B * 536870912 + a * 16777216 + b * 1048576 + op * 65536) (c) 16 (by omega) (by omega) (by omega) (by omega) (by omega) (by omega)]
theorem I.rsum_2 (op a b c i B S T : Int) (a0 : 0 ≤ a) (a1 : a ≤ 15) (b0 : 0 ≤ b) (b1 : b ≤ 15) (c0 : 0 ≤ c) (c1 : c ≤ 15) (o0 : 0 ≤ op) (o1 : op ≤ 15) (B0 : 0 ≤ B) (B1 : B ≤ 1) (S0 : 0 ≤ S) (S1 : S ≤ 1) (T0 : 0 ≤ T) (T1 : T ≤ 1) : bits .or .u32 (bits .or .u32 (bits .or .u32 (bits .or .u32 (bits .or .u32 (bits .or .u32 (1073741824) (IntKind.u32.wrap (B * 536870912))) (IntKind.u32.wrap (S * 268435456))) (a * 16777216)) (b * 1048576)) (op * 65536)) ((IntKind.u32.wrap i).tmod 65536) = 1073741824 + B * 536870912 + S * 268435456 + a * 16777216 + b * 1048576 + op * 65536 + i % 65536 := by
  rw [show IntKind.u32.wrap (B * 536870912) = B * 536870912 by rw [IntKind.wrap_u32]; omega, show IntKind.u32.wrap (S * 268435456) = S * 268435456 by rw [IntKind.wrap_u32]; omega]
  rw [show (IntKind.u32.wrap i).tmod 65536 = i % 65536 by rw [IntKind.wrap_u32, Int.tmod_eq_emod_of_nonneg (by omega)]; omega]
  rw [I.or_low (1073741824) (B * 536870912) 30 (by omega) (by omega) (by omega) (by omega) (by omega) (by omega)]
  rw [I.or_low (1073741824 + B * 536870912) (S * 268435456) 29 (by omega) (by omega) (by omega) (by omega) (by omega) (by omega)]
  rw [I.or_low (1073741824 + B * 536870912 + S * 268435456) (a * 16777216) 28 (by omega) (by omega) (by omega) (by omega) (by omega) (by omega)]
  rw [I.or_low (1073741824 + B * 536870912 + S * 268435456 + a * 16777216) (b * 1048576) 24 (by omega) (by omega) (by omega) (by omega) (by omega) (by omega)]
  rw [I.or_low (1073741824 + B * 536870912 + S * 268435456 + a * 16777216 + b * 1048576) (op * 65536) 20 (by omega) (by omega) (by omega) (by omega) (by omega) (by omega)]
  rw [I.or_low (1073741824 + B * 536870912 + S * 268435456 + a * 16777216 + b * 1048576 + op * 65536) (i % 65536) 16 (by omega) (by omega) (by omega) (by omega) (by omega) (by omega)]
theorem I.rsum_3 (op a b c i B S T : Int) (a0 : 0 ≤ a) (a1 : a ≤ 15) (b0 : 0 ≤ b) (b1 : b ≤ 15) (c0 : 0 ≤ c) (c1 : c ≤ 15) (o0 : 0 ≤ op) (o1 : op ≤ 15) (B0 : 0 ≤ B) (B1 : B ≤ 1) (S0 : 0 ≤ S) (S1 : S ≤ 1) (T0 : 0 ≤ T) (T1 : T ≤ 1) : bits .or .u32 (536870912) (a * 16777216) = 536870912 + a * 16777216 := by
  rw [I.or_low (536870912) (a * 16777216) 28 (by omega) (by omega) (by omega) (by omega) (by omega) (by omega)]
theorem I.rsum_4 (op a b c i B S T : Int) (a0 : 0 ≤ a) (a1 : a ≤ 15) (b0 : 0 ≤ b) (b1 : b ≤ 15) (c0 : 0 ≤ c) (c1 : c ≤ 15) (o0 : 0 ≤ op) (o1 : op ≤ 15) (B0 : 0 ≤ B) (B1 : B ≤ 1) (S0 : 0 ≤ S) (S1 : S ≤ 1) (T0 : 0 ≤ T) (T1 : T ≤ 1) : bits .or .u32 (805306368) (a * 16777216) = 805306368 + a * 16777216 := by
  rw [I.or_low (805306368) (a * 16777216) 28 (by omega) (by omega) (by omega) (by omega) (by omega) (by omega)]
theorem I.rsum_5 (op a b c i B S T : Int) (a0 : 0 ≤ a) (a1 : a ≤ 15) (b0 : 0 ≤ b) (b1 : b ≤ 15) (c0 : 0 ≤ c) (c1 : c ≤ 15) (o0 : 0 ≤ op) (o1 : op ≤ 15) (B0 : 0 ≤ B) (B1 : B ≤ 1) (S0 : 0 ≤ S) (S1 : S ≤ 1) (T0 : 0 ≤ T) (T1 : T ≤ 1) : bits .or .u32 (bits .or .u32 (bits .or .u32 (bits .or .u32 (bits .or .u32 (2147483648) (IntKind.u32.wrap (S * 536870912))) (IntKind.u32.wrap (T * 268435456))) (a * 16777216)) (b * 1048576)) ((IntKind.u32.wrap i).tmod 1048576) = 2147483648 + S * 536870912 + T * 268435456 + a * 16777216 + b * 1048576 + i % 1048576 := by
  rw [show IntKind.u32.wrap (S * 536870912) = S * 536870912 by rw [IntKind.wrap_u32]; omega, show IntKind.u32.wrap (T * 268435456) = T * 268435456 by rw [IntKind.wrap_u32]; omega]
  rw [show (IntKind.u32.wrap i).tmod 1048576 = i % 1048576 by rw [IntKind.wrap_u32, Int.tmod_eq_emod_of_nonneg (by omega)]; omega]
  rw [I.or_low (2147483648) (S * 536870912) 30 (by omega) (by omega) (by omega) (by omega) (by omega) (by omega)]
  rw [I.or_low (2147483648 + S * 536870912) (T * 268435456) 29 (by omega) (by omega) (by omega) (by omega) (by omega) (by omega)]
  rw [I.or_low (2147483648 + S * 536870912 + T * 268435456) (a * 16777216) 28 (by omega) (by omega) (by omega) (by omega) (by omega) (by omega)]
  rw [I.or_low (2147483648 + S * 536870912 + T * 268435456 + a * 16777216) (b * 1048576) 24 (by omega) (by omega) (by omega) (by omega) (by omega) (by omega)]
  rw [I.or_low (2147483648 + S * 536870912 + T * 268435456 + a * 16777216 + b * 1048576) (i % 1048576) 20 (by omega) (by omega) (by omega) (by omega) (by omega) (by omega)]
theorem I.rsum_6 (op a b c i B S T : Int) (a0 : 0 ≤ a) (a1 : a ≤ 15) (b0 : 0 ≤ b) (b1 : b ≤ 15) (c0 : 0 ≤ c) (c1 : c ≤ 15) (o0 : 0 ≤ op) (o1 : op ≤ 15) (B0 : 0 ≤ B) (B1 : B ≤ 1) (S0 : 0 ≤ S) (S1 : S ≤ 1) (T0 : 0 ≤ T) (T1 : T ≤ 1) : bits .or .u32 (bits .or .u32 (bits .or .u32 (3221225472) (B * 268435456)) (op * 16777216)) (c) = 3221225472 + B * 268435456 + op * 16777216 + c := by
  rw [I.or_low (3221225472) (B * 268435456) 29 (by omega) (by omega) (by omega) (by omega) (by omega) (by omega)]
  rw [I.or_low (3221225472 + B * 268435456) (op * 16777216) 28 (by omega) (by omega) (by omega) (by omega) (by omega) (by omega)]
  rw [I.or_low (3221225472 + B * 268435456 + op * 16777216) (c) 24 (by omega) (by omega) (by omega) (by omega) (by omega) (by omega)]
theorem I.rsum_7 (op a b c i B S T : Int) (a0 : 0 ≤ a) (a1 : a ≤ 15) (b0 : 0 ≤ b) (b1 : b ≤ 15) (c0 : 0 ≤ c) (c1 : c ≤ 15) (o0 : 0 ≤ op) (o1 : op ≤ 15) (B0 : 0 ≤ B) (B1 : B ≤ 1) (S0 : 0 ≤ S) (S1 : S ≤ 1) (T0 : 0 ≤ T) (T1 : T ≤ 1) : bits .or .u32 (bits .or .u32 (bits .or .u32 (3758096384) (B * 268435456)) (op * 16777216)) (i % 16777216) = 3758096384 + B * 268435456 + op * 16777216 + i % 16777216 := by
  rw [I.or_low (3758096384) (B * 268435456) 29 (by omega) (by omega) (by omega) (by omega) (by omega) (by omega)]
  rw [I.or_low (3758096384 + B * 268435456) (op * 16777216) 28 (by omega) (by omega) (by omega) (by omega) (by omega) (by omega)]
  rw [I.or_low (3758096384 + B * 268435456 + op * 16777216) (i % 16777216) 24 (by omega) (by omega) (by omega) (by omega) (by omega) (by omega)]
theorem renc_any (k op a b c i : Int) (u : Bool) (w : World) :
    Calls Try.prog 13 #[.agg #[.int .i64 k, .int .i64 op, .int .i64 a, .int .i64 b, .int .i64 c, .int .i64 i, .bool u]] w fun e w' => e = .returned (.tuple #[.int .u32 (I.enc ⟨k, op, a, b, c, i, u⟩), .int .i64 (I.err ⟨k, op, a, b, c, i, u⟩)]) ∧ Kept w w' := by
  have HM := rmay_any k op a b c i u
  by_cases h : I.May ⟨k, op, a, b, c, i, u⟩
  · have e1 : I.may ⟨k, op, a, b, c, i, u⟩ = true := decide_eq_true h
    simp only [I.enc, I.err, e1, reduceIte] at *
    have HO := one_any u
    have B0 := I.bit_lo u
    have B1 := I.bit_hi u
    have h' := h
    unfold I.May at h'
    dsimp only at h'
    obtain ⟨⟨a0, a1, b0, b1, c0, c1⟩, h'⟩ := h'
    have z0 : (0 : Int) ≤ 0 := by omega
    have z1 : (0 : Int) ≤ 1 := by omega
    rcases h' with ⟨rfl, h'⟩ | ⟨rfl, h'⟩ | ⟨rfl | rfl, h'⟩ | ⟨rfl, h'⟩ | ⟨rfl, h'⟩ | ⟨rfl, h'⟩
    · exact renc_1 op a b c i _ _ u w B0 B1 a0 a1 b0 b1 c0 c1 (by omega) (by omega) (Lib.hid HM) (Lib.hid HO) (Lib.hid ((I.rsum_1 op a b c i (I.bit u) 0 0 a0 a1 b0 b1 c0 c1 (by omega) (by omega) B0 B1 z0 z1 z0 z1).trans (by simp [I.word])))
    · exact renc_2 op a b c i _ _ _ u w B0 B1 a0 a1 b0 b1 c0 c1 (by omega) (by omega) (Lib.hid HM) (Lib.hid HO) (Lib.hid ((I.rsum_2 op a b c i _ (I.bit (decide (i < 0))) 0 a0 a1 b0 b1 c0 c1 (by omega) (by omega) B0 B1 (I.bit_lo _) (I.bit_hi _) z0 z1).trans (by simp [I.word]))) (Lib.hid (one_any _)) (I.bit_lo _) (I.bit_hi _)
    · exact renc_3 op a b c i _ _ u w B0 B1 a0 a1 b0 b1 c0 c1 (by omega) (by omega) (Lib.hid HM) (Lib.hid HO) (Lib.hid ((I.rsum_3 op a b c i (I.bit u) 0 0 a0 a1 b0 b1 c0 c1 (by omega) (by omega) B0 B1 z0 z1 z0 z1).trans (by simp [I.word])))
    · exact renc_4 op a b c i _ _ u w B0 B1 a0 a1 b0 b1 c0 c1 (by omega) (by omega) (Lib.hid HM) (Lib.hid HO) (Lib.hid ((I.rsum_4 op a b c i (I.bit u) 0 0 a0 a1 b0 b1 c0 c1 (by omega) (by omega) B0 B1 z0 z1 z0 z1).trans (by simp [I.word])))
    · have q : I.bit (decide (2 ≤ op)) * 536870912 + I.bit (op.tmod 2 == 1) * 268435456 = op * 268435456 := by
        rcases (show op = 0 ∨ op = 1 ∨ op = 2 ∨ op = 3 by omega) with rfl | rfl | rfl | rfl <;> rfl
      exact renc_5 op a b c i _ _ _ _ u w B0 B1 a0 a1 b0 b1 c0 c1 (by omega) (by omega) (Lib.hid HM) (Lib.hid HO) (Lib.hid ((I.rsum_5 op a b c i (I.bit u) (I.bit (decide (2 ≤ op))) (I.bit (op.tmod 2 == 1)) a0 a1 b0 b1 c0 c1 (by omega) (by omega) B0 B1 (I.bit_lo _) (I.bit_hi _) (I.bit_lo _) (I.bit_hi _)).trans (by simp [I.word]; omega))) (Lib.hid (one_any _)) (I.bit_lo _) (I.bit_hi _) (Lib.hid (one_any _)) (I.bit_lo _) (I.bit_hi _)
    · exact renc_6 op a b c i _ _ u w B0 B1 a0 a1 b0 b1 c0 c1 (by omega) (by omega) (Lib.hid HM) (Lib.hid HO) (Lib.hid ((I.rsum_6 op a b c i (I.bit u) 0 0 a0 a1 b0 b1 c0 c1 (by omega) (by omega) B0 B1 z0 z1 z0 z1).trans (by simp [I.word])))
    · exact renc_7 op a b c i _ _ u w B0 B1 a0 a1 b0 b1 c0 c1 (by omega) (by omega) (Lib.hid HM) (Lib.hid HO) (Lib.hid ((I.rsum_7 op a b c i (I.bit u) 0 0 a0 a1 b0 b1 c0 c1 (by omega) (by omega) B0 B1 z0 z1 z0 z1).trans (by simp [I.word])))
  · have e1 : I.may ⟨k, op, a, b, c, i, u⟩ = false := decide_eq_false h
    simp only [I.enc, I.err, e1, Bool.false_eq_true, reduceIte] at *
    have HM := Lib.hid HM
    have HB := Lib.hid (show Kept w (w.alloc (.cells #[.int .i64 k, .int .i64 op, .int .i64 a, .int .i64 b, .int .i64 c, .int .i64 i, .bool u] 23)) from (Kept.refl w).alloc _ _)
    clear h e1
    go_enter Try.func13, Try.ntmps13
    go_wp2_with fail
    refine (HM.out _).mono ?_; rintro e w1 ⟨rfl, hK⟩
    go_wp2_with fail
    exact bodyPost_ret (v := .tuple #[.int .u32 0, .int .i64 1]) (by simp [results, Try.results13, go_sem]) rfl ⟨rfl, HB.out.trans hK⟩
end Go.Proofs.Ytliofphhoaopkaa
