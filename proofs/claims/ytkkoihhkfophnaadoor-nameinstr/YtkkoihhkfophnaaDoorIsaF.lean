/-
  Fit answers an instruction that may be; the law IsaBack.
-/
import Derived.Test.YtkkoihhkfophnaaDoorIsaE
namespace Go.Proofs.YtkkoihhkfophnaaDoor
open Go.RowKit
set_option linter.unusedVariables false
set_option linter.unusedSimpArgs false
set_option maxRecDepth 100000
theorem i64_and_2 (n : Int) : bits .and .i64 n 3 = n % 4 := by
  have h : (BitVec.ofInt 64 3).toNat = 2 ^ 2 - 1 := by decide
  have key : (BitVec.ofInt 64 n &&& BitVec.ofInt 64 3).toNat = (n % ((2 ^ 64 : Nat) : Int)).toNat % 2 ^ 2 := by
    rw [BitVec.toNat_and, BitVec.toNat_ofInt, h, Nat.and_two_pow_sub_one_eq_mod]
  show IntKind.i64.wrap ((BitVec.ofInt 64 n &&& BitVec.ofInt 64 3).toNat : Nat) = n % 4
  rw [key, IntKind.wrap_i64]
  omega
theorem i64_and_4 (n : Int) : bits .and .i64 n 15 = n % 16 := by
  have h : (BitVec.ofInt 64 15).toNat = 2 ^ 4 - 1 := by decide
  have key : (BitVec.ofInt 64 n &&& BitVec.ofInt 64 15).toNat = (n % ((2 ^ 64 : Nat) : Int)).toNat % 2 ^ 4 := by
    rw [BitVec.toNat_and, BitVec.toNat_ofInt, h, Nat.and_two_pow_sub_one_eq_mod]
  show IntKind.i64.wrap ((BitVec.ofInt 64 n &&& BitVec.ofInt 64 15).toNat : Nat) = n % 16
  rw [key, IntKind.wrap_i64]
  omega
theorem i64_and_16 (n : Int) : bits .and .i64 n 65535 = n % 65536 := by
  have h : (BitVec.ofInt 64 65535).toNat = 2 ^ 16 - 1 := by decide
  have key : (BitVec.ofInt 64 n &&& BitVec.ofInt 64 65535).toNat = (n % ((2 ^ 64 : Nat) : Int)).toNat % 2 ^ 16 := by
    rw [BitVec.toNat_and, BitVec.toNat_ofInt, h, Nat.and_two_pow_sub_one_eq_mod]
  show IntKind.i64.wrap ((BitVec.ofInt 64 n &&& BitVec.ofInt 64 65535).toNat : Nat) = n % 65536
  rw [key, IntKind.wrap_i64]
  omega
theorem i64_and_17 (n : Int) : bits .and .i64 n 131071 = n % 131072 := by
  have h : (BitVec.ofInt 64 131071).toNat = 2 ^ 17 - 1 := by decide
  have key : (BitVec.ofInt 64 n &&& BitVec.ofInt 64 131071).toNat = (n % ((2 ^ 64 : Nat) : Int)).toNat % 2 ^ 17 := by
    rw [BitVec.toNat_and, BitVec.toNat_ofInt, h, Nat.and_two_pow_sub_one_eq_mod]
  show IntKind.i64.wrap ((BitVec.ofInt 64 n &&& BitVec.ofInt 64 131071).toNat : Nat) = n % 131072
  rw [key, IntKind.wrap_i64]
  omega
theorem i64_and_20 (n : Int) : bits .and .i64 n 1048575 = n % 1048576 := by
  have h : (BitVec.ofInt 64 1048575).toNat = 2 ^ 20 - 1 := by decide
  have key : (BitVec.ofInt 64 n &&& BitVec.ofInt 64 1048575).toNat = (n % ((2 ^ 64 : Nat) : Int)).toNat % 2 ^ 20 := by
    rw [BitVec.toNat_and, BitVec.toNat_ofInt, h, Nat.and_two_pow_sub_one_eq_mod]
  show IntKind.i64.wrap ((BitVec.ofInt 64 n &&& BitVec.ofInt 64 1048575).toNat : Nat) = n % 1048576
  rw [key, IntKind.wrap_i64]
  omega
theorem i64_and_24 (n : Int) : bits .and .i64 n 16777215 = n % 16777216 := by
  have h : (BitVec.ofInt 64 16777215).toNat = 2 ^ 24 - 1 := by decide
  have key : (BitVec.ofInt 64 n &&& BitVec.ofInt 64 16777215).toNat = (n % ((2 ^ 64 : Nat) : Int)).toNat % 2 ^ 24 := by
    rw [BitVec.toNat_and, BitVec.toNat_ofInt, h, Nat.and_two_pow_sub_one_eq_mod]
  show IntKind.i64.wrap ((BitVec.ofInt 64 n &&& BitVec.ofInt 64 16777215).toNat : Nat) = n % 16777216
  rw [key, IntKind.wrap_i64]
  omega
theorem I.tm7 (k : Int) : 1 ≤ wrap64 (1 + (wrap64 (k.tmod 7 + 7)).tmod 7) ∧ wrap64 (1 + (wrap64 (k.tmod 7 + 7)).tmod 7) ≤ 7 := by
  have a := Int.tmod_lt_of_pos k (b := 7) (by omega)
  have b : -7 < k.tmod 7 := by
    have := Int.tmod_lt_of_pos (-k) (b := 7) (by omega)
    rw [Int.neg_tmod] at this
    omega
  generalize k.tmod 7 = t at *
  have e : wrap64 (t + 7) = t + 7 := by unfold wrap64; omega
  rw [e]
  have c := Int.tmod_lt_of_pos (t + 7) (b := 7) (by omega)
  have d := Int.tmod_nonneg 7 (a := t + 7) (by omega)
  generalize (t + 7).tmod 7 = q at *
  unfold wrap64
  omega
theorem I.tm12 (k : Int) : 0 ≤ (wrap64 (k.tmod 12 + 12)).tmod 12 ∧ (wrap64 (k.tmod 12 + 12)).tmod 12 ≤ 11 := by
  have a := Int.tmod_lt_of_pos k (b := 12) (by omega)
  have b : -12 < k.tmod 12 := by
    have := Int.tmod_lt_of_pos (-k) (b := 12) (by omega)
    rw [Int.neg_tmod] at this
    omega
  generalize k.tmod 12 = t at *
  have e : wrap64 (t + 12) = t + 12 := by unfold wrap64; omega
  rw [e]
  have c := Int.tmod_lt_of_pos (t + 12) (b := 12) (by omega)
  have d := Int.tmod_nonneg 12 (a := t + 12) (by omega)
  omega
theorem fit_any (k op a b c i : Int) (u : Bool) : ∃ k' op' a' b' c' i' u', I.May ⟨k', op', a', b', c', i', u'⟩ ∧
    ∀ w, Calls Tryd.prog 21 #[.agg #[.int .i64 k, .int .i64 op, .int .i64 a, .int .i64 b, .int .i64 c, .int .i64 i, .bool u]] w fun e w' => e = .returned (.agg #[.int .i64 (k'), .int .i64 (op'), .int .i64 (a'), .int .i64 (b'), .int .i64 (c'), .int .i64 (i'), .bool (u')]) ∧ Kept w w' := by
  obtain ⟨K, EK⟩ : ∃ r, wrap64 (1 + (wrap64 (k.tmod 7 + 7)).tmod 7) = r := ⟨_, rfl⟩
  obtain ⟨O, EO⟩ : ∃ r, (wrap64 (op.tmod 12 + 12)).tmod 12 = r := ⟨_, rfl⟩
  have hK := I.tm7 k
  have hO := I.tm12 op
  rw [EK] at hK
  rw [EO] at hO
  obtain ⟨A, EA⟩ : ∃ r, bits .and .i64 a 15 = r := ⟨_, rfl⟩
  obtain ⟨B, EB⟩ : ∃ r, bits .and .i64 b 15 = r := ⟨_, rfl⟩
  obtain ⟨C, EC⟩ : ∃ r, bits .and .i64 c 15 = r := ⟨_, rfl⟩
  obtain ⟨O3, E3⟩ : ∃ r, bits .and .i64 op 3 = r := ⟨_, rfl⟩
  obtain ⟨O15, E15⟩ : ∃ r, bits .and .i64 op 15 = r := ⟨_, rfl⟩
  obtain ⟨M16, E16⟩ : ∃ r, bits .and .i64 i 65535 = r := ⟨_, rfl⟩
  obtain ⟨M17, E17⟩ : ∃ r, bits .and .i64 i 131071 = r := ⟨_, rfl⟩
  obtain ⟨M20, E20⟩ : ∃ r, bits .and .i64 i 1048575 = r := ⟨_, rfl⟩
  obtain ⟨M24, E24⟩ : ∃ r, bits .and .i64 i 16777215 = r := ⟨_, rfl⟩
  have hA : 0 ≤ A ∧ A ≤ 15 := by rw [← EA, i64_and_4]; omega
  have hB : 0 ≤ B ∧ B ≤ 15 := by rw [← EB, i64_and_4]; omega
  have hC : 0 ≤ C ∧ C ≤ 15 := by rw [← EC, i64_and_4]; omega
  have h3 : 0 ≤ O3 ∧ O3 ≤ 3 := by rw [← E3, i64_and_2]; omega
  have h15 : 0 ≤ O15 ∧ O15 ≤ 15 := by rw [← E15, i64_and_4]; omega
  have h16 : 0 ≤ M16 ∧ M16 ≤ 65535 := by rw [← E16, i64_and_16]; omega
  have h17 : 0 ≤ M17 ∧ M17 ≤ 131071 := by rw [← E17, i64_and_17]; omega
  have h20 : 0 ≤ M20 ∧ M20 ≤ 1048575 := by rw [← E20, i64_and_20]; omega
  have h24 : 0 ≤ M24 ∧ M24 ≤ 16777215 := by rw [← E24, i64_and_24]; omega
  rcases (show K = 1 ∨ K = 2 ∨ K = 3 ∨ K = 4 ∨ K = 5 ∨ K = 6 ∨ K = 7 by omega) with rfl | rfl | rfl | rfl | rfl | rfl | rfl
  · rcases (show O = 0 ∨ (1 ≤ O ∧ O < 8 ∧ ¬ O = 0) ∨ (8 ≤ O ∧ O ≤ 10 ∧ ¬ O = 0) ∨ O = 11 by omega) with rfl | ⟨o0, o1, oz⟩ | ⟨o0, o1, oz⟩ | rfl
    · cases u
      · refine ⟨1, 0, A, 0, C, 0, false, ?_, fit_1_1f k op a b c i A B C 0 O3 O15 M16 M17 M20 M24 EK EO EA EB EC E3 E15 E16 E17 E20 E24 h17.1 h17.2 h20.1 h20.2 h24.1 h24.2⟩
        unfold I.May
        simp
        try omega
      · refine ⟨1, 0, A, 0, C, 0, false, ?_, fit_1_1t k op a b c i A B C 0 O3 O15 M16 M17 M20 M24 EK EO EA EB EC E3 E15 E16 E17 E20 E24 h17.1 h17.2 h20.1 h20.2 h24.1 h24.2⟩
        unfold I.May
        simp
        try omega
    · cases u
      · refine ⟨1, O, A, B, C, 0, false, ?_, fit_1_2f k op a b c i A B C O O3 O15 M16 M17 M20 M24 EK EO EA EB EC E3 E15 E16 E17 E20 E24 h17.1 h17.2 h20.1 h20.2 h24.1 h24.2 o0 o1 oz⟩
        unfold I.May
        simp
        try omega
      · refine ⟨1, O, A, B, C, 0, false, ?_, fit_1_2t k op a b c i A B C O O3 O15 M16 M17 M20 M24 EK EO EA EB EC E3 E15 E16 E17 E20 E24 h17.1 h17.2 h20.1 h20.2 h24.1 h24.2 o0 o1 oz⟩
        unfold I.May
        simp
        try omega
    · cases u
      · refine ⟨1, O, A, B, C, 0, false, ?_, fit_1_3f k op a b c i A B C O O3 O15 M16 M17 M20 M24 EK EO EA EB EC E3 E15 E16 E17 E20 E24 h17.1 h17.2 h20.1 h20.2 h24.1 h24.2 o0 o1 oz⟩
        unfold I.May
        simp
        try omega
      · refine ⟨1, O, A, B, C, 0, true, ?_, fit_1_3t k op a b c i A B C O O3 O15 M16 M17 M20 M24 EK EO EA EB EC E3 E15 E16 E17 E20 E24 h17.1 h17.2 h20.1 h20.2 h24.1 h24.2 o0 o1 oz⟩
        unfold I.May
        simp
        try omega
    · cases u
      · refine ⟨1, 11, A, B, C, 0, false, ?_, fit_1_4f k op a b c i A B C 11 O3 O15 M16 M17 M20 M24 EK EO EA EB EC E3 E15 E16 E17 E20 E24 h17.1 h17.2 h20.1 h20.2 h24.1 h24.2⟩
        unfold I.May
        simp
        try omega
      · refine ⟨1, 11, A, B, C, 0, false, ?_, fit_1_4t k op a b c i A B C 11 O3 O15 M16 M17 M20 M24 EK EO EA EB EC E3 E15 E16 E17 E20 E24 h17.1 h17.2 h20.1 h20.2 h24.1 h24.2⟩
        unfold I.May
        simp
        try omega
  · rcases (show O = 0 ∨ (1 ≤ O ∧ O < 8 ∧ ¬ O = 0) ∨ (8 ≤ O ∧ O ≤ 10 ∧ ¬ O = 0) ∨ O = 11 by omega) with rfl | ⟨o0, o1, oz⟩ | ⟨o0, o1, oz⟩ | rfl
    · cases u
      · refine ⟨2, 0, A, 0, 0, M17 - 65536, false, ?_, fit_2_1f k op a b c i A B C 0 O3 O15 M16 M17 M20 M24 EK EO EA EB EC E3 E15 E16 E17 E20 E24 h17.1 h17.2 h20.1 h20.2 h24.1 h24.2⟩
        unfold I.May
        simp
        try omega
      · refine ⟨2, 0, A, 0, 0, M16, true, ?_, fit_2_1t k op a b c i A B C 0 O3 O15 M16 M17 M20 M24 EK EO EA EB EC E3 E15 E16 E17 E20 E24 h17.1 h17.2 h20.1 h20.2 h24.1 h24.2⟩
        unfold I.May
        simp
        try omega
    · cases u
      · refine ⟨2, O, A, B, 0, M17 - 65536, false, ?_, fit_2_2f k op a b c i A B C O O3 O15 M16 M17 M20 M24 EK EO EA EB EC E3 E15 E16 E17 E20 E24 h17.1 h17.2 h20.1 h20.2 h24.1 h24.2 o0 o1 oz⟩
        unfold I.May
        simp
        try omega
      · refine ⟨2, O, A, B, 0, M17 - 65536, false, ?_, fit_2_2t k op a b c i A B C O O3 O15 M16 M17 M20 M24 EK EO EA EB EC E3 E15 E16 E17 E20 E24 h17.1 h17.2 h20.1 h20.2 h24.1 h24.2 o0 o1 oz⟩
        unfold I.May
        simp
        try omega
    · cases u
      · refine ⟨2, O, A, B, 0, M17 - 65536, false, ?_, fit_2_3f k op a b c i A B C O O3 O15 M16 M17 M20 M24 EK EO EA EB EC E3 E15 E16 E17 E20 E24 h17.1 h17.2 h20.1 h20.2 h24.1 h24.2 o0 o1 oz⟩
        unfold I.May
        simp
        try omega
      · refine ⟨2, O, A, B, 0, M17 - 65536, true, ?_, fit_2_3t k op a b c i A B C O O3 O15 M16 M17 M20 M24 EK EO EA EB EC E3 E15 E16 E17 E20 E24 h17.1 h17.2 h20.1 h20.2 h24.1 h24.2 o0 o1 oz⟩
        unfold I.May
        simp
        try omega
    · cases u
      · refine ⟨2, 11, A, B, 0, M17 - 65536, false, ?_, fit_2_4f k op a b c i A B C 11 O3 O15 M16 M17 M20 M24 EK EO EA EB EC E3 E15 E16 E17 E20 E24 h17.1 h17.2 h20.1 h20.2 h24.1 h24.2⟩
        unfold I.May
        simp
        try omega
      · refine ⟨2, 11, A, B, 0, M17 - 65536, false, ?_, fit_2_4t k op a b c i A B C 11 O3 O15 M16 M17 M20 M24 EK EO EA EB EC E3 E15 E16 E17 E20 E24 h17.1 h17.2 h20.1 h20.2 h24.1 h24.2⟩
        unfold I.May
        simp
        try omega
  · refine ⟨3, 0, A, 0, 0, 0, false, ?_, fit_3 k op a b c i A B C O O3 O15 M16 M17 M20 M24 u EK EO EA EB EC E3 E15 E16 E17 E20 E24 h17.1 h17.2 h20.1 h20.2 h24.1 h24.2⟩
    unfold I.May
    simp
    try omega
  · refine ⟨4, 0, A, 0, 0, 0, false, ?_, fit_4 k op a b c i A B C O O3 O15 M16 M17 M20 M24 u EK EO EA EB EC E3 E15 E16 E17 E20 E24 h17.1 h17.2 h20.1 h20.2 h24.1 h24.2⟩
    unfold I.May
    simp
    try omega
  · refine ⟨5, O3, A, B, 0, M20 - 524288, false, ?_, fit_5 k op a b c i A B C O O3 O15 M16 M17 M20 M24 u EK EO EA EB EC E3 E15 E16 E17 E20 E24 h17.1 h17.2 h20.1 h20.2 h24.1 h24.2⟩
    unfold I.May
    simp
    try omega
  · refine ⟨6, O15, 0, 0, C, 0, u, ?_, fit_6 k op a b c i A B C O O3 O15 M16 M17 M20 M24 u EK EO EA EB EC E3 E15 E16 E17 E20 E24 h17.1 h17.2 h20.1 h20.2 h24.1 h24.2⟩
    unfold I.May
    simp
    try omega
  · refine ⟨7, O15, 0, 0, 0, M24 - 8388608, u, ?_, fit_7 k op a b c i A B C O O3 O15 M16 M17 M20 M24 u EK EO EA EB EC E3 E15 E16 E17 E20 E24 h17.1 h17.2 h20.1 h20.2 h24.1 h24.2⟩
    unfold I.May
    simp
    try omega
end Go.Proofs.YtkkoihhkfophnaaDoor
