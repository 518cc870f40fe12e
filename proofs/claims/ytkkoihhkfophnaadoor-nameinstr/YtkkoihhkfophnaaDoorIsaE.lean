/-
  The contract of Fit: an instruction that may be.
-/
import Derived.Test.YtkkoihhkfophnaaDoorIsa0
import Derived.Test.YtkkoihhkfophnaaDoorKit0
import Derived.Test.YtkkoihhkfophnaaDoorRows
import Derived.WalkKit
import Derived.WalkSpells
import Derived.WalkLawsBesides
import Derived.BigQuiet
import Derived.Lib.Hide
import Derived.Deep.Cut
import Derived.Laws.Bits128
namespace Go.Proofs.YtkkoihhkfophnaaDoor
open Go.RowKit
set_option linter.unusedVariables false
set_option linter.unusedSimpArgs false
set_option maxRecDepth 100000
set_option maxHeartbeats 1000000 in
theorem fit_1_1f (k op a b c i A B C O O3 O15 M16 M17 M20 M24 : Int)
    (EK : wrap64 (1 + (wrap64 (k.tmod 7 + 7)).tmod 7) = 1) (EO : (wrap64 (op.tmod 12 + 12)).tmod 12 = 0)
    (EA : bits .and .i64 a 15 = A) (EB : bits .and .i64 b 15 = B) (EC : bits .and .i64 c 15 = C) (E3 : bits .and .i64 op 3 = O3) (E15 : bits .and .i64 op 15 = O15)
    (E16 : bits .and .i64 i 65535 = M16) (E17 : bits .and .i64 i 131071 = M17) (E20 : bits .and .i64 i 1048575 = M20) (E24 : bits .and .i64 i 16777215 = M24)
    (m170 : 0 ≤ M17) (m171 : M17 ≤ 131071) (m200 : 0 ≤ M20) (m201 : M20 ≤ 1048575) (m240 : 0 ≤ M24) (m241 : M24 ≤ 16777215) (w : World) :
    Calls Tryd.prog 21 #[.agg #[.int .i64 k, .int .i64 op, .int .i64 a, .int .i64 b, .int .i64 c, .int .i64 i, .bool false]] w fun e w' => e = .returned (.agg #[.int .i64 1, .int .i64 0, .int .i64 A, .int .i64 0, .int .i64 C, .int .i64 0, .bool false]) ∧ Kept w w' := by
  go_enter Tryd.func21, Tryd.ntmps21
  go_wp2_with fail
  exact bodyPost_ret (v := .agg #[.int .i64 1, .int .i64 0, .int .i64 A, .int .i64 0, .int .i64 C, .int .i64 0, .bool false]) (by simp [results, Tryd.results21, go_sem]) rfl ⟨rfl, (((Kept.refl w).alloc _ _).alloc _ _).alloc _ _⟩
set_option maxHeartbeats 1000000 in
theorem fit_1_1t (k op a b c i A B C O O3 O15 M16 M17 M20 M24 : Int)
    (EK : wrap64 (1 + (wrap64 (k.tmod 7 + 7)).tmod 7) = 1) (EO : (wrap64 (op.tmod 12 + 12)).tmod 12 = 0)
    (EA : bits .and .i64 a 15 = A) (EB : bits .and .i64 b 15 = B) (EC : bits .and .i64 c 15 = C) (E3 : bits .and .i64 op 3 = O3) (E15 : bits .and .i64 op 15 = O15)
    (E16 : bits .and .i64 i 65535 = M16) (E17 : bits .and .i64 i 131071 = M17) (E20 : bits .and .i64 i 1048575 = M20) (E24 : bits .and .i64 i 16777215 = M24)
    (m170 : 0 ≤ M17) (m171 : M17 ≤ 131071) (m200 : 0 ≤ M20) (m201 : M20 ≤ 1048575) (m240 : 0 ≤ M24) (m241 : M24 ≤ 16777215) (w : World) :
    Calls Tryd.prog 21 #[.agg #[.int .i64 k, .int .i64 op, .int .i64 a, .int .i64 b, .int .i64 c, .int .i64 i, .bool true]] w fun e w' => e = .returned (.agg #[.int .i64 1, .int .i64 0, .int .i64 A, .int .i64 0, .int .i64 C, .int .i64 0, .bool false]) ∧ Kept w w' := by
  go_enter Tryd.func21, Tryd.ntmps21
  go_wp2_with fail
  exact bodyPost_ret (v := .agg #[.int .i64 1, .int .i64 0, .int .i64 A, .int .i64 0, .int .i64 C, .int .i64 0, .bool false]) (by simp [results, Tryd.results21, go_sem]) rfl ⟨rfl, (((Kept.refl w).alloc _ _).alloc _ _).alloc _ _⟩
set_option maxHeartbeats 1000000 in
theorem fit_1_2f (k op a b c i A B C O O3 O15 M16 M17 M20 M24 : Int)
    (EK : wrap64 (1 + (wrap64 (k.tmod 7 + 7)).tmod 7) = 1) (EO : (wrap64 (op.tmod 12 + 12)).tmod 12 = O)
    (EA : bits .and .i64 a 15 = A) (EB : bits .and .i64 b 15 = B) (EC : bits .and .i64 c 15 = C) (E3 : bits .and .i64 op 3 = O3) (E15 : bits .and .i64 op 15 = O15)
    (E16 : bits .and .i64 i 65535 = M16) (E17 : bits .and .i64 i 131071 = M17) (E20 : bits .and .i64 i 1048575 = M20) (E24 : bits .and .i64 i 16777215 = M24)
    (m170 : 0 ≤ M17) (m171 : M17 ≤ 131071) (m200 : 0 ≤ M20) (m201 : M20 ≤ 1048575) (m240 : 0 ≤ M24) (m241 : M24 ≤ 16777215) (o0 : 1 ≤ O) (o1 : O < 8) (oz : ¬ O = 0) (w : World) :
    Calls Tryd.prog 21 #[.agg #[.int .i64 k, .int .i64 op, .int .i64 a, .int .i64 b, .int .i64 c, .int .i64 i, .bool false]] w fun e w' => e = .returned (.agg #[.int .i64 1, .int .i64 O, .int .i64 A, .int .i64 B, .int .i64 C, .int .i64 0, .bool false]) ∧ Kept w w' := by
  go_enter Tryd.func21, Tryd.ntmps21
  go_wp2_with fail
  exact bodyPost_ret (v := .agg #[.int .i64 1, .int .i64 O, .int .i64 A, .int .i64 B, .int .i64 C, .int .i64 0, .bool false]) (by simp [results, Tryd.results21, go_sem]) rfl ⟨rfl, (((Kept.refl w).alloc _ _).alloc _ _).alloc _ _⟩
set_option maxHeartbeats 1000000 in
theorem fit_1_2t (k op a b c i A B C O O3 O15 M16 M17 M20 M24 : Int)
    (EK : wrap64 (1 + (wrap64 (k.tmod 7 + 7)).tmod 7) = 1) (EO : (wrap64 (op.tmod 12 + 12)).tmod 12 = O)
    (EA : bits .and .i64 a 15 = A) (EB : bits .and .i64 b 15 = B) (EC : bits .and .i64 c 15 = C) (E3 : bits .and .i64 op 3 = O3) (E15 : bits .and .i64 op 15 = O15)
    (E16 : bits .and .i64 i 65535 = M16) (E17 : bits .and .i64 i 131071 = M17) (E20 : bits .and .i64 i 1048575 = M20) (E24 : bits .and .i64 i 16777215 = M24)
    (m170 : 0 ≤ M17) (m171 : M17 ≤ 131071) (m200 : 0 ≤ M20) (m201 : M20 ≤ 1048575) (m240 : 0 ≤ M24) (m241 : M24 ≤ 16777215) (o0 : 1 ≤ O) (o1 : O < 8) (oz : ¬ O = 0) (w : World) :
    Calls Tryd.prog 21 #[.agg #[.int .i64 k, .int .i64 op, .int .i64 a, .int .i64 b, .int .i64 c, .int .i64 i, .bool true]] w fun e w' => e = .returned (.agg #[.int .i64 1, .int .i64 O, .int .i64 A, .int .i64 B, .int .i64 C, .int .i64 0, .bool false]) ∧ Kept w w' := by
  go_enter Tryd.func21, Tryd.ntmps21
  go_wp2_with fail
  exact bodyPost_ret (v := .agg #[.int .i64 1, .int .i64 O, .int .i64 A, .int .i64 B, .int .i64 C, .int .i64 0, .bool false]) (by simp [results, Tryd.results21, go_sem]) rfl ⟨rfl, (((Kept.refl w).alloc _ _).alloc _ _).alloc _ _⟩
set_option maxHeartbeats 1000000 in
theorem fit_1_3f (k op a b c i A B C O O3 O15 M16 M17 M20 M24 : Int)
    (EK : wrap64 (1 + (wrap64 (k.tmod 7 + 7)).tmod 7) = 1) (EO : (wrap64 (op.tmod 12 + 12)).tmod 12 = O)
    (EA : bits .and .i64 a 15 = A) (EB : bits .and .i64 b 15 = B) (EC : bits .and .i64 c 15 = C) (E3 : bits .and .i64 op 3 = O3) (E15 : bits .and .i64 op 15 = O15)
    (E16 : bits .and .i64 i 65535 = M16) (E17 : bits .and .i64 i 131071 = M17) (E20 : bits .and .i64 i 1048575 = M20) (E24 : bits .and .i64 i 16777215 = M24)
    (m170 : 0 ≤ M17) (m171 : M17 ≤ 131071) (m200 : 0 ≤ M20) (m201 : M20 ≤ 1048575) (m240 : 0 ≤ M24) (m241 : M24 ≤ 16777215) (o0 : 8 ≤ O) (o1 : O ≤ 10) (oz : ¬ O = 0) (w : World) :
    Calls Tryd.prog 21 #[.agg #[.int .i64 k, .int .i64 op, .int .i64 a, .int .i64 b, .int .i64 c, .int .i64 i, .bool false]] w fun e w' => e = .returned (.agg #[.int .i64 1, .int .i64 O, .int .i64 A, .int .i64 B, .int .i64 C, .int .i64 0, .bool false]) ∧ Kept w w' := by
  go_enter Tryd.func21, Tryd.ntmps21
  go_wp2_with fail
  exact bodyPost_ret (v := .agg #[.int .i64 1, .int .i64 O, .int .i64 A, .int .i64 B, .int .i64 C, .int .i64 0, .bool false]) (by simp [results, Tryd.results21, go_sem]) rfl ⟨rfl, (((Kept.refl w).alloc _ _).alloc _ _).alloc _ _⟩
set_option maxHeartbeats 1000000 in
theorem fit_1_3t (k op a b c i A B C O O3 O15 M16 M17 M20 M24 : Int)
    (EK : wrap64 (1 + (wrap64 (k.tmod 7 + 7)).tmod 7) = 1) (EO : (wrap64 (op.tmod 12 + 12)).tmod 12 = O)
    (EA : bits .and .i64 a 15 = A) (EB : bits .and .i64 b 15 = B) (EC : bits .and .i64 c 15 = C) (E3 : bits .and .i64 op 3 = O3) (E15 : bits .and .i64 op 15 = O15)
    (E16 : bits .and .i64 i 65535 = M16) (E17 : bits .and .i64 i 131071 = M17) (E20 : bits .and .i64 i 1048575 = M20) (E24 : bits .and .i64 i 16777215 = M24)
    (m170 : 0 ≤ M17) (m171 : M17 ≤ 131071) (m200 : 0 ≤ M20) (m201 : M20 ≤ 1048575) (m240 : 0 ≤ M24) (m241 : M24 ≤ 16777215) (o0 : 8 ≤ O) (o1 : O ≤ 10) (oz : ¬ O = 0) (w : World) :
    Calls Tryd.prog 21 #[.agg #[.int .i64 k, .int .i64 op, .int .i64 a, .int .i64 b, .int .i64 c, .int .i64 i, .bool true]] w fun e w' => e = .returned (.agg #[.int .i64 1, .int .i64 O, .int .i64 A, .int .i64 B, .int .i64 C, .int .i64 0, .bool true]) ∧ Kept w w' := by
  go_enter Tryd.func21, Tryd.ntmps21
  go_wp2_with fail
  exact bodyPost_ret (v := .agg #[.int .i64 1, .int .i64 O, .int .i64 A, .int .i64 B, .int .i64 C, .int .i64 0, .bool true]) (by simp [results, Tryd.results21, go_sem]) rfl ⟨rfl, (((Kept.refl w).alloc _ _).alloc _ _).alloc _ _⟩
set_option maxHeartbeats 1000000 in
theorem fit_1_4f (k op a b c i A B C O O3 O15 M16 M17 M20 M24 : Int)
    (EK : wrap64 (1 + (wrap64 (k.tmod 7 + 7)).tmod 7) = 1) (EO : (wrap64 (op.tmod 12 + 12)).tmod 12 = 11)
    (EA : bits .and .i64 a 15 = A) (EB : bits .and .i64 b 15 = B) (EC : bits .and .i64 c 15 = C) (E3 : bits .and .i64 op 3 = O3) (E15 : bits .and .i64 op 15 = O15)
    (E16 : bits .and .i64 i 65535 = M16) (E17 : bits .and .i64 i 131071 = M17) (E20 : bits .and .i64 i 1048575 = M20) (E24 : bits .and .i64 i 16777215 = M24)
    (m170 : 0 ≤ M17) (m171 : M17 ≤ 131071) (m200 : 0 ≤ M20) (m201 : M20 ≤ 1048575) (m240 : 0 ≤ M24) (m241 : M24 ≤ 16777215) (w : World) :
    Calls Tryd.prog 21 #[.agg #[.int .i64 k, .int .i64 op, .int .i64 a, .int .i64 b, .int .i64 c, .int .i64 i, .bool false]] w fun e w' => e = .returned (.agg #[.int .i64 1, .int .i64 11, .int .i64 A, .int .i64 B, .int .i64 C, .int .i64 0, .bool false]) ∧ Kept w w' := by
  go_enter Tryd.func21, Tryd.ntmps21
  go_wp2_with fail
  exact bodyPost_ret (v := .agg #[.int .i64 1, .int .i64 11, .int .i64 A, .int .i64 B, .int .i64 C, .int .i64 0, .bool false]) (by simp [results, Tryd.results21, go_sem]) rfl ⟨rfl, (((Kept.refl w).alloc _ _).alloc _ _).alloc _ _⟩
set_option maxHeartbeats 1000000 in
theorem fit_1_4t (k op a b c i A B C O O3 O15 M16 M17 M20 M24 : Int)
    (EK : wrap64 (1 + (wrap64 (k.tmod 7 + 7)).tmod 7) = 1) (EO : (wrap64 (op.tmod 12 + 12)).tmod 12 = 11)
    (EA : bits .and .i64 a 15 = A) (EB : bits .and .i64 b 15 = B) (EC : bits .and .i64 c 15 = C) (E3 : bits .and .i64 op 3 = O3) (E15 : bits .and .i64 op 15 = O15)
    (E16 : bits .and .i64 i 65535 = M16) (E17 : bits .and .i64 i 131071 = M17) (E20 : bits .and .i64 i 1048575 = M20) (E24 : bits .and .i64 i 16777215 = M24)
    (m170 : 0 ≤ M17) (m171 : M17 ≤ 131071) (m200 : 0 ≤ M20) (m201 : M20 ≤ 1048575) (m240 : 0 ≤ M24) (m241 : M24 ≤ 16777215) (w : World) :
    Calls Tryd.prog 21 #[.agg #[.int .i64 k, .int .i64 op, .int .i64 a, .int .i64 b, .int .i64 c, .int .i64 i, .bool true]] w fun e w' => e = .returned (.agg #[.int .i64 1, .int .i64 11, .int .i64 A, .int .i64 B, .int .i64 C, .int .i64 0, .bool false]) ∧ Kept w w' := by
  go_enter Tryd.func21, Tryd.ntmps21
  go_wp2_with fail
  exact bodyPost_ret (v := .agg #[.int .i64 1, .int .i64 11, .int .i64 A, .int .i64 B, .int .i64 C, .int .i64 0, .bool false]) (by simp [results, Tryd.results21, go_sem]) rfl ⟨rfl, (((Kept.refl w).alloc _ _).alloc _ _).alloc _ _⟩
set_option maxHeartbeats 1000000 in
theorem fit_2_1f (k op a b c i A B C O O3 O15 M16 M17 M20 M24 : Int)
    (EK : wrap64 (1 + (wrap64 (k.tmod 7 + 7)).tmod 7) = 2) (EO : (wrap64 (op.tmod 12 + 12)).tmod 12 = 0)
    (EA : bits .and .i64 a 15 = A) (EB : bits .and .i64 b 15 = B) (EC : bits .and .i64 c 15 = C) (E3 : bits .and .i64 op 3 = O3) (E15 : bits .and .i64 op 15 = O15)
    (E16 : bits .and .i64 i 65535 = M16) (E17 : bits .and .i64 i 131071 = M17) (E20 : bits .and .i64 i 1048575 = M20) (E24 : bits .and .i64 i 16777215 = M24)
    (m170 : 0 ≤ M17) (m171 : M17 ≤ 131071) (m200 : 0 ≤ M20) (m201 : M20 ≤ 1048575) (m240 : 0 ≤ M24) (m241 : M24 ≤ 16777215) (w : World) :
    Calls Tryd.prog 21 #[.agg #[.int .i64 k, .int .i64 op, .int .i64 a, .int .i64 b, .int .i64 c, .int .i64 i, .bool false]] w fun e w' => e = .returned (.agg #[.int .i64 2, .int .i64 0, .int .i64 A, .int .i64 0, .int .i64 0, .int .i64 (M17 - 65536), .bool false]) ∧ Kept w w' := by
  go_enter Tryd.func21, Tryd.ntmps21
  go_wp2_with fail
  exact bodyPost_ret (v := .agg #[.int .i64 2, .int .i64 0, .int .i64 A, .int .i64 0, .int .i64 0, .int .i64 (M17 - 65536), .bool false]) (by simp [results, Tryd.results21, go_sem]) rfl ⟨rfl, (((Kept.refl w).alloc _ _).alloc _ _).alloc _ _⟩
set_option maxHeartbeats 1000000 in
theorem fit_2_1t (k op a b c i A B C O O3 O15 M16 M17 M20 M24 : Int)
    (EK : wrap64 (1 + (wrap64 (k.tmod 7 + 7)).tmod 7) = 2) (EO : (wrap64 (op.tmod 12 + 12)).tmod 12 = 0)
    (EA : bits .and .i64 a 15 = A) (EB : bits .and .i64 b 15 = B) (EC : bits .and .i64 c 15 = C) (E3 : bits .and .i64 op 3 = O3) (E15 : bits .and .i64 op 15 = O15)
    (E16 : bits .and .i64 i 65535 = M16) (E17 : bits .and .i64 i 131071 = M17) (E20 : bits .and .i64 i 1048575 = M20) (E24 : bits .and .i64 i 16777215 = M24)
    (m170 : 0 ≤ M17) (m171 : M17 ≤ 131071) (m200 : 0 ≤ M20) (m201 : M20 ≤ 1048575) (m240 : 0 ≤ M24) (m241 : M24 ≤ 16777215) (w : World) :
    Calls Tryd.prog 21 #[.agg #[.int .i64 k, .int .i64 op, .int .i64 a, .int .i64 b, .int .i64 c, .int .i64 i, .bool true]] w fun e w' => e = .returned (.agg #[.int .i64 2, .int .i64 0, .int .i64 A, .int .i64 0, .int .i64 0, .int .i64 M16, .bool true]) ∧ Kept w w' := by
  go_enter Tryd.func21, Tryd.ntmps21
  go_wp2_with fail
  exact bodyPost_ret (v := .agg #[.int .i64 2, .int .i64 0, .int .i64 A, .int .i64 0, .int .i64 0, .int .i64 M16, .bool true]) (by simp [results, Tryd.results21, go_sem]) rfl ⟨rfl, (((Kept.refl w).alloc _ _).alloc _ _).alloc _ _⟩
set_option maxHeartbeats 1000000 in
theorem fit_2_2f (k op a b c i A B C O O3 O15 M16 M17 M20 M24 : Int)
    (EK : wrap64 (1 + (wrap64 (k.tmod 7 + 7)).tmod 7) = 2) (EO : (wrap64 (op.tmod 12 + 12)).tmod 12 = O)
    (EA : bits .and .i64 a 15 = A) (EB : bits .and .i64 b 15 = B) (EC : bits .and .i64 c 15 = C) (E3 : bits .and .i64 op 3 = O3) (E15 : bits .and .i64 op 15 = O15)
    (E16 : bits .and .i64 i 65535 = M16) (E17 : bits .and .i64 i 131071 = M17) (E20 : bits .and .i64 i 1048575 = M20) (E24 : bits .and .i64 i 16777215 = M24)
    (m170 : 0 ≤ M17) (m171 : M17 ≤ 131071) (m200 : 0 ≤ M20) (m201 : M20 ≤ 1048575) (m240 : 0 ≤ M24) (m241 : M24 ≤ 16777215) (o0 : 1 ≤ O) (o1 : O < 8) (oz : ¬ O = 0) (w : World) :
    Calls Tryd.prog 21 #[.agg #[.int .i64 k, .int .i64 op, .int .i64 a, .int .i64 b, .int .i64 c, .int .i64 i, .bool false]] w fun e w' => e = .returned (.agg #[.int .i64 2, .int .i64 O, .int .i64 A, .int .i64 B, .int .i64 0, .int .i64 (M17 - 65536), .bool false]) ∧ Kept w w' := by
  go_enter Tryd.func21, Tryd.ntmps21
  go_wp2_with fail
  exact bodyPost_ret (v := .agg #[.int .i64 2, .int .i64 O, .int .i64 A, .int .i64 B, .int .i64 0, .int .i64 (M17 - 65536), .bool false]) (by simp [results, Tryd.results21, go_sem]) rfl ⟨rfl, (((Kept.refl w).alloc _ _).alloc _ _).alloc _ _⟩
set_option maxHeartbeats 1000000 in
theorem fit_2_2t (k op a b c i A B C O O3 O15 M16 M17 M20 M24 : Int)
    (EK : wrap64 (1 + (wrap64 (k.tmod 7 + 7)).tmod 7) = 2) (EO : (wrap64 (op.tmod 12 + 12)).tmod 12 = O)
    (EA : bits .and .i64 a 15 = A) (EB : bits .and .i64 b 15 = B) (EC : bits .and .i64 c 15 = C) (E3 : bits .and .i64 op 3 = O3) (E15 : bits .and .i64 op 15 = O15)
    (E16 : bits .and .i64 i 65535 = M16) (E17 : bits .and .i64 i 131071 = M17) (E20 : bits .and .i64 i 1048575 = M20) (E24 : bits .and .i64 i 16777215 = M24)
    (m170 : 0 ≤ M17) (m171 : M17 ≤ 131071) (m200 : 0 ≤ M20) (m201 : M20 ≤ 1048575) (m240 : 0 ≤ M24) (m241 : M24 ≤ 16777215) (o0 : 1 ≤ O) (o1 : O < 8) (oz : ¬ O = 0) (w : World) :
    Calls Tryd.prog 21 #[.agg #[.int .i64 k, .int .i64 op, .int .i64 a, .int .i64 b, .int .i64 c, .int .i64 i, .bool true]] w fun e w' => e = .returned (.agg #[.int .i64 2, .int .i64 O, .int .i64 A, .int .i64 B, .int .i64 0, .int .i64 (M17 - 65536), .bool false]) ∧ Kept w w' := by
  go_enter Tryd.func21, Tryd.ntmps21
  go_wp2_with fail
  exact bodyPost_ret (v := .agg #[.int .i64 2, .int .i64 O, .int .i64 A, .int .i64 B, .int .i64 0, .int .i64 (M17 - 65536), .bool false]) (by simp [results, Tryd.results21, go_sem]) rfl ⟨rfl, (((Kept.refl w).alloc _ _).alloc _ _).alloc _ _⟩
set_option maxHeartbeats 1000000 in
theorem fit_2_3f (k op a b c i A B C O O3 O15 M16 M17 M20 M24 : Int)
    (EK : wrap64 (1 + (wrap64 (k.tmod 7 + 7)).tmod 7) = 2) (EO : (wrap64 (op.tmod 12 + 12)).tmod 12 = O)
    (EA : bits .and .i64 a 15 = A) (EB : bits .and .i64 b 15 = B) (EC : bits .and .i64 c 15 = C) (E3 : bits .and .i64 op 3 = O3) (E15 : bits .and .i64 op 15 = O15)
    (E16 : bits .and .i64 i 65535 = M16) (E17 : bits .and .i64 i 131071 = M17) (E20 : bits .and .i64 i 1048575 = M20) (E24 : bits .and .i64 i 16777215 = M24)
    (m170 : 0 ≤ M17) (m171 : M17 ≤ 131071) (m200 : 0 ≤ M20) (m201 : M20 ≤ 1048575) (m240 : 0 ≤ M24) (m241 : M24 ≤ 16777215) (o0 : 8 ≤ O) (o1 : O ≤ 10) (oz : ¬ O = 0) (w : World) :
    Calls Tryd.prog 21 #[.agg #[.int .i64 k, .int .i64 op, .int .i64 a, .int .i64 b, .int .i64 c, .int .i64 i, .bool false]] w fun e w' => e = .returned (.agg #[.int .i64 2, .int .i64 O, .int .i64 A, .int .i64 B, .int .i64 0, .int .i64 (M17 - 65536), .bool false]) ∧ Kept w w' := by
  go_enter Tryd.func21, Tryd.ntmps21
  go_wp2_with fail
  exact bodyPost_ret (v := .agg #[.int .i64 2, .int .i64 O, .int .i64 A, .int .i64 B, .int .i64 0, .int .i64 (M17 - 65536), .bool false]) (by simp [results, Tryd.results21, go_sem]) rfl ⟨rfl, (((Kept.refl w).alloc _ _).alloc _ _).alloc _ _⟩
set_option maxHeartbeats 1000000 in
theorem fit_2_3t (k op a b c i A B C O O3 O15 M16 M17 M20 M24 : Int)
    (EK : wrap64 (1 + (wrap64 (k.tmod 7 + 7)).tmod 7) = 2) (EO : (wrap64 (op.tmod 12 + 12)).tmod 12 = O)
    (EA : bits .and .i64 a 15 = A) (EB : bits .and .i64 b 15 = B) (EC : bits .and .i64 c 15 = C) (E3 : bits .and .i64 op 3 = O3) (E15 : bits .and .i64 op 15 = O15)
    (E16 : bits .and .i64 i 65535 = M16) (E17 : bits .and .i64 i 131071 = M17) (E20 : bits .and .i64 i 1048575 = M20) (E24 : bits .and .i64 i 16777215 = M24)
    (m170 : 0 ≤ M17) (m171 : M17 ≤ 131071) (m200 : 0 ≤ M20) (m201 : M20 ≤ 1048575) (m240 : 0 ≤ M24) (m241 : M24 ≤ 16777215) (o0 : 8 ≤ O) (o1 : O ≤ 10) (oz : ¬ O = 0) (w : World) :
    Calls Tryd.prog 21 #[.agg #[.int .i64 k, .int .i64 op, .int .i64 a, .int .i64 b, .int .i64 c, .int .i64 i, .bool true]] w fun e w' => e = .returned (.agg #[.int .i64 2, .int .i64 O, .int .i64 A, .int .i64 B, .int .i64 0, .int .i64 (M17 - 65536), .bool true]) ∧ Kept w w' := by
  go_enter Tryd.func21, Tryd.ntmps21
  go_wp2_with fail
  exact bodyPost_ret (v := .agg #[.int .i64 2, .int .i64 O, .int .i64 A, .int .i64 B, .int .i64 0, .int .i64 (M17 - 65536), .bool true]) (by simp [results, Tryd.results21, go_sem]) rfl ⟨rfl, (((Kept.refl w).alloc _ _).alloc _ _).alloc _ _⟩
set_option maxHeartbeats 1000000 in
theorem fit_2_4f (k op a b c i A B C O O3 O15 M16 M17 M20 M24 : Int)
    (EK : wrap64 (1 + (wrap64 (k.tmod 7 + 7)).tmod 7) = 2) (EO : (wrap64 (op.tmod 12 + 12)).tmod 12 = 11)
    (EA : bits .and .i64 a 15 = A) (EB : bits .and .i64 b 15 = B) (EC : bits .and .i64 c 15 = C) (E3 : bits .and .i64 op 3 = O3) (E15 : bits .and .i64 op 15 = O15)
    (E16 : bits .and .i64 i 65535 = M16) (E17 : bits .and .i64 i 131071 = M17) (E20 : bits .and .i64 i 1048575 = M20) (E24 : bits .and .i64 i 16777215 = M24)
    (m170 : 0 ≤ M17) (m171 : M17 ≤ 131071) (m200 : 0 ≤ M20) (m201 : M20 ≤ 1048575) (m240 : 0 ≤ M24) (m241 : M24 ≤ 16777215) (w : World) :
    Calls Tryd.prog 21 #[.agg #[.int .i64 k, .int .i64 op, .int .i64 a, .int .i64 b, .int .i64 c, .int .i64 i, .bool false]] w fun e w' => e = .returned (.agg #[.int .i64 2, .int .i64 11, .int .i64 A, .int .i64 B, .int .i64 0, .int .i64 (M17 - 65536), .bool false]) ∧ Kept w w' := by
  go_enter Tryd.func21, Tryd.ntmps21
  go_wp2_with fail
  exact bodyPost_ret (v := .agg #[.int .i64 2, .int .i64 11, .int .i64 A, .int .i64 B, .int .i64 0, .int .i64 (M17 - 65536), .bool false]) (by simp [results, Tryd.results21, go_sem]) rfl ⟨rfl, (((Kept.refl w).alloc _ _).alloc _ _).alloc _ _⟩
set_option maxHeartbeats 1000000 in
theorem fit_2_4t (k op a b c i A B C O O3 O15 M16 M17 M20 M24 : Int)
    (EK : wrap64 (1 + (wrap64 (k.tmod 7 + 7)).tmod 7) = 2) (EO : (wrap64 (op.tmod 12 + 12)).tmod 12 = 11)
    (EA : bits .and .i64 a 15 = A) (EB : bits .and .i64 b 15 = B) (EC : bits .and .i64 c 15 = C) (E3 : bits .and .i64 op 3 = O3) (E15 : bits .and .i64 op 15 = O15)
    (E16 : bits .and .i64 i 65535 = M16) (E17 : bits .and .i64 i 131071 = M17) (E20 : bits .and .i64 i 1048575 = M20) (E24 : bits .and .i64 i 16777215 = M24)
    (m170 : 0 ≤ M17) (m171 : M17 ≤ 131071) (m200 : 0 ≤ M20) (m201 : M20 ≤ 1048575) (m240 : 0 ≤ M24) (m241 : M24 ≤ 16777215) (w : World) :
    Calls Tryd.prog 21 #[.agg #[.int .i64 k, .int .i64 op, .int .i64 a, .int .i64 b, .int .i64 c, .int .i64 i, .bool true]] w fun e w' => e = .returned (.agg #[.int .i64 2, .int .i64 11, .int .i64 A, .int .i64 B, .int .i64 0, .int .i64 (M17 - 65536), .bool false]) ∧ Kept w w' := by
  go_enter Tryd.func21, Tryd.ntmps21
  go_wp2_with fail
  exact bodyPost_ret (v := .agg #[.int .i64 2, .int .i64 11, .int .i64 A, .int .i64 B, .int .i64 0, .int .i64 (M17 - 65536), .bool false]) (by simp [results, Tryd.results21, go_sem]) rfl ⟨rfl, (((Kept.refl w).alloc _ _).alloc _ _).alloc _ _⟩
set_option maxHeartbeats 1000000 in
theorem fit_3 (k op a b c i A B C O O3 O15 M16 M17 M20 M24 : Int) (u : Bool)
    (EK : wrap64 (1 + (wrap64 (k.tmod 7 + 7)).tmod 7) = 3) (EO : (wrap64 (op.tmod 12 + 12)).tmod 12 = O)
    (EA : bits .and .i64 a 15 = A) (EB : bits .and .i64 b 15 = B) (EC : bits .and .i64 c 15 = C) (E3 : bits .and .i64 op 3 = O3) (E15 : bits .and .i64 op 15 = O15)
    (E16 : bits .and .i64 i 65535 = M16) (E17 : bits .and .i64 i 131071 = M17) (E20 : bits .and .i64 i 1048575 = M20) (E24 : bits .and .i64 i 16777215 = M24)
    (m170 : 0 ≤ M17) (m171 : M17 ≤ 131071) (m200 : 0 ≤ M20) (m201 : M20 ≤ 1048575) (m240 : 0 ≤ M24) (m241 : M24 ≤ 16777215) (w : World) :
    Calls Tryd.prog 21 #[.agg #[.int .i64 k, .int .i64 op, .int .i64 a, .int .i64 b, .int .i64 c, .int .i64 i, .bool u]] w fun e w' => e = .returned (.agg #[.int .i64 3, .int .i64 0, .int .i64 A, .int .i64 0, .int .i64 0, .int .i64 0, .bool false]) ∧ Kept w w' := by
  go_enter Tryd.func21, Tryd.ntmps21
  go_wp2_with fail
  exact bodyPost_ret (v := .agg #[.int .i64 3, .int .i64 0, .int .i64 A, .int .i64 0, .int .i64 0, .int .i64 0, .bool false]) (by simp [results, Tryd.results21, go_sem]) rfl ⟨rfl, (((Kept.refl w).alloc _ _).alloc _ _).alloc _ _⟩
set_option maxHeartbeats 1000000 in
theorem fit_4 (k op a b c i A B C O O3 O15 M16 M17 M20 M24 : Int) (u : Bool)
    (EK : wrap64 (1 + (wrap64 (k.tmod 7 + 7)).tmod 7) = 4) (EO : (wrap64 (op.tmod 12 + 12)).tmod 12 = O)
    (EA : bits .and .i64 a 15 = A) (EB : bits .and .i64 b 15 = B) (EC : bits .and .i64 c 15 = C) (E3 : bits .and .i64 op 3 = O3) (E15 : bits .and .i64 op 15 = O15)
    (E16 : bits .and .i64 i 65535 = M16) (E17 : bits .and .i64 i 131071 = M17) (E20 : bits .and .i64 i 1048575 = M20) (E24 : bits .and .i64 i 16777215 = M24)
    (m170 : 0 ≤ M17) (m171 : M17 ≤ 131071) (m200 : 0 ≤ M20) (m201 : M20 ≤ 1048575) (m240 : 0 ≤ M24) (m241 : M24 ≤ 16777215) (w : World) :
    Calls Tryd.prog 21 #[.agg #[.int .i64 k, .int .i64 op, .int .i64 a, .int .i64 b, .int .i64 c, .int .i64 i, .bool u]] w fun e w' => e = .returned (.agg #[.int .i64 4, .int .i64 0, .int .i64 A, .int .i64 0, .int .i64 0, .int .i64 0, .bool false]) ∧ Kept w w' := by
  go_enter Tryd.func21, Tryd.ntmps21
  go_wp2_with fail
  exact bodyPost_ret (v := .agg #[.int .i64 4, .int .i64 0, .int .i64 A, .int .i64 0, .int .i64 0, .int .i64 0, .bool false]) (by simp [results, Tryd.results21, go_sem]) rfl ⟨rfl, (((Kept.refl w).alloc _ _).alloc _ _).alloc _ _⟩
set_option maxHeartbeats 1000000 in
theorem fit_5 (k op a b c i A B C O O3 O15 M16 M17 M20 M24 : Int) (u : Bool)
    (EK : wrap64 (1 + (wrap64 (k.tmod 7 + 7)).tmod 7) = 5) (EO : (wrap64 (op.tmod 12 + 12)).tmod 12 = O)
    (EA : bits .and .i64 a 15 = A) (EB : bits .and .i64 b 15 = B) (EC : bits .and .i64 c 15 = C) (E3 : bits .and .i64 op 3 = O3) (E15 : bits .and .i64 op 15 = O15)
    (E16 : bits .and .i64 i 65535 = M16) (E17 : bits .and .i64 i 131071 = M17) (E20 : bits .and .i64 i 1048575 = M20) (E24 : bits .and .i64 i 16777215 = M24)
    (m170 : 0 ≤ M17) (m171 : M17 ≤ 131071) (m200 : 0 ≤ M20) (m201 : M20 ≤ 1048575) (m240 : 0 ≤ M24) (m241 : M24 ≤ 16777215) (w : World) :
    Calls Tryd.prog 21 #[.agg #[.int .i64 k, .int .i64 op, .int .i64 a, .int .i64 b, .int .i64 c, .int .i64 i, .bool u]] w fun e w' => e = .returned (.agg #[.int .i64 5, .int .i64 O3, .int .i64 A, .int .i64 B, .int .i64 0, .int .i64 (M20 - 524288), .bool false]) ∧ Kept w w' := by
  go_enter Tryd.func21, Tryd.ntmps21
  go_wp2_with fail
  exact bodyPost_ret (v := .agg #[.int .i64 5, .int .i64 O3, .int .i64 A, .int .i64 B, .int .i64 0, .int .i64 (M20 - 524288), .bool false]) (by simp [results, Tryd.results21, go_sem]) rfl ⟨rfl, (((Kept.refl w).alloc _ _).alloc _ _).alloc _ _⟩
set_option maxHeartbeats 1000000 in
theorem fit_6 (k op a b c i A B C O O3 O15 M16 M17 M20 M24 : Int) (u : Bool)
    (EK : wrap64 (1 + (wrap64 (k.tmod 7 + 7)).tmod 7) = 6) (EO : (wrap64 (op.tmod 12 + 12)).tmod 12 = O)
    (EA : bits .and .i64 a 15 = A) (EB : bits .and .i64 b 15 = B) (EC : bits .and .i64 c 15 = C) (E3 : bits .and .i64 op 3 = O3) (E15 : bits .and .i64 op 15 = O15)
    (E16 : bits .and .i64 i 65535 = M16) (E17 : bits .and .i64 i 131071 = M17) (E20 : bits .and .i64 i 1048575 = M20) (E24 : bits .and .i64 i 16777215 = M24)
    (m170 : 0 ≤ M17) (m171 : M17 ≤ 131071) (m200 : 0 ≤ M20) (m201 : M20 ≤ 1048575) (m240 : 0 ≤ M24) (m241 : M24 ≤ 16777215) (w : World) :
    Calls Tryd.prog 21 #[.agg #[.int .i64 k, .int .i64 op, .int .i64 a, .int .i64 b, .int .i64 c, .int .i64 i, .bool u]] w fun e w' => e = .returned (.agg #[.int .i64 6, .int .i64 O15, .int .i64 0, .int .i64 0, .int .i64 C, .int .i64 0, .bool u]) ∧ Kept w w' := by
  go_enter Tryd.func21, Tryd.ntmps21
  go_wp2_with fail
  exact bodyPost_ret (v := .agg #[.int .i64 6, .int .i64 O15, .int .i64 0, .int .i64 0, .int .i64 C, .int .i64 0, .bool u]) (by simp [results, Tryd.results21, go_sem]) rfl ⟨rfl, (((Kept.refl w).alloc _ _).alloc _ _).alloc _ _⟩
set_option maxHeartbeats 1000000 in
theorem fit_7 (k op a b c i A B C O O3 O15 M16 M17 M20 M24 : Int) (u : Bool)
    (EK : wrap64 (1 + (wrap64 (k.tmod 7 + 7)).tmod 7) = 7) (EO : (wrap64 (op.tmod 12 + 12)).tmod 12 = O)
    (EA : bits .and .i64 a 15 = A) (EB : bits .and .i64 b 15 = B) (EC : bits .and .i64 c 15 = C) (E3 : bits .and .i64 op 3 = O3) (E15 : bits .and .i64 op 15 = O15)
    (E16 : bits .and .i64 i 65535 = M16) (E17 : bits .and .i64 i 131071 = M17) (E20 : bits .and .i64 i 1048575 = M20) (E24 : bits .and .i64 i 16777215 = M24)
    (m170 : 0 ≤ M17) (m171 : M17 ≤ 131071) (m200 : 0 ≤ M20) (m201 : M20 ≤ 1048575) (m240 : 0 ≤ M24) (m241 : M24 ≤ 16777215) (w : World) :
    Calls Tryd.prog 21 #[.agg #[.int .i64 k, .int .i64 op, .int .i64 a, .int .i64 b, .int .i64 c, .int .i64 i, .bool u]] w fun e w' => e = .returned (.agg #[.int .i64 7, .int .i64 O15, .int .i64 0, .int .i64 0, .int .i64 0, .int .i64 (M24 - 8388608), .bool u]) ∧ Kept w w' := by
  go_enter Tryd.func21, Tryd.ntmps21
  go_wp2_with fail
  exact bodyPost_ret (v := .agg #[.int .i64 7, .int .i64 O15, .int .i64 0, .int .i64 0, .int .i64 0, .int .i64 (M24 - 8388608), .bool u]) (by simp [results, Tryd.results21, go_sem]) rfl ⟨rfl, (((Kept.refl w).alloc _ _).alloc _ _).alloc _ _⟩
end Go.Proofs.YtkkoihhkfophnaaDoor
