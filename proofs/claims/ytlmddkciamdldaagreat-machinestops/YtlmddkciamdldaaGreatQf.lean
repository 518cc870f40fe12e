import Derived.Below
import Derived.Carry
import Derived.ChangeKeysEq
import Derived.ChangeSame
import Derived.OpenShut
import Derived.RowKit
import Derived.WideShapes
import Derived.Test.YtlmddkciamdldaaGreatQe
/-
  The contracts of rivetref03's guess and Decode.
-/
namespace Go.Proofs.YtlmddkciamdldaaGreat
open Go.RowKit
set_option linter.unusedVariables false
set_option linter.unusedSimpArgs false
set_option maxRecDepth 100000
set_option maxRecDepth 100000 in
set_option maxHeartbeats 1000000 in
theorem guess_0a (x a b : Int) (w : World) (x0 : 0 ≤ x) (x1 : x < 4294967296)
    (EF : x / 1073741824 = 0) (EU : (bits .and .u32 (x / 536870912) 1 == 1) = true) (EV : (bits .and .u32 (x / 268435456) 1 == 1) = true) (EA : bits .and .u32 (x / 16777216) 15 = a) (a0 : 0 ≤ a) (a1 : a ≤ 15) (EB : bits .and .u32 (x / 1048576) 15 = b) (b0 : 0 ≤ b) (b1 : b ≤ 15) (EO : bits .and .u32 (x / 65536) 15 = 0) :
    Calls Tryz.prog 48 #[.int .u32 x] w fun e w' => e = .returned (.agg #[.int .i64 4, .int .i64 0, .int .i64 a, .int .i64 0, .int .i64 0, .int .i64 0, .bool false]) ∧ Kept w w' := by
  go_enter Tryz.func48, Tryz.ntmps48
  go_wp2_with fail
  exact bodyPost_ret (v := .agg #[.int .i64 4, .int .i64 0, .int .i64 a, .int .i64 0, .int .i64 0, .int .i64 0, .bool false]) (by simp [results, Tryz.results48, go_sem]) rfl ⟨rfl, (Kept.refl w).alloc _ _⟩
set_option maxRecDepth 100000 in
set_option maxHeartbeats 1000000 in
theorem guess_0b (x a b : Int) (w : World) (x0 : 0 ≤ x) (x1 : x < 4294967296)
    (EF : x / 1073741824 = 0) (EU : (bits .and .u32 (x / 536870912) 1 == 1) = true) (EV : (bits .and .u32 (x / 268435456) 1 == 1) = false) (EA : bits .and .u32 (x / 16777216) 15 = a) (a0 : 0 ≤ a) (a1 : a ≤ 15) (EB : bits .and .u32 (x / 1048576) 15 = b) (b0 : 0 ≤ b) (b1 : b ≤ 15) (EO : bits .and .u32 (x / 65536) 15 = 0) :
    Calls Tryz.prog 48 #[.int .u32 x] w fun e w' => e = .returned (.agg #[.int .i64 3, .int .i64 0, .int .i64 a, .int .i64 0, .int .i64 0, .int .i64 0, .bool false]) ∧ Kept w w' := by
  go_enter Tryz.func48, Tryz.ntmps48
  go_wp2_with fail
  exact bodyPost_ret (v := .agg #[.int .i64 3, .int .i64 0, .int .i64 a, .int .i64 0, .int .i64 0, .int .i64 0, .bool false]) (by simp [results, Tryz.results48, go_sem]) rfl ⟨rfl, (Kept.refl w).alloc _ _⟩
set_option maxRecDepth 100000 in
set_option maxHeartbeats 1000000 in
theorem guess_0c (x a b c op : Int) (v : Bool) (w : World) (x0 : 0 ≤ x) (x1 : x < 4294967296)
    (EF : x / 1073741824 = 0) (EU : (bits .and .u32 (x / 536870912) 1 == 1) = true) (EV : (bits .and .u32 (x / 268435456) 1 == 1) = v) (EA : bits .and .u32 (x / 16777216) 15 = a) (a0 : 0 ≤ a) (a1 : a ≤ 15) (EB : bits .and .u32 (x / 1048576) 15 = b) (b0 : 0 ≤ b) (b1 : b ≤ 15) (EO : bits .and .u32 (x / 65536) 15 = op) (o0 : 0 ≤ op) (o1 : op ≤ 15) (hz : (op == 0) = false) (hz1 : ¬ op = 0) (EC : bits .and .u32 x 15 = c) (c0 : 0 ≤ c) (c1 : c ≤ 15) :
    Calls Tryz.prog 48 #[.int .u32 x] w fun e w' => e = .returned (.agg #[.int .i64 1, .int .i64 op, .int .i64 a, .int .i64 b, .int .i64 c, .int .i64 0, .bool true]) ∧ Kept w w' := by
  go_enter Tryz.func48, Tryz.ntmps48
  go_wp2_with fail
  exact bodyPost_ret (v := .agg #[.int .i64 1, .int .i64 op, .int .i64 a, .int .i64 b, .int .i64 c, .int .i64 0, .bool true]) (by simp [results, Tryz.results48, go_sem]) rfl ⟨rfl, (Kept.refl w).alloc _ _⟩
set_option maxRecDepth 100000 in
set_option maxHeartbeats 1000000 in
theorem guess_0d (x a b c op : Int) (v : Bool) (w : World) (x0 : 0 ≤ x) (x1 : x < 4294967296)
    (EF : x / 1073741824 = 0) (EU : (bits .and .u32 (x / 536870912) 1 == 1) = false) (EV : (bits .and .u32 (x / 268435456) 1 == 1) = v) (EA : bits .and .u32 (x / 16777216) 15 = a) (a0 : 0 ≤ a) (a1 : a ≤ 15) (EB : bits .and .u32 (x / 1048576) 15 = b) (b0 : 0 ≤ b) (b1 : b ≤ 15) (EO : bits .and .u32 (x / 65536) 15 = op) (o0 : 0 ≤ op) (o1 : op ≤ 15) (EC : bits .and .u32 x 15 = c) (c0 : 0 ≤ c) (c1 : c ≤ 15) :
    Calls Tryz.prog 48 #[.int .u32 x] w fun e w' => e = .returned (.agg #[.int .i64 1, .int .i64 op, .int .i64 a, .int .i64 b, .int .i64 c, .int .i64 0, .bool false]) ∧ Kept w w' := by
  go_enter Tryz.func48, Tryz.ntmps48
  go_wp2_with fail
  exact bodyPost_ret (v := .agg #[.int .i64 1, .int .i64 op, .int .i64 a, .int .i64 b, .int .i64 c, .int .i64 0, .bool false]) (by simp [results, Tryz.results48, go_sem]) rfl ⟨rfl, (Kept.refl w).alloc _ _⟩
set_option maxRecDepth 100000 in
set_option maxHeartbeats 1000000 in
theorem guess_1t (x a b m op : Int) (u : Bool) (w : World) (x0 : 0 ≤ x) (x1 : x < 4294967296)
    (EF : x / 1073741824 = 1) (EU : (bits .and .u32 (x / 536870912) 1 == 1) = u) (EV : (bits .and .u32 (x / 268435456) 1 == 1) = true) (EA : bits .and .u32 (x / 16777216) 15 = a) (a0 : 0 ≤ a) (a1 : a ≤ 15) (EB : bits .and .u32 (x / 1048576) 15 = b) (b0 : 0 ≤ b) (b1 : b ≤ 15) (EO : bits .and .u32 (x / 65536) 15 = op) (o0 : 0 ≤ op) (o1 : op ≤ 15) (EM : bits .and .u32 x 65535 = m) (m0 : 0 ≤ m) (m1 : m ≤ 65535) :
    Calls Tryz.prog 48 #[.int .u32 x] w fun e w' => e = .returned (.agg #[.int .i64 2, .int .i64 op, .int .i64 a, .int .i64 b, .int .i64 0, .int .i64 (m - 65536), .bool u]) ∧ Kept w w' := by
  go_enter Tryz.func48, Tryz.ntmps48
  go_wp2_with fail
  exact bodyPost_ret (v := .agg #[.int .i64 2, .int .i64 op, .int .i64 a, .int .i64 b, .int .i64 0, .int .i64 (m - 65536), .bool u]) (by simp [results, Tryz.results48, go_sem]) rfl ⟨rfl, (Kept.refl w).alloc _ _⟩
set_option maxRecDepth 100000 in
set_option maxHeartbeats 1000000 in
theorem guess_1f (x a b m op : Int) (u : Bool) (w : World) (x0 : 0 ≤ x) (x1 : x < 4294967296)
    (EF : x / 1073741824 = 1) (EU : (bits .and .u32 (x / 536870912) 1 == 1) = u) (EV : (bits .and .u32 (x / 268435456) 1 == 1) = false) (EA : bits .and .u32 (x / 16777216) 15 = a) (a0 : 0 ≤ a) (a1 : a ≤ 15) (EB : bits .and .u32 (x / 1048576) 15 = b) (b0 : 0 ≤ b) (b1 : b ≤ 15) (EO : bits .and .u32 (x / 65536) 15 = op) (o0 : 0 ≤ op) (o1 : op ≤ 15) (EM : bits .and .u32 x 65535 = m) (m0 : 0 ≤ m) (m1 : m ≤ 65535) :
    Calls Tryz.prog 48 #[.int .u32 x] w fun e w' => e = .returned (.agg #[.int .i64 2, .int .i64 op, .int .i64 a, .int .i64 b, .int .i64 0, .int .i64 m, .bool u]) ∧ Kept w w' := by
  go_enter Tryz.func48, Tryz.ntmps48
  go_wp2_with fail
  exact bodyPost_ret (v := .agg #[.int .i64 2, .int .i64 op, .int .i64 a, .int .i64 b, .int .i64 0, .int .i64 m, .bool u]) (by simp [results, Tryz.results48, go_sem]) rfl ⟨rfl, (Kept.refl w).alloc _ _⟩
set_option maxRecDepth 100000 in
set_option maxHeartbeats 1000000 in
theorem guess_2 (x a b op i U V : Int) (u : Bool) (v : Bool) (w : World) (x0 : 0 ≤ x) (x1 : x < 4294967296)
    (EF : x / 1073741824 = 2) (EU : (bits .and .u32 (x / 536870912) 1 == 1) = u) (EV : (bits .and .u32 (x / 268435456) 1 == 1) = v) (EA : bits .and .u32 (x / 16777216) 15 = a) (a0 : 0 ≤ a) (a1 : a ≤ 15) (EB : bits .and .u32 (x / 1048576) 15 = b) (b0 : 0 ≤ b) (b1 : b ≤ 15) (EO : bits .and .u32 (x / 65536) 15 = op) (o0 : 0 ≤ op) (o1 : op ≤ 15) (U0 : 0 ≤ U) (U1 : U ≤ 1) (V0 : 0 ≤ V) (V1 : V ≤ 1)
    (CU : Hid (∀ w, Calls Tryz.prog 42 #[.bool u] w fun e w' => e = .returned (.int .u32 U) ∧ w = w'))
    (CV : Hid (∀ w, Calls Tryz.prog 42 #[.bool v] w fun e w' => e = .returned (.int .u32 V) ∧ w = w'))
    (CS : Hid (∀ w, Calls Tryz.prog 67 #[.int .u32 x, .int .i64 20] w fun e w' => e = .returned (.int .i64 i) ∧ w = w')) :
    Calls Tryz.prog 48 #[.int .u32 x] w fun e w' => e = .returned (.agg #[.int .i64 5, .int .i64 (2 * U + V), .int .i64 a, .int .i64 b, .int .i64 0, .int .i64 i, .bool false]) ∧ Kept w w' := by
  go_enter Tryz.func48, Tryz.ntmps48
  go_wp2_with fail
  refine (CU.out _).mono ?_; rintro e w' ⟨rfl, rfl⟩
  go_wp2_with fail
  refine (CV.out _).mono ?_; rintro e w' ⟨rfl, rfl⟩
  go_wp2_with fail
  refine (CS.out _).mono ?_; rintro e w' ⟨rfl, rfl⟩
  go_wp2_with fail
  exact bodyPost_ret (v := .agg #[.int .i64 5, .int .i64 (2 * U + V), .int .i64 a, .int .i64 b, .int .i64 0, .int .i64 i, .bool false]) (by simp [results, Tryz.results48, go_sem]) rfl ⟨rfl, (Kept.refl w).alloc _ _⟩
set_option maxRecDepth 100000 in
set_option maxHeartbeats 1000000 in
theorem guess_3j (x a b op i : Int) (v : Bool) (w : World) (x0 : 0 ≤ x) (x1 : x < 4294967296)
    (EF : x / 1073741824 = 3) (EU : (bits .and .u32 (x / 536870912) 1 == 1) = true) (EV : (bits .and .u32 (x / 268435456) 1 == 1) = v) (EA : bits .and .u32 (x / 16777216) 15 = a) (a0 : 0 ≤ a) (a1 : a ≤ 15) (EB : bits .and .u32 (x / 1048576) 15 = b) (b0 : 0 ≤ b) (b1 : b ≤ 15) (EO : bits .and .u32 (x / 65536) 15 = op) (o0 : 0 ≤ op) (o1 : op ≤ 15)
    (CS : Hid (∀ w, Calls Tryz.prog 67 #[.int .u32 x, .int .i64 24] w fun e w' => e = .returned (.int .i64 i) ∧ w = w')) :
    Calls Tryz.prog 48 #[.int .u32 x] w fun e w' => e = .returned (.agg #[.int .i64 7, .int .i64 a, .int .i64 0, .int .i64 0, .int .i64 0, .int .i64 i, .bool v]) ∧ Kept w w' := by
  go_enter Tryz.func48, Tryz.ntmps48
  go_wp2_with fail
  refine (CS.out _).mono ?_; rintro e w' ⟨rfl, rfl⟩
  go_wp2_with fail
  exact bodyPost_ret (v := .agg #[.int .i64 7, .int .i64 a, .int .i64 0, .int .i64 0, .int .i64 0, .int .i64 i, .bool v]) (by simp [results, Tryz.results48, go_sem]) rfl ⟨rfl, (Kept.refl w).alloc _ _⟩
set_option maxRecDepth 100000 in
set_option maxHeartbeats 1000000 in
theorem guess_3b (x a b op c : Int) (v : Bool) (w : World) (x0 : 0 ≤ x) (x1 : x < 4294967296)
    (EF : x / 1073741824 = 3) (EU : (bits .and .u32 (x / 536870912) 1 == 1) = false) (EV : (bits .and .u32 (x / 268435456) 1 == 1) = v) (EA : bits .and .u32 (x / 16777216) 15 = a) (a0 : 0 ≤ a) (a1 : a ≤ 15) (EB : bits .and .u32 (x / 1048576) 15 = b) (b0 : 0 ≤ b) (b1 : b ≤ 15) (EO : bits .and .u32 (x / 65536) 15 = op) (o0 : 0 ≤ op) (o1 : op ≤ 15) (EC : bits .and .u32 x 15 = c) (c0 : 0 ≤ c) (c1 : c ≤ 15) :
    Calls Tryz.prog 48 #[.int .u32 x] w fun e w' => e = .returned (.agg #[.int .i64 6, .int .i64 a, .int .i64 0, .int .i64 0, .int .i64 c, .int .i64 0, .bool v]) ∧ Kept w w' := by
  go_enter Tryz.func48, Tryz.ntmps48
  go_wp2_with fail
  exact bodyPost_ret (v := .agg #[.int .i64 6, .int .i64 a, .int .i64 0, .int .i64 0, .int .i64 c, .int .i64 0, .bool v]) (by simp [results, Tryz.results48, go_sem]) rfl ⟨rfl, (Kept.refl w).alloc _ _⟩
theorem rsgn_lit (x : Int) (hx : U32 x) (n r : Int) (hr : F.sgnd x (F.clamp n) = r) (w : World) :
    Calls Tryz.prog 67 #[.int .u32 x, .int .i64 n] w fun e w' => e = .returned (.int .i64 r) ∧ w = w' := hr ▸ rsgnd_any x n hx.1 hx.2 w
theorem rguess_any (x : Int) (hx : U32 x) (w : World) :
    Calls Tryz.prog 48 #[.int .u32 x] w fun e w' => e = .returned (.agg #[.int .i64 (I.guess x).k, .int .i64 (I.guess x).op, .int .i64 (I.guess x).a, .int .i64 (I.guess x).b, .int .i64 (I.guess x).c, .int .i64 (I.guess x).i, .bool (I.guess x).u]) ∧ Kept w w' := by
  have x0 := hx.1
  have x1 := hx.2
  have EA : bits .and .u32 (x / 16777216) 15 = x / 16777216 % 16 := I.and_mask _ ⟨by omega, by omega⟩ 4 15 (by omega) rfl
  have EB : bits .and .u32 (x / 1048576) 15 = x / 1048576 % 16 := I.and_mask _ ⟨by omega, by omega⟩ 4 15 (by omega) rfl
  have EO : bits .and .u32 (x / 65536) 15 = x / 65536 % 16 := I.and_mask _ ⟨by omega, by omega⟩ 4 15 (by omega) rfl
  have EC : bits .and .u32 x 15 = x % 16 := I.and_mask _ hx 4 15 (by omega) rfl
  have EM : bits .and .u32 x 65535 = x % 65536 := I.and_mask _ hx 16 65535 (by omega) rfl
  have EU : (bits .and .u32 (x / 536870912) 1 == 1) = decide (x / 536870912 % 2 = 1) := by
    rw [I.and_mask (x / 536870912) ⟨by omega, by omega⟩ 1 1 (by omega) rfl, Bool.eq_iff_iff, beq_iff_eq, decide_eq_true_eq]; rfl
  have EV : (bits .and .u32 (x / 268435456) 1 == 1) = decide (x / 268435456 % 2 = 1) := by
    rw [I.and_mask (x / 268435456) ⟨by omega, by omega⟩ 1 1 (by omega) rfl, Bool.eq_iff_iff, beq_iff_eq, decide_eq_true_eq]; rfl
  have hf : x / 1073741824 = 0 ∨ x / 1073741824 = 1 ∨ x / 1073741824 = 2 ∨ x / 1073741824 = 3 := by omega
  rcases hf with h | h | h | h
  · by_cases hu : x / 536870912 % 2 = 1
    · rw [decide_eq_true hu] at EU
      by_cases hz : x / 65536 % 16 = 0
      · rw [hz] at EO
        by_cases hv : x / 268435456 % 2 = 1
        · rw [decide_eq_true hv] at EV
          rw [show I.guess x = ⟨4, 0, x / 16777216 % 16, 0, 0, 0, false⟩ by unfold I.guess; rw [if_pos h, if_pos ⟨hu, hz⟩, if_pos hv]]
          exact guess_0a x (x / 16777216 % 16) (x / 1048576 % 16) w x0 x1 h EU EV EA (by omega) (by omega) EB (by omega) (by omega) EO
        · rw [decide_eq_false hv] at EV
          rw [show I.guess x = ⟨3, 0, x / 16777216 % 16, 0, 0, 0, false⟩ by unfold I.guess; rw [if_pos h, if_pos ⟨hu, hz⟩, if_neg hv]]
          exact guess_0b x (x / 16777216 % 16) (x / 1048576 % 16) w x0 x1 h EU EV EA (by omega) (by omega) EB (by omega) (by omega) EO
      · rw [show I.guess x = ⟨1, x / 65536 % 16, x / 16777216 % 16, x / 1048576 % 16, x % 16, 0, true⟩ by unfold I.guess; rw [if_pos h, if_neg (fun g => hz g.2), decide_eq_true hu]]
        exact guess_0c x (x / 16777216 % 16) (x / 1048576 % 16) (x % 16) (x / 65536 % 16) _ w x0 x1 h EU EV EA (by omega) (by omega) EB (by omega) (by omega) EO (by omega) (by omega) (by simpa using hz) hz EC (by omega) (by omega)
    · rw [decide_eq_false hu] at EU
      rw [show I.guess x = ⟨1, x / 65536 % 16, x / 16777216 % 16, x / 1048576 % 16, x % 16, 0, false⟩ by unfold I.guess; rw [if_pos h, if_neg (fun g => hu g.1), decide_eq_false hu]]
      exact guess_0d x (x / 16777216 % 16) (x / 1048576 % 16) (x % 16) (x / 65536 % 16) _ w x0 x1 h EU EV EA (by omega) (by omega) EB (by omega) (by omega) EO (by omega) (by omega) EC (by omega) (by omega)
  · by_cases hv : x / 268435456 % 2 = 1
    · rw [decide_eq_true hv] at EV
      rw [show I.guess x = ⟨2, x / 65536 % 16, x / 16777216 % 16, x / 1048576 % 16, 0, x % 65536 - 65536, decide (x / 536870912 % 2 = 1)⟩ by unfold I.guess; rw [if_neg (by omega), if_pos h, if_pos hv]]
      exact guess_1t x (x / 16777216 % 16) (x / 1048576 % 16) (x % 65536) (x / 65536 % 16) _ w x0 x1 h EU EV EA (by omega) (by omega) EB (by omega) (by omega) EO (by omega) (by omega) EM (by omega) (by omega)
    · rw [decide_eq_false hv] at EV
      rw [show I.guess x = ⟨2, x / 65536 % 16, x / 16777216 % 16, x / 1048576 % 16, 0, x % 65536, decide (x / 536870912 % 2 = 1)⟩ by unfold I.guess; rw [if_neg (by omega), if_pos h, if_neg hv]]
      exact guess_1f x (x / 16777216 % 16) (x / 1048576 % 16) (x % 65536) (x / 65536 % 16) _ w x0 x1 h EU EV EA (by omega) (by omega) EB (by omega) (by omega) EO (by omega) (by omega) EM (by omega) (by omega)
  · have hb : ∀ y : Int, I.bit (decide (y % 2 = 1)) = y % 2 := fun y => by
      by_cases q : y % 2 = 1
      · rw [decide_eq_true q, q]; rfl
      · rw [decide_eq_false q]; show (0 : Int) = _; omega
    have e : x / 268435456 % 4 = 2 * I.bit (decide (x / 536870912 % 2 = 1)) + I.bit (decide (x / 268435456 % 2 = 1)) := by rw [hb, hb]; omega
    rw [show I.guess x = ⟨5, 2 * I.bit (decide (x / 536870912 % 2 = 1)) + I.bit (decide (x / 268435456 % 2 = 1)), x / 16777216 % 16, x / 1048576 % 16, 0, I.sx 524288 (x % 1048576), false⟩ by unfold I.guess; rw [if_neg (by omega), if_neg (by omega), if_pos h, e]]
    exact guess_2 x (x / 16777216 % 16) (x / 1048576 % 16) (x / 65536 % 16) _ _ _ _ _ w x0 x1 h EU EV EA (by omega) (by omega) EB (by omega) (by omega) EO (by omega) (by omega) (I.bit_lo _) (I.bit_hi _) (I.bit_lo _) (I.bit_hi _) (Lib.hid (one_any _)) (Lib.hid (one_any _)) (Lib.hid (rsgn_lit x hx 20 _ (I.sx20 x)))
  · by_cases hu : x / 536870912 % 2 = 1
    · rw [decide_eq_true hu] at EU
      rw [show I.guess x = ⟨7, x / 16777216 % 16, 0, 0, 0, I.sx 8388608 (x % 16777216), decide (x / 268435456 % 2 = 1)⟩ by unfold I.guess; rw [if_neg (by omega), if_neg (by omega), if_neg (by omega), if_pos hu]]
      exact guess_3j x (x / 16777216 % 16) (x / 1048576 % 16) (x / 65536 % 16) _ _ w x0 x1 h EU EV EA (by omega) (by omega) EB (by omega) (by omega) EO (by omega) (by omega) (Lib.hid (rsgn_lit x hx 24 _ (I.sx24 x)))
    · rw [decide_eq_false hu] at EU
      rw [show I.guess x = ⟨6, x / 16777216 % 16, 0, 0, x % 16, 0, decide (x / 268435456 % 2 = 1)⟩ by unfold I.guess; rw [if_neg (by omega), if_neg (by omega), if_neg (by omega), if_neg hu]]
      exact guess_3b x (x / 16777216 % 16) (x / 1048576 % 16) (x / 65536 % 16) (x % 16) _ w x0 x1 h EU EV EA (by omega) (by omega) EB (by omega) (by omega) EO (by omega) (by omega) EC (by omega) (by omega)
set_option maxHeartbeats 2000000 in
theorem rdec_1 (x k op a b c i : Int) (u : Bool) (w : World)
    (CR : Hid (∀ w, Calls Tryz.prog 48 #[.int .u32 x] w fun e w' => e = .returned (.agg #[.int .i64 k, .int .i64 op, .int .i64 a, .int .i64 b, .int .i64 c, .int .i64 i, .bool u]) ∧ Kept w w'))
    (CE : Hid (∀ w, Calls Tryz.prog 27 #[.agg #[.int .i64 k, .int .i64 op, .int .i64 a, .int .i64 b, .int .i64 c, .int .i64 i, .bool u]] w fun e w' => e = .returned (.tuple #[.int .u32 0, .int .i64 1]) ∧ Kept w w')) :
    Calls Tryz.prog 30 #[.int .u32 x] w fun e w' => e = .returned (.tuple #[.agg #[.int .i64 0, .int .i64 0, .int .i64 0, .int .i64 0, .int .i64 0, .int .i64 0, .bool false], .bool false]) ∧ Kept w w' := by
  have X1 := Lib.hid (Box.new 0 0 0 0 0 0 false w)
  have HB := Lib.hid (show Kept w (w.alloc (.cells #[.int .i64 0, .int .i64 0, .int .i64 0, .int .i64 0, .int .i64 0, .int .i64 0, .bool false] 57)) from (Kept.refl w).alloc _ _)
  have HL := Lib.hid (show w.heap.size < (w.alloc (.cells #[.int .i64 0, .int .i64 0, .int .i64 0, .int .i64 0, .int .i64 0, .int .i64 0, .bool false] 57)).heap.size from by simp)
  go_enter Tryz.func30, Tryz.ntmps30
  go_wp2_with fail
  refine (CR.out _).mono ?_; rintro e w5 ⟨rfl, hK1⟩
  have HK := Lib.hid hK1
  have HN := Lib.hid (show w.heap.size ≠ w5.heap.size from by have := HK.out.size; have := HL.out; omega)
  clear hK1
  go_upto_region 2 with (fail)
  have XI := Box.new k op a b c i u w5
  have XZ := (X1.out.kept HK.out).alloc (.cells #[.int .i64 k, .int .i64 op, .int .i64 a, .int .i64 b, .int .i64 c, .int .i64 i, .bool u] 57)
  have KK := (HB.out.trans HK.out).alloc #[.int .i64 k, .int .i64 op, .int .i64 a, .int .i64 b, .int .i64 c, .int .i64 i, .bool u] 57
  generalize (w5.alloc (.cells #[.int .i64 k, .int .i64 op, .int .i64 a, .int .i64 b, .int .i64 c, .int .i64 i, .bool u] 57)) = w6 at XI XZ KK ⊢
  generalize w5.heap.size = B2 at HN XI ⊢
  have HI := Lib.hid XI
  have HZ := Lib.hid XZ
  have HKK := Lib.hid KK
  clear HK X1 HB HL XI XZ KK
  obtain ⟨i0, i1, i2, i3, i4, i5, i6⟩ := HI.out.cells
  go_wp2_with fail
  refine (CE.out _).mono ?_; rintro e w7 ⟨rfl, hK6⟩
  clear i0 i1 i2 i3 i4 i5 i6
  obtain ⟨i0, i1, i2, i3, i4, i5, i6⟩ := (HI.out.kept hK6).cells
  obtain ⟨z0, z1, z2, z3, z4, z5, z6⟩ := (HZ.out.kept hK6).cells
  obtain ⟨f0, f1, f2, f3, f4, f5, f6⟩ := (HZ.out.kept hK6).free
  have R := Lib.hid ((HZ.out.kept hK6).stored (k' := 0) (op' := 0) (a' := 0) (b' := 0) (c' := 0) (i' := 0) (u' := false))
  have RK := Lib.hid ((HKK.out.trans hK6).store7 (B' := w.heap.size) (by omega) (0) (0) (0) (0) (0) (0) (false))
  go_wp2_with fail
  clear z0 z1 z2 z3 z4 z5 z6 f0 f1 f2 f3 f4 f5 f6
  have R := R.out
  have RK := RK.out
  unfold store7 at R RK
  generalize (((((((w7.setCell ⟨w.heap.size, 0, none⟩ (.int .i64 (0))).setCell ⟨w.heap.size, 1, none⟩ (.int .i64 (0))).setCell ⟨w.heap.size, 2, none⟩ (.int .i64 (0))).setCell ⟨w.heap.size, 3, none⟩ (.int .i64 (0))).setCell ⟨w.heap.size, 4, none⟩ (.int .i64 (0))).setCell ⟨w.heap.size, 5, none⟩ (.int .i64 (0))).setCell ⟨w.heap.size, 6, none⟩ (.bool (false))) = w9 at R RK ⊢
  obtain ⟨r0, r1, r2, r3, r4, r5, r6⟩ := R.cells
  exact bodyPost_ret (v := .tuple #[.agg #[.int .i64 0, .int .i64 0, .int .i64 0, .int .i64 0, .int .i64 0, .int .i64 0, .bool false], .bool false]) (by simp [results, Tryz.results30, go_sem, r0, r1, r2, r3, r4, r5, r6]) rfl ⟨rfl, RK⟩
set_option maxHeartbeats 2000000 in
theorem rdec_2 (x k op a b c i own : Int) (u : Bool) (hne : ¬ own = x) (hn1 : (own == x) = false) (hn2 : (own != x) = true) (w : World)
    (CR : Hid (∀ w, Calls Tryz.prog 48 #[.int .u32 x] w fun e w' => e = .returned (.agg #[.int .i64 k, .int .i64 op, .int .i64 a, .int .i64 b, .int .i64 c, .int .i64 i, .bool u]) ∧ Kept w w'))
    (CE : Hid (∀ w, Calls Tryz.prog 27 #[.agg #[.int .i64 k, .int .i64 op, .int .i64 a, .int .i64 b, .int .i64 c, .int .i64 i, .bool u]] w fun e w' => e = .returned (.tuple #[.int .u32 own, .int .i64 0]) ∧ Kept w w')) :
    Calls Tryz.prog 30 #[.int .u32 x] w fun e w' => e = .returned (.tuple #[.agg #[.int .i64 0, .int .i64 0, .int .i64 0, .int .i64 0, .int .i64 0, .int .i64 0, .bool false], .bool false]) ∧ Kept w w' := by
  have X1 := Lib.hid (Box.new 0 0 0 0 0 0 false w)
  have HB := Lib.hid (show Kept w (w.alloc (.cells #[.int .i64 0, .int .i64 0, .int .i64 0, .int .i64 0, .int .i64 0, .int .i64 0, .bool false] 57)) from (Kept.refl w).alloc _ _)
  have HL := Lib.hid (show w.heap.size < (w.alloc (.cells #[.int .i64 0, .int .i64 0, .int .i64 0, .int .i64 0, .int .i64 0, .int .i64 0, .bool false] 57)).heap.size from by simp)
  go_enter Tryz.func30, Tryz.ntmps30
  go_wp2_with fail
  refine (CR.out _).mono ?_; rintro e w5 ⟨rfl, hK1⟩
  have HK := Lib.hid hK1
  have HN := Lib.hid (show w.heap.size ≠ w5.heap.size from by have := HK.out.size; have := HL.out; omega)
  clear hK1
  go_upto_region 2 with (fail)
  have XI := Box.new k op a b c i u w5
  have XZ := (X1.out.kept HK.out).alloc (.cells #[.int .i64 k, .int .i64 op, .int .i64 a, .int .i64 b, .int .i64 c, .int .i64 i, .bool u] 57)
  have KK := (HB.out.trans HK.out).alloc #[.int .i64 k, .int .i64 op, .int .i64 a, .int .i64 b, .int .i64 c, .int .i64 i, .bool u] 57
  generalize (w5.alloc (.cells #[.int .i64 k, .int .i64 op, .int .i64 a, .int .i64 b, .int .i64 c, .int .i64 i, .bool u] 57)) = w6 at XI XZ KK ⊢
  generalize w5.heap.size = B2 at HN XI ⊢
  have HI := Lib.hid XI
  have HZ := Lib.hid XZ
  have HKK := Lib.hid KK
  clear HK X1 HB HL XI XZ KK
  obtain ⟨i0, i1, i2, i3, i4, i5, i6⟩ := HI.out.cells
  go_wp2_with fail
  refine (CE.out _).mono ?_; rintro e w7 ⟨rfl, hK6⟩
  clear i0 i1 i2 i3 i4 i5 i6
  obtain ⟨i0, i1, i2, i3, i4, i5, i6⟩ := (HI.out.kept hK6).cells
  obtain ⟨z0, z1, z2, z3, z4, z5, z6⟩ := (HZ.out.kept hK6).cells
  obtain ⟨f0, f1, f2, f3, f4, f5, f6⟩ := (HZ.out.kept hK6).free
  have R := Lib.hid ((HZ.out.kept hK6).stored (k' := 0) (op' := 0) (a' := 0) (b' := 0) (c' := 0) (i' := 0) (u' := false))
  have RK := Lib.hid ((HKK.out.trans hK6).store7 (B' := w.heap.size) (by omega) (0) (0) (0) (0) (0) (0) (false))
  go_wp2_with fail
  clear z0 z1 z2 z3 z4 z5 z6 f0 f1 f2 f3 f4 f5 f6
  have R := R.out
  have RK := RK.out
  unfold store7 at R RK
  generalize (((((((w7.setCell ⟨w.heap.size, 0, none⟩ (.int .i64 (0))).setCell ⟨w.heap.size, 1, none⟩ (.int .i64 (0))).setCell ⟨w.heap.size, 2, none⟩ (.int .i64 (0))).setCell ⟨w.heap.size, 3, none⟩ (.int .i64 (0))).setCell ⟨w.heap.size, 4, none⟩ (.int .i64 (0))).setCell ⟨w.heap.size, 5, none⟩ (.int .i64 (0))).setCell ⟨w.heap.size, 6, none⟩ (.bool (false))) = w9 at R RK ⊢
  obtain ⟨r0, r1, r2, r3, r4, r5, r6⟩ := R.cells
  exact bodyPost_ret (v := .tuple #[.agg #[.int .i64 0, .int .i64 0, .int .i64 0, .int .i64 0, .int .i64 0, .int .i64 0, .bool false], .bool false]) (by simp [results, Tryz.results30, go_sem, r0, r1, r2, r3, r4, r5, r6]) rfl ⟨rfl, RK⟩
set_option maxHeartbeats 2000000 in
theorem rdec_3 (x k op a b c i : Int) (u : Bool) (w : World)
    (CR : Hid (∀ w, Calls Tryz.prog 48 #[.int .u32 x] w fun e w' => e = .returned (.agg #[.int .i64 k, .int .i64 op, .int .i64 a, .int .i64 b, .int .i64 c, .int .i64 i, .bool u]) ∧ Kept w w'))
    (CE : Hid (∀ w, Calls Tryz.prog 27 #[.agg #[.int .i64 k, .int .i64 op, .int .i64 a, .int .i64 b, .int .i64 c, .int .i64 i, .bool u]] w fun e w' => e = .returned (.tuple #[.int .u32 x, .int .i64 0]) ∧ Kept w w')) :
    Calls Tryz.prog 30 #[.int .u32 x] w fun e w' => e = .returned (.tuple #[.agg #[.int .i64 k, .int .i64 op, .int .i64 a, .int .i64 b, .int .i64 c, .int .i64 i, .bool u], .bool true]) ∧ Kept w w' := by
  have X1 := Lib.hid (Box.new 0 0 0 0 0 0 false w)
  have HB := Lib.hid (show Kept w (w.alloc (.cells #[.int .i64 0, .int .i64 0, .int .i64 0, .int .i64 0, .int .i64 0, .int .i64 0, .bool false] 57)) from (Kept.refl w).alloc _ _)
  have HL := Lib.hid (show w.heap.size < (w.alloc (.cells #[.int .i64 0, .int .i64 0, .int .i64 0, .int .i64 0, .int .i64 0, .int .i64 0, .bool false] 57)).heap.size from by simp)
  go_enter Tryz.func30, Tryz.ntmps30
  go_wp2_with fail
  refine (CR.out _).mono ?_; rintro e w5 ⟨rfl, hK1⟩
  have HK := Lib.hid hK1
  have HN := Lib.hid (show w.heap.size ≠ w5.heap.size from by have := HK.out.size; have := HL.out; omega)
  clear hK1
  go_upto_region 2 with (fail)
  have XI := Box.new k op a b c i u w5
  have XZ := (X1.out.kept HK.out).alloc (.cells #[.int .i64 k, .int .i64 op, .int .i64 a, .int .i64 b, .int .i64 c, .int .i64 i, .bool u] 57)
  have KK := (HB.out.trans HK.out).alloc #[.int .i64 k, .int .i64 op, .int .i64 a, .int .i64 b, .int .i64 c, .int .i64 i, .bool u] 57
  generalize (w5.alloc (.cells #[.int .i64 k, .int .i64 op, .int .i64 a, .int .i64 b, .int .i64 c, .int .i64 i, .bool u] 57)) = w6 at XI XZ KK ⊢
  generalize w5.heap.size = B2 at HN XI ⊢
  have HI := Lib.hid XI
  have HZ := Lib.hid XZ
  have HKK := Lib.hid KK
  clear HK X1 HB HL XI XZ KK
  obtain ⟨i0, i1, i2, i3, i4, i5, i6⟩ := HI.out.cells
  go_wp2_with fail
  refine (CE.out _).mono ?_; rintro e w7 ⟨rfl, hK6⟩
  clear i0 i1 i2 i3 i4 i5 i6
  obtain ⟨i0, i1, i2, i3, i4, i5, i6⟩ := (HI.out.kept hK6).cells
  obtain ⟨z0, z1, z2, z3, z4, z5, z6⟩ := (HZ.out.kept hK6).cells
  obtain ⟨f0, f1, f2, f3, f4, f5, f6⟩ := (HZ.out.kept hK6).free
  have R := Lib.hid ((HZ.out.kept hK6).stored (k' := k) (op' := op) (a' := a) (b' := b) (c' := c) (i' := i) (u' := u))
  have RK := Lib.hid ((HKK.out.trans hK6).store7 (B' := w.heap.size) (by omega) (k) (op) (a) (b) (c) (i) (u))
  go_wp2_with fail
  clear z0 z1 z2 z3 z4 z5 z6 f0 f1 f2 f3 f4 f5 f6
  have R := R.out
  have RK := RK.out
  unfold store7 at R RK
  generalize (((((((w7.setCell ⟨w.heap.size, 0, none⟩ (.int .i64 (k))).setCell ⟨w.heap.size, 1, none⟩ (.int .i64 (op))).setCell ⟨w.heap.size, 2, none⟩ (.int .i64 (a))).setCell ⟨w.heap.size, 3, none⟩ (.int .i64 (b))).setCell ⟨w.heap.size, 4, none⟩ (.int .i64 (c))).setCell ⟨w.heap.size, 5, none⟩ (.int .i64 (i))).setCell ⟨w.heap.size, 6, none⟩ (.bool (u))) = w9 at R RK ⊢
  obtain ⟨r0, r1, r2, r3, r4, r5, r6⟩ := R.cells
  exact bodyPost_ret (v := .tuple #[.agg #[.int .i64 k, .int .i64 op, .int .i64 a, .int .i64 b, .int .i64 c, .int .i64 i, .bool u], .bool true]) (by simp [results, Tryz.results30, go_sem, r0, r1, r2, r3, r4, r5, r6]) rfl ⟨rfl, RK⟩
theorem rdec_any (x : Int) (hx : U32 x) (w : World) :
    Calls Tryz.prog 30 #[.int .u32 x] w fun e w' => e = .returned (.tuple #[.agg #[.int .i64 (I.dec x).k, .int .i64 (I.dec x).op, .int .i64 (I.dec x).a, .int .i64 (I.dec x).b, .int .i64 (I.dec x).c, .int .i64 (I.dec x).i, .bool (I.dec x).u], .bool (I.is x)]) ∧ Kept w w' := by
  have CR := rguess_any x hx
  have CE := renc_any (I.guess x).k (I.guess x).op (I.guess x).a (I.guess x).b (I.guess x).c (I.guess x).i (I.guess x).u
  by_cases hm : I.may (I.guess x) = true
  · have e1 : I.err (I.guess x) = 0 := by simp [I.err, hm]
    have e2 : I.enc (I.guess x) = I.word (I.guess x) := by simp [I.enc, hm]
    have CE : ∀ w, Calls Tryz.prog 27 #[.agg #[.int .i64 (I.guess x).k, .int .i64 (I.guess x).op, .int .i64 (I.guess x).a, .int .i64 (I.guess x).b, .int .i64 (I.guess x).c, .int .i64 (I.guess x).i, .bool (I.guess x).u]] w fun e w' => e = .returned (.tuple #[.int .u32 (I.enc (I.guess x)), .int .i64 (I.err (I.guess x))]) ∧ Kept w w' := CE
    rw [e1, e2] at CE
    by_cases ho : I.word (I.guess x) = x
    · have e3 : I.is x = true := by simp [I.is, hm, ho]
      rw [ho] at CE
      rw [show I.dec x = I.guess x by simp [I.dec, e3], e3]
      exact rdec_3 x _ _ _ _ _ _ _ w (Lib.hid CR) (Lib.hid CE)
    · have e3 : I.is x = false := by simp [I.is, ho]
      rw [show I.dec x = ⟨0, 0, 0, 0, 0, 0, false⟩ by simp [I.dec, e3], e3]
      exact rdec_2 x _ _ _ _ _ _ _ _ ho (by simpa using ho) (by simpa using ho) w (Lib.hid CR) (Lib.hid CE)
  · have hm : I.may (I.guess x) = false := by simpa using hm
    have e1 : I.err (I.guess x) = 1 := by simp [I.err, hm]
    have e2 : I.enc (I.guess x) = 0 := by simp [I.enc, hm]
    have CE : ∀ w, Calls Tryz.prog 27 #[.agg #[.int .i64 (I.guess x).k, .int .i64 (I.guess x).op, .int .i64 (I.guess x).a, .int .i64 (I.guess x).b, .int .i64 (I.guess x).c, .int .i64 (I.guess x).i, .bool (I.guess x).u]] w fun e w' => e = .returned (.tuple #[.int .u32 (I.enc (I.guess x)), .int .i64 (I.err (I.guess x))]) ∧ Kept w w' := CE
    rw [e1, e2] at CE
    have e3 : I.is x = false := by simp [I.is, hm]
    rw [show I.dec x = ⟨0, 0, 0, 0, 0, 0, false⟩ by simp [I.dec, e3], e3]
    exact rdec_1 x _ _ _ _ _ _ _ w (Lib.hid CR) (Lib.hid CE)
end Go.Proofs.YtlmddkciamdldaaGreat

/-
  What the laws of stage 6 make: fit.
-/
namespace Go.Proofs.YtlmddkciamdldaaGreat
open Go.RowKit
set_option linter.unusedVariables false
set_option linter.unusedSimpArgs false
set_option maxRecDepth 100000
/-- what fit makes of a word -/
def X.FitTo (v y : Int) : Prop := ∃ (k op a b c i : Int) (u : Bool), (∀ w, Calls Tryz.prog 26 #[.agg #[.int .i64 (bits .and .u32 v 7), .int .i64 (bits .and .u32 (v / 8) 15), .int .i64 (bits .and .u32 (v / 128) 15), .int .i64 (bits .and .u32 (v / 2048) 15), .int .i64 (bits .and .u32 (v / 32768) 15), .int .i64 (bits .and .u32 (v / 524288) 63), .bool (bits .and .u32 (v / 33554432) 1 == 1)]] w fun e w' => e = .returned (.agg #[.int .i64 k, .int .i64 op, .int .i64 a, .int .i64 b, .int .i64 c, .int .i64 i, .bool u]) ∧ Kept w w') ∧
  y = (if bits .and .u32 (v / 67108864) 7 = 0 then v else I.enc ⟨k, op, a, b, c, (if k = 5 ∨ k = 7 then bits .and .u32 (v / 524288) 63 - 32 else i), u⟩)
theorem X.fit_ex (v : Int) : ∃ y, X.FitTo v y := by
  obtain ⟨k, op, a, b, c, i, u, hm, h⟩ := fit_any (bits .and .u32 v 7) (bits .and .u32 (v / 8) 15) (bits .and .u32 (v / 128) 15) (bits .and .u32 (v / 2048) 15) (bits .and .u32 (v / 32768) 15) (bits .and .u32 (v / 524288) 63) (bits .and .u32 (v / 33554432) 1 == 1)
  exact ⟨_, k, op, a, b, c, i, u, h, rfl⟩
noncomputable def X.fit1 (v : Int) : Int := Classical.choose (X.fit_ex v)
theorem X.fit1_to (v : Int) : X.FitTo v (X.fit1 v) := Classical.choose_spec (X.fit_ex v)
theorem I.enc_lo (x : I.Ins) : 0 ≤ I.enc x ∧ I.enc x < 4294967296 := by
  unfold I.enc
  by_cases h : I.May x
  · have : I.may x = true := decide_eq_true h
    rw [if_pos this]; exact ⟨I.word_lo x h, I.word_hi x h⟩
  · have : I.may x = false := decide_eq_false h
    rw [if_neg (by rw [this]; simp)]; omega
theorem X.fit1_ok (v : Int) (h0 : 0 ≤ v) (h1 : v < 4294967296) : 0 ≤ X.fit1 v ∧ X.fit1 v < 4294967296 := by
  obtain ⟨k, op, a, b, c, i, u, _, hy⟩ := X.fit1_to v
  rw [hy]
  split
  · exact ⟨h0, h1⟩
  · exact I.enc_lo _
set_option maxHeartbeats 2000000 in
theorem fitw_some {w : World} {b off n c : Nat} {xs : List Int} (hx : Ws w (some ⟨b, off, none⟩) n c xs) (hn : 0 < n) :
    Calls Tryz.prog 9 #[.slice (some ⟨b, off, none⟩) n c] w fun e w' => ∃ g cap, e = .returned (.slice (some ⟨g, 0, none⟩) (min n 20) cap) ∧ Ws w' (some ⟨g, 0, none⟩) (min n 20) cap ((xs.map X.fit1).take 20) ∧ Below w.heap.size w w' ∧ w.heap.size ≤ g := by
  have hxl := hx.len
  have hX := Lib.hid hx
  have hbw : b < w.heap.size := hx.lt hn
  clear hx
  go_enter Tryz.func9, Tryz.ntmps9
  go_upto_region 2 with (fail)
  have hO := Lib.hid (Own.new w w.heap.size (Nat.le_refl _))
  have hA := (Kept.refl w).alloc #[] 23
  have hb := Lib.hid (show Below w.heap.size w (w.alloc (.cells #[] 23)) from hA.below)
  clear hA
  generalize hg0 : w.heap.size = g0 at *
  generalize w.alloc (Obj.cells #[] 23) = w1 at *
  go_wp2
  go_loopw [3, 4] (fun sl i wr => ∃ k g cap : Nat, k ≤ min n 20 ∧ i = .int .i64 k ∧ sl = .slice (some ⟨g, 0, none⟩) k cap ∧ Own g0 g k cap ((xs.take k).map X.fit1) wr ∧ Below g0 w wr) (fun sl i _ => n - (intOf i).toNat)
  case atStart => exact ⟨0, g0, 0, Nat.zero_le _, rfl, rfl, hO.out, hb.out⟩
  case round =>
    obtain ⟨k, g, cap, hk, rfl, rfl, hOr, hbr⟩ := hrel
    by_cases d1 : k < n ∧ k < 20
    · have d2 : (k : Int) < n := by omega
      have d3 : (k : Int) < 20 := by omega
      have d4 : decide ((k : Int) < n) = true := decide_eq_true d2
      have d5 : decide ((k : Int) < 20) = true := decide_eq_true d3
      obtain ⟨v, hv⟩ : ∃ v, xs[k]? = some v := ⟨_, List.getElem?_eq_getElem (by omega)⟩
      have hvr := hX.out.rng v (List.mem_of_getElem? hv)
      have cv := (hX.out.to (w' := wr) fun ad e _ => by cases e; exact hbr.block _ (by omega)).cellAt k v hv
      have hf := X.fit1_to v
      have hfo := X.fit1_ok v hvr.1 hvr.2
      have htk : ((xs.take (k + 1)).map X.fit1) = ((xs.take k).map X.fit1) ++ [X.fit1 v] := by rw [List.take_add_one, hv]; simp
      obtain ⟨K, op, a, bb, c', i, u, C, hy⟩ := hf
      have hyh := X.fit1 v
      clear hyh
      generalize X.fit1 v = y at *
      have r0 := A.bits_lo .and v 7 (Or.inl rfl) (by omega) (by omega) (by omega) (by omega)
      obtain ⟨p0, hp0⟩ : ∃ p, bits .and .u32 v 7 = p := ⟨_, rfl⟩
      rw [hp0] at r0 C
      have hwp0 : wrap64 p0 = p0 := by unfold wrap64; omega
      have r1 := A.bits_lo .and (v / 8) 15 (Or.inl rfl) (by omega) (by omega) (by omega) (by omega)
      obtain ⟨p1, hp1⟩ : ∃ p, bits .and .u32 (v / 8) 15 = p := ⟨_, rfl⟩
      rw [hp1] at r1 C
      have hwp1 : wrap64 p1 = p1 := by unfold wrap64; omega
      have r2 := A.bits_lo .and (v / 128) 15 (Or.inl rfl) (by omega) (by omega) (by omega) (by omega)
      obtain ⟨p2, hp2⟩ : ∃ p, bits .and .u32 (v / 128) 15 = p := ⟨_, rfl⟩
      rw [hp2] at r2 C
      have hwp2 : wrap64 p2 = p2 := by unfold wrap64; omega
      have r3 := A.bits_lo .and (v / 2048) 15 (Or.inl rfl) (by omega) (by omega) (by omega) (by omega)
      obtain ⟨p3, hp3⟩ : ∃ p, bits .and .u32 (v / 2048) 15 = p := ⟨_, rfl⟩
      rw [hp3] at r3 C
      have hwp3 : wrap64 p3 = p3 := by unfold wrap64; omega
      have r4 := A.bits_lo .and (v / 32768) 15 (Or.inl rfl) (by omega) (by omega) (by omega) (by omega)
      obtain ⟨p4, hp4⟩ : ∃ p, bits .and .u32 (v / 32768) 15 = p := ⟨_, rfl⟩
      rw [hp4] at r4 C
      have hwp4 : wrap64 p4 = p4 := by unfold wrap64; omega
      have r5 := A.bits_lo .and (v / 524288) 63 (Or.inl rfl) (by omega) (by omega) (by omega) (by omega)
      obtain ⟨p5, hp5⟩ : ∃ p, bits .and .u32 (v / 524288) 63 = p := ⟨_, rfl⟩
      rw [hp5] at r5 C hy
      have hwp5 : wrap64 p5 = p5 := by unfold wrap64; omega
      have r6 := A.bits_lo .and (v / 33554432) 1 (Or.inl rfl) (by omega) (by omega) (by omega) (by omega)
      obtain ⟨p6, hp6⟩ : ∃ p, bits .and .u32 (v / 33554432) 1 = p := ⟨_, rfl⟩
      rw [hp6] at r6 C
      have r7 := A.bits_lo .and (v / 67108864) 7 (Or.inl rfl) (by omega) (by omega) (by omega) (by omega)
      obtain ⟨p7, hp7⟩ : ∃ p, bits .and .u32 (v / 67108864) 7 = p := ⟨_, rfl⟩
      rw [hp7] at r7 hy
      have hws : wrap64 (p5 - 32) = p5 - 32 := by unfold wrap64; omega
      replace hOr := Lib.hid hOr
      replace hbr := Lib.hid hbr
      replace hy := Lib.hid hy
      replace htk := Lib.hid htk
      go_wp2_with (fail)
      refine (C _).mono ?_; rintro e w2 ⟨rfl, hK2⟩
      have hOl := World.ownsRow.lt hOr.out g rfl
      by_cases k57 : K = 5 ∨ K = 7
      · rcases k57 with rfl | rfl
        · have hy := hy.out
          rw [if_pos (by omega : (5 : Int) = 5 ∨ (5 : Int) = 7)] at hy
          have hK2' := hK2.alloc #[.int .i64 5, .int .i64 op, .int .i64 a, .int .i64 bb, .int .i64 (c'), .int .i64 (p5 - 32), .bool u] 57
          have hb2 := Lib.hid (below_kept hbr.out hK2' (by have := hbr.out.size; omega))
          have hO2 := Lib.hid (hOr.out.to (w' := w2.alloc (.cells #[.int .i64 5, .int .i64 op, .int .i64 a, .int .i64 bb, .int .i64 (c'), .int .i64 (p5 - 32), .bool u] 57)) (hK2'.below.block g hOl.2))
          have hO2l : g < (w2.alloc (.cells #[.int .i64 5, .int .i64 op, .int .i64 a, .int .i64 bb, .int .i64 (c'), .int .i64 (p5 - 32), .bool u] 57)).heap.size := Nat.lt_of_lt_of_le hOl.2 hK2'.size
          clear hOr hbr C hK2 hK2'
          go_wp2_with (fail)
          refine (renc_any 5 op a bb c' (p5 - 32) u _).mono ?_; rintro e w3 ⟨rfl, hK3⟩
          have hb3 := below_kept hb2.out hK3 (by have := hb2.out.size; omega)
          have hO3 := hO2.out.to (hK3.below.block g hO2l)
          generalize I.enc ⟨5, op, a, bb, c', (p5 - 32), u⟩ = ye at *
          generalize I.err ⟨5, op, a, bb, c', (p5 - 32), u⟩ = yr at *
          have hA := (Kept.refl w3).alloc #[Value.int .u32 y] 23
          have hY := Lib.hid (Ws.one (Has.new #[Value.int .u32 y] 23 w3) hfo.1 hfo.2)
          have hO4 := Lib.hid (hO3.to (w' := w3.alloc (.cells #[Value.int .u32 y] 23)) (hA.below.block g (World.ownsRow.lt hO3 g rfl).2))
          have hb4 := Lib.hid (below_kept hb3 hA (by have := hb3.size; omega))
          have hN4 : g0 ≤ (w3.alloc (.cells #[Value.int .u32 y] 23)).heap.size := by have := hb4.out.size; omega
          replace hN4 := Lib.hid hN4
          clear hb2 hO2 hK3 hb3 hO3 hA
          by_cases p0' : p7 = 0
          · rw [if_pos p0'] at hy
            subst p0' hy
            go_wp2_with (with_reducible refine append_words (o := ⟨some 80, _, _, _, _, _⟩) rfl (.tmp 77) (.tmp 79) rfl g0 g k cap ((xs.take k).map X.fit1) rfl hO4.out _ 1 1 [_] rfl hY.out (by omega) hN4.out ?_; intro g' cap' w5 hO5 hG5; rw [← htk.out] at hO5; replace hO5 := Lib.hid hO5; replace hG5 := Lib.hid (hb4.out.grown hG5 hN4.out (fun k e => by cases e; exact hOl.1)))
            go_roundw
            case rel => exact ⟨k + 1, g', cap', by omega, by go_num, by go_num, hO5.out, hG5.out⟩
            case measure => simp [intOf]; omega
          · rw [if_neg p0'] at hy
            have p2' : (p7 == 0) = false := by simpa using p0'
            subst hy
            go_wp2_with (with_reducible refine append_words (o := ⟨some 80, _, _, _, _, _⟩) rfl (.tmp 77) (.tmp 79) rfl g0 g k cap ((xs.take k).map X.fit1) rfl hO4.out _ 1 1 [_] rfl hY.out (by omega) hN4.out ?_; intro g' cap' w5 hO5 hG5; rw [← htk.out] at hO5; replace hO5 := Lib.hid hO5; replace hG5 := Lib.hid (hb4.out.grown hG5 hN4.out (fun k e => by cases e; exact hOl.1)))
            go_roundw
            case rel => exact ⟨k + 1, g', cap', by omega, by go_num, by go_num, hO5.out, hG5.out⟩
            case measure => simp [intOf]; omega
        · have hy := hy.out
          rw [if_pos (by omega : (7 : Int) = 5 ∨ (7 : Int) = 7)] at hy
          have hK2' := hK2.alloc #[.int .i64 7, .int .i64 op, .int .i64 a, .int .i64 bb, .int .i64 (c'), .int .i64 (p5 - 32), .bool u] 57
          have hb2 := Lib.hid (below_kept hbr.out hK2' (by have := hbr.out.size; omega))
          have hO2 := Lib.hid (hOr.out.to (w' := w2.alloc (.cells #[.int .i64 7, .int .i64 op, .int .i64 a, .int .i64 bb, .int .i64 (c'), .int .i64 (p5 - 32), .bool u] 57)) (hK2'.below.block g hOl.2))
          have hO2l : g < (w2.alloc (.cells #[.int .i64 7, .int .i64 op, .int .i64 a, .int .i64 bb, .int .i64 (c'), .int .i64 (p5 - 32), .bool u] 57)).heap.size := Nat.lt_of_lt_of_le hOl.2 hK2'.size
          clear hOr hbr C hK2 hK2'
          go_wp2_with (fail)
          refine (renc_any 7 op a bb c' (p5 - 32) u _).mono ?_; rintro e w3 ⟨rfl, hK3⟩
          have hb3 := below_kept hb2.out hK3 (by have := hb2.out.size; omega)
          have hO3 := hO2.out.to (hK3.below.block g hO2l)
          generalize I.enc ⟨7, op, a, bb, c', (p5 - 32), u⟩ = ye at *
          generalize I.err ⟨7, op, a, bb, c', (p5 - 32), u⟩ = yr at *
          have hA := (Kept.refl w3).alloc #[Value.int .u32 y] 23
          have hY := Lib.hid (Ws.one (Has.new #[Value.int .u32 y] 23 w3) hfo.1 hfo.2)
          have hO4 := Lib.hid (hO3.to (w' := w3.alloc (.cells #[Value.int .u32 y] 23)) (hA.below.block g (World.ownsRow.lt hO3 g rfl).2))
          have hb4 := Lib.hid (below_kept hb3 hA (by have := hb3.size; omega))
          have hN4 : g0 ≤ (w3.alloc (.cells #[Value.int .u32 y] 23)).heap.size := by have := hb4.out.size; omega
          replace hN4 := Lib.hid hN4
          clear hb2 hO2 hK3 hb3 hO3 hA
          by_cases p0' : p7 = 0
          · rw [if_pos p0'] at hy
            subst p0' hy
            go_wp2_with (with_reducible refine append_words (o := ⟨some 80, _, _, _, _, _⟩) rfl (.tmp 77) (.tmp 79) rfl g0 g k cap ((xs.take k).map X.fit1) rfl hO4.out _ 1 1 [_] rfl hY.out (by omega) hN4.out ?_; intro g' cap' w5 hO5 hG5; rw [← htk.out] at hO5; replace hO5 := Lib.hid hO5; replace hG5 := Lib.hid (hb4.out.grown hG5 hN4.out (fun k e => by cases e; exact hOl.1)))
            go_roundw
            case rel => exact ⟨k + 1, g', cap', by omega, by go_num, by go_num, hO5.out, hG5.out⟩
            case measure => simp [intOf]; omega
          · rw [if_neg p0'] at hy
            have p2' : (p7 == 0) = false := by simpa using p0'
            subst hy
            go_wp2_with (with_reducible refine append_words (o := ⟨some 80, _, _, _, _, _⟩) rfl (.tmp 77) (.tmp 79) rfl g0 g k cap ((xs.take k).map X.fit1) rfl hO4.out _ 1 1 [_] rfl hY.out (by omega) hN4.out ?_; intro g' cap' w5 hO5 hG5; rw [← htk.out] at hO5; replace hO5 := Lib.hid hO5; replace hG5 := Lib.hid (hb4.out.grown hG5 hN4.out (fun k e => by cases e; exact hOl.1)))
            go_roundw
            case rel => exact ⟨k + 1, g', cap', by omega, by go_num, by go_num, hO5.out, hG5.out⟩
            case measure => simp [intOf]; omega
      · have hy := hy.out
        rw [if_neg k57] at hy
        have k5 : ¬ K = 5 := fun e => k57 (Or.inl e)
        have k7 : ¬ K = 7 := fun e => k57 (Or.inr e)
        have k5' : (K == 5) = false := by simpa using k5
        have k7' : (K == 7) = false := by simpa using k7
        have hK2' := hK2.alloc #[.int .i64 K, .int .i64 op, .int .i64 a, .int .i64 bb, .int .i64 (c'), .int .i64 i, .bool u] 57
        have hb2 := Lib.hid (below_kept hbr.out hK2' (by have := hbr.out.size; omega))
        have hO2 := Lib.hid (hOr.out.to (w' := w2.alloc (.cells #[.int .i64 K, .int .i64 op, .int .i64 a, .int .i64 bb, .int .i64 (c'), .int .i64 i, .bool u] 57)) (hK2'.below.block g hOl.2))
        have hO2l : g < (w2.alloc (.cells #[.int .i64 K, .int .i64 op, .int .i64 a, .int .i64 bb, .int .i64 (c'), .int .i64 i, .bool u] 57)).heap.size := Nat.lt_of_lt_of_le hOl.2 hK2'.size
        clear hOr hbr C hK2 hK2'
        go_wp2_with (fail)
        refine (renc_any K op a bb c' i u _).mono ?_; rintro e w3 ⟨rfl, hK3⟩
        have hb3 := below_kept hb2.out hK3 (by have := hb2.out.size; omega)
        have hO3 := hO2.out.to (hK3.below.block g hO2l)
        generalize I.enc ⟨K, op, a, bb, c', i, u⟩ = ye at *
        generalize I.err ⟨K, op, a, bb, c', i, u⟩ = yr at *
        have hA := (Kept.refl w3).alloc #[Value.int .u32 y] 23
        have hY := Lib.hid (Ws.one (Has.new #[Value.int .u32 y] 23 w3) hfo.1 hfo.2)
        have hO4 := Lib.hid (hO3.to (w' := w3.alloc (.cells #[Value.int .u32 y] 23)) (hA.below.block g (World.ownsRow.lt hO3 g rfl).2))
        have hb4 := Lib.hid (below_kept hb3 hA (by have := hb3.size; omega))
        have hN4 : g0 ≤ (w3.alloc (.cells #[Value.int .u32 y] 23)).heap.size := by have := hb4.out.size; omega
        replace hN4 := Lib.hid hN4
        clear hb2 hO2 hK3 hb3 hO3 hA
        by_cases p0' : p7 = 0
        · rw [if_pos p0'] at hy
          subst p0' hy
          go_wp2_with (with_reducible refine append_words (o := ⟨some 80, _, _, _, _, _⟩) rfl (.tmp 77) (.tmp 79) rfl g0 g k cap ((xs.take k).map X.fit1) rfl hO4.out _ 1 1 [_] rfl hY.out (by omega) hN4.out ?_; intro g' cap' w5 hO5 hG5; rw [← htk.out] at hO5; replace hO5 := Lib.hid hO5; replace hG5 := Lib.hid (hb4.out.grown hG5 hN4.out (fun k e => by cases e; exact hOl.1)))
          go_roundw
          case rel => exact ⟨k + 1, g', cap', by omega, by go_num, by go_num, hO5.out, hG5.out⟩
          case measure => simp [intOf]; omega
        · rw [if_neg p0'] at hy
          have p2' : (p7 == 0) = false := by simpa using p0'
          subst hy
          go_wp2_with (with_reducible refine append_words (o := ⟨some 80, _, _, _, _, _⟩) rfl (.tmp 77) (.tmp 79) rfl g0 g k cap ((xs.take k).map X.fit1) rfl hO4.out _ 1 1 [_] rfl hY.out (by omega) hN4.out ?_; intro g' cap' w5 hO5 hG5; rw [← htk.out] at hO5; replace hO5 := Lib.hid hO5; replace hG5 := Lib.hid (hb4.out.grown hG5 hN4.out (fun k e => by cases e; exact hOl.1)))
          go_roundw
          case rel => exact ⟨k + 1, g', cap', by omega, by go_num, by go_num, hO5.out, hG5.out⟩
          case measure => simp [intOf]; omega
    · have hke : k = min n 20 := by omega
      have htk : xs.take k = xs.take 20 := by
        rcases Nat.le_total n 20 with h | h
        · rw [hke, Nat.min_eq_left h, List.take_of_length_le (by omega), List.take_of_length_le (by omega)]
        · rw [hke, Nat.min_eq_right h]
      rw [htk] at hOr
      have hr : ∀ z ∈ (xs.take 20).map X.fit1, 0 ≤ z ∧ z < 4294967296 := by
        intro z hz
        obtain ⟨v, hv, rfl⟩ := List.mem_map.1 hz
        have := hX.out.rng v (List.mem_of_mem_take hv)
        exact X.fit1_ok v this.1 this.2
      have hW := hOr.ws hr
      rw [List.map_take] at hW
      replace hW := Lib.hid hW
      have hOl := World.ownsRow.lt hOr g rfl
      replace hbr := Lib.hid hbr
      clear hOr hX hO hb htk
      by_cases e1 : k < n
      · have d2 : (k : Int) < n := by omega
        have d3 : ¬ (k : Int) < 20 := by omega
        have d4 : decide ((k : Int) < n) = true := decide_eq_true d2
        have d5 : decide ((k : Int) < 20) = false := decide_eq_false d3
        go_wp2
        go_ret
        rw [← hke]
        exact ⟨g, cap, rfl, hW.out, hbr.out, hOl.1⟩
      · have d2 : ¬ (k : Int) < n := by omega
        have d4 : decide ((k : Int) < n) = false := decide_eq_false d2
        go_wp2
        go_ret
        rw [← hke]
        exact ⟨g, cap, rfl, hW.out, hbr.out, hOl.1⟩
theorem fitw_none {w : World} {A : Option Addr} {c : Nat} :
    Calls Tryz.prog 9 #[.slice A 0 c] w fun e w' => ∃ g cap, e = .returned (.slice (some ⟨g, 0, none⟩) 0 cap) ∧ Ws w' (some ⟨g, 0, none⟩) 0 cap [] ∧ Below w.heap.size w w' ∧ w.heap.size ≤ g := by
  go_enter Tryz.func9, Tryz.ntmps9
  go_upto_region 2 with (fail)
  have hW := Lib.hid ((Own.new w w.heap.size (Nat.le_refl _)).ws (by simp))
  have hA := (Kept.refl w).alloc #[] 23
  have hb := Lib.hid (show Below w.heap.size w (w.alloc (.cells #[] 23)) from hA.below)
  clear hA
  generalize hg0 : w.heap.size = g0 at *
  generalize w.alloc (Obj.cells #[] 23) = w1 at *
  go_wp2
  go_loopw [3, 4] (fun sl i wr => i = .int .i64 0 ∧ sl = .slice (some ⟨g0, 0, none⟩) 0 0 ∧ wr = w1) (fun sl i _ => 0)
  case atStart => exact ⟨rfl, rfl, by first | rfl | trivial⟩
  case round =>
    obtain ⟨rfl, rfl, rfl⟩ := hrel
    go_wp2
    go_ret
    exact ⟨g0, 0, rfl, hW.out, by rw [hg0]; exact hb.out, Nat.le_of_eq hg0⟩
theorem fitw_any {w : World} {A : Option Addr} {n c : Nat} {xs : List Int} (hx : Ws w A n c xs) :
    Calls Tryz.prog 9 #[.slice A n c] w fun e w' => ∃ g cap, e = .returned (.slice (some ⟨g, 0, none⟩) (min n 20) cap) ∧ Ws w' (some ⟨g, 0, none⟩) (min n 20) cap ((xs.map X.fit1).take 20) ∧ Below w.heap.size w w' ∧ w.heap.size ≤ g := by
  rcases Nat.eq_zero_or_pos n with rfl | hn
  · have : xs = [] := List.eq_nil_of_length_eq_zero hx.len
    subst this
    exact fitw_none
  · cases A with
    | none => have := hx.nil rfl; have := hx.le; omega
    | some ad =>
      obtain ⟨b, off, rfl⟩ := hx.addr hn
      exact fitw_some hx hn
end Go.Proofs.YtlmddkciamdldaaGreat

/-
  Two registers' values that are the same are equal; operations behind a guard.
-/
namespace Go.Proofs.YtlmddkciamdldaaGreat
open Go.RowKit
set_option linter.unusedVariables false
set_option linter.unusedSimpArgs false
set_option maxRecDepth 100000
theorem A.part_u (xs : Array Value) (j : Nat) (x : Int) (w : World) (hj : xs[j]? = some (.int .u32 x)) : (part 23 xs j).run Tryz.prog w = .ok (.int .u32 x) w := by
  have ha := run_isAgg Tryz.underlying23 w
  simp [part, Sem.run_bind, run_sizeOf (P := Tryz.prog) (e := 23) (m := 1) (by kernel_rfl), ha, TypeDesc.isRow, hj]
theorem A.part_b (xs : Array Value) (j : Nat) (x : Bool) (w : World) (hj : xs[j]? = some (.bool x)) : (part 4 xs j).run Tryz.prog w = .ok (.bool x) w := by
  have ha := run_isAgg Tryz.underlying4 w
  simp [part, Sem.run_bind, run_sizeOf (P := Tryz.prog) (e := 4) (m := 1) (by kernel_rfl), ha, TypeDesc.isRow, hj]
theorem A.part_R (s : A.Regs) (w : World) : (part 24 (A.cells s) 0).run Tryz.prog w = .ok (.agg ((A.cells s).extract 0 16)) w := by
  have ha := run_isAgg Tryz.underlying24 w
  simp [part, Sem.run_bind, run_sizeOf (P := Tryz.prog) (e := 24) (m := 16) (by kernel_rfl), ha, TypeDesc.isRow]
theorem A.items (d : Nat) (xs : Array Value) (w : World) : ∀ is : List Nat, (∀ i ∈ is, ∃ x, xs[i]? = some (.int .u32 x)) → (Op.eqItems (d + 1) 23 1 xs xs is).run Tryz.prog w = .ok true w
  | [], _ => by simp [Op.eqItems]
  | i :: is, h => by
    obtain ⟨x, hx⟩ := h i (by simp)
    have hp := A.part_u xs (i * 1) x w (by simpa using hx)
    have := A.items d xs w is (fun j hj => h j (by simp [hj]))
    simp only [Op.eqItems, Sem.run_bind, hp, Result.andThen_ok, run_equalIn_int w d 23 .u32 .u32 x x Tryz.underlying23]
    simpa using this
theorem A.eq_R (d : Nat) (s : A.Regs) (w : World) : (Op.equalIn (d + 2) 24 (.agg ((A.cells s).extract 0 16)) (.agg ((A.cells s).extract 0 16))).run Tryz.prog w = .ok true w := by
  obtain ⟨i, hi⟩ : ∃ i, Tryz.prog.info? 23 = some i := Option.isSome_iff_exists.1 (show (Tryz.prog.info? 23).isSome = true by kernel_rfl)
  rw [run_equalIn_array w (d + 1) _ _ Tryz.underlying24 hi, show Tryz.prog.cellsOf 23 = 1 by kernel_rfl]
  refine A.items d _ w _ fun j hj => ?_
  have hj' : j < 16 := by simpa using hj
  exact ⟨s.r j, by rw [Array.getElem?_extract]; simp [hj', A.cell_r s j hj']⟩
theorem A.eq_u (d : Nat) (x : Int) (w : World) : (Op.equalIn (d + 2) 23 (.int .u32 x) (.int .u32 x)).run Tryz.prog w = .ok true w := by
  rw [run_equalIn_int w (d + 1) 23 .u32 .u32 x x Tryz.underlying23]; simp
theorem A.eq_b (d : Nat) (x : Bool) (w : World) : (Op.equalIn (d + 2) 4 (.bool x) (.bool x)).run Tryz.prog w = .ok true w := by
  rw [run_equalIn_bool' w (d + 1) 4 x x Tryz.underlying4]; simp
theorem A.eq_regsD (d : Nat) (s : A.Regs) (w : World) : (Op.equalIn (d + 3) 26 (.agg (A.cells s)) (.agg (A.cells s))).run Tryz.prog w = .ok true w := by
  rw [run_equalIn_struct w (d + 2) 26 _ _ Tryz.underlying26 (by kernel_rfl)]
  simp only [Program.fieldsOf, Tryz.underlying26]
  simp only [Op.eqFields]
  rw [if_pos (by decide), if_pos (by decide), if_pos (by decide), if_pos (by decide), if_pos (by decide), if_pos (by decide)]
  simp only [Sem.run_bind, A.part_R, A.eq_R, A.part_u (A.cells s) 16 s.h _ rfl, A.part_b (A.cells s) 17 s.n _ rfl, A.part_b (A.cells s) 18 s.z _ rfl, A.part_b (A.cells s) 19 s.c _ rfl, A.part_b (A.cells s) 20 s.v _ rfl, A.eq_u, A.eq_b, Result.andThen_ok, Bool.not_true, Bool.false_eq_true, if_false, Sem.run_pure]
theorem A.depth : Op.maxDepth = 9997 + 3 := rfl
theorem A.eq_regs (s : A.Regs) (w : World) : (Op.equal 26 (.agg (A.cells s)) (.agg (A.cells s))).run Tryz.prog w = .ok true w := by
  unfold Op.equal
  rw [A.depth]
  exact A.eq_regsD 9997 s w
section
variable {P : Program} {ops : Array Oper} {rest : List Oper} {o : Oper} {a : Act} {w : World} {Q : Exit → Act → World → Prop}
end
theorem A.bin_eq (cs ds : Array Value) : binOp BinOp.eql 26 (.agg cs) (.agg ds) = (do pure (.bool (← Op.equal 26 (.agg cs) (.agg ds)))) := by simp only [binOp]
theorem exec_eq_regs {o : Oper} {a : Act} {w : World} (x y : Operand) (ho : o.op = .binOp .eql 26 x y 26) (s : A.Regs) (hx : a.eval x = .agg (A.cells s)) (hy : a.eval y = .agg (A.cells s)) :
    (execOp a.eval o).run Tryz.prog w = .ok (.value (.bool true)) w := by
  unfold execOp
  simp only [ho, hx, hy, Sem.run_bind]
  rw [run_eqGuard_agg w BinOp.eql 26 x y (A.cells s) (A.cells s) (by kernel_rfl)]
  simp only [Result.andThen_ok, A.bin_eq, Sem.run_bind, A.eq_regs, Sem.run_pure]
end Go.Proofs.YtlmddkciamdldaaGreat

/-
  One machine in a law's walk: Live; the contracts in its words; the document's example.
-/
namespace Go.Proofs.YtlmddkciamdldaaGreat
open Go.RowKit
set_option linter.unusedVariables false
set_option linter.unusedSimpArgs false
set_option maxRecDepth 100000
/-- the machine x, made since w0; nothing of w0 has turned -/
def Live (w0 : World) (B : Nat) (x : X.St) (w : World) : Prop := ∃ F, Mac F B x w ∧ (∀ k, F k → w0.heap.size ≤ k) ∧ Below w0.heap.size w0 w
theorem Live.below {w0 : World} {B : Nat} {x : X.St} {w : World} (h : Live w0 B x w) : Below w0.heap.size w0 w := by obtain ⟨F, h1, h2, h3⟩ := h; exact h3
theorem Live.mac {w0 : World} {B : Nat} {x : X.St} {w : World} (h : Live w0 B x w) : ∃ F, Mac F B x w := by obtain ⟨F, h1, h2, h3⟩ := h; exact ⟨F, h1⟩
theorem Live.turn0 {w0 : World} {B : Nat} {x : X.St} {w w' : World} (h : Live w0 B x w) (hT : Turn T0 w w') : Live w0 B x w' := by
  obtain ⟨F, h1, h2, h3⟩ := h
  exact ⟨F, h1.turn hT fun _ _ h => h, h2, h3.trans (hT.below w0.heap.size h3.size fun _ h => h.elim)⟩
theorem Live.kept {w0 : World} {B : Nat} {x : X.St} {w w' : World} (h : Live w0 B x w) (hK : Kept w w') : Live w0 B x w' := h.turn0 (hK.turn T0)
theorem Live.to {w0 : World} {B : Nat} {x' : X.St} {F F' : Nat → Prop} {w w' : World} (hF : ∀ k, F k → w0.heap.size ≤ k) (hb : Below w0.heap.size w0 w) (hM : Mac F' B x' w') (hT : Turn F w w') (hF' : ∀ k, F' k → F k ∨ w.heap.size ≤ k) : Live w0 B x' w' :=
  ⟨F', hM, fun k hk => by
    rcases hF' k hk with h1 | h1
    · exact hF k h1
    · exact Nat.le_trans hb.size h1, hb.trans (hT.below w0.heap.size hb.size hF)⟩
theorem Live.toB {w0 : World} {B : Nat} {x' : X.St} {F : Nat → Prop} {w w' : World} (hF : ∀ k, F k → w0.heap.size ≤ k) (hb : Below w0.heap.size w0 w) (hM : Mac F B x' w') (hB : But B w w') : Live w0 B x' w' :=
  Live.to hF hb hM (hB.turn hM.inB) fun k hk => Or.inl hk
theorem new_live {w : World} (n : Nat) (hn : n ≤ 4096) {ap : Option Addr} {m c : Nat} {xs : List Int} (hx : Ws w ap m c xs) (hm : m ≤ 1000000000) :
    Calls Tryz.prog 20 #[.int .i64 n, .slice ap m c] w fun e w' => ∃ B, e = .returned (.tuple #[.pointer (some ⟨B, 0, none⟩), .int .i64 0]) ∧ Live w B ⟨List.replicate n 0, A.none', 0, 0, xs, []⟩ w' := by
  refine (new_any n hn hx hm).mono ?_
  rintro e w' ⟨B, he, F, h1, h2, h3⟩
  exact ⟨B, he, F, h1, h3, h2.kept0⟩
theorem step_live {w0 : World} {B : Nat} {x : X.St} {w : World} (h : Live w0 B x w) (hn : x.outs.length < 1000000) :
    Calls Tryz.prog 10 #[.pointer (some ⟨B, 0, none⟩)] w fun e w' => e = .returned (.int .i64 (X.step x).st) ∧ Live w0 B (X.step x) w' := by
  obtain ⟨F, h1, h2, h3⟩ := h
  refine (step_any h1 hn).mono ?_
  rintro e w' ⟨he, F', p1, p2, p3⟩
  exact ⟨he, Live.to h2 h3 p1 p2 p3⟩
theorem run_live {w0 : World} {B : Nat} {x : X.St} {w : World} (h : Live w0 B x w) (n : Int) (N : Nat) (hN : n.toNat = N) (n0 : -9223372036854775808 ≤ n) (n1 : n ≤ 1000000) (hn : x.outs.length + N < 1000000) :
    Calls Tryz.prog 13 #[.pointer (some ⟨B, 0, none⟩), .int .i64 n] w fun e w' => e = .returned (.int .i64 (X.go N x).st) ∧ Live w0 B (X.go N x) w' := by
  obtain ⟨F, h1, h2, h3⟩ := h
  refine (run_any h1 n N hN n0 n1 hn).mono ?_
  rintro e w' ⟨he, F', p1, p2, p3⟩
  exact ⟨he, Live.to h2 h3 p1 p2 p3⟩
theorem place_live {w0 : World} {B : Nat} {x : X.St} {w : World} (h : Live w0 B x w) (k : Nat) (ap : Option Addr) (n c : Nat) (xs : List Int) (hx : Ws w ap n c xs) (hf : k + n ≤ x.ws.length) :
    Calls Tryz.prog 21 #[.pointer (some ⟨B, 0, none⟩), .int .i64 k, .slice ap n c] w fun e w' => e = .returned (.int .i64 0) ∧ Live w0 B ⟨M.placed x.ws k xs, x.s, x.pc, x.st, x.ins, x.outs⟩ w' := by
  obtain ⟨F, h1, h2, h3⟩ := h
  refine (place_any h1 k ap n c xs hx hf).mono ?_
  rintro e w' ⟨he, p1, p2⟩
  exact ⟨he, Live.toB h2 h3 p1 p2⟩
theorem start_live {w0 : World} {B : Nat} {x : X.St} {w : World} (h : Live w0 B x w) (pc : Int) (s : A.Regs) (ok : A.Ok s) (p0 : 0 ≤ pc) (p1 : pc < 4294967296) :
    Calls Tryz.prog 24 #[.pointer (some ⟨B, 0, none⟩), .int .u32 pc, .agg (A.cells s)] w fun e w' => e = .returned (.tuple #[]) ∧ Live w0 B ⟨x.ws, s, pc, 0, x.ins, x.outs⟩ w' := by
  obtain ⟨F, h1, h2, h3⟩ := h
  refine (start_any h1 pc s ok p0 p1).mono ?_
  rintro e w' ⟨he, q1, q2⟩
  exact ⟨he, Live.toB h2 h3 q1 q2⟩
theorem pc_live {w0 : World} {B : Nat} {x : X.St} {w : World} (h : Live w0 B x w) :
    Calls Tryz.prog 15 #[.pointer (some ⟨B, 0, none⟩)] w fun e w' => e = .returned (.int .u32 x.pc) ∧ w = w' := by
  obtain ⟨F, h1⟩ := h.mac; exact pc_any h1
theorem regs_live {w0 : World} {B : Nat} {x : X.St} {w : World} (h : Live w0 B x w) :
    Calls Tryz.prog 16 #[.pointer (some ⟨B, 0, none⟩)] w fun e w' => e = .returned (.agg (A.cells x.s)) ∧ Kept w w' := by
  obtain ⟨F, h1⟩ := h.mac; exact regs_any h1
theorem outs_live {w0 : World} {B : Nat} {x : X.St} {w : World} (h : Live w0 B x w) (hn : x.outs.length ≤ 1000000000) :
    Calls Tryz.prog 18 #[.pointer (some ⟨B, 0, none⟩)] w fun e w' => ∃ A' c', e = .returned (.slice A' x.outs.length c') ∧ Ws w' A' x.outs.length c' x.outs ∧ Turn T0 w w' ∧ ∀ ad, A' = some ad → w.heap.size ≤ ad.block ∧ ad.block < w'.heap.size := by
  obtain ⟨F, h1⟩ := h.mac; exact outs_any h1 hn
namespace X
/-- a step that does an instruction -/
theorem step_ins (x : St) (j : I.Ins) (h0 : x.st = 0) (ht : M.wt x.ws x.pc = 0) (hw : M.word x.ws x.pc = I.word j) (hm : I.May j) :
    step x = if doT x j = 0 ∨ doT x j = 1 then ⟨(doX x j).ws, doS x j, doP x j, doT x j, (doX x j).ins, (doX x j).outs⟩ else ⟨(doX x j).ws, x.s, x.pc, doT x j, (doX x j).ins, (doX x j).outs⟩ := by
  have hi : I.is (M.word x.ws x.pc) = true := by rw [hw]; exact I.is_word j hm
  have hd : I.dec (M.word x.ws x.pc) = j := by rw [hw]; exact I.dec_word j hm
  have hT : nextT x = doT x j := by unfold nextT; rw [if_pos ht, if_pos hi, hd]
  unfold step
  rw [if_pos h0, hT]
  unfold nextX
  rw [if_pos ⟨ht, hi⟩, hd]
  by_cases c : doT x j = 0 ∨ doT x j = 1
  · rw [if_pos c, if_pos c]
  · rw [if_neg c, if_neg c]
    have := doX_eq x j
    rw [this.1, this.2.1]
/-- the word that stands at a place -/
theorem at_word (ws : List Int) (k : Nat) (v pc : Int) (hk : ws[k]? = some v) (hp : pc = 4 * k) : M.wt ws pc = 0 ∧ M.word ws pc = v := by
  have hl : k < ws.length := by
    rcases Nat.lt_or_ge k ws.length with h1 | h1
    · exact h1
    · rw [List.getElem?_eq_none h1] at hk; cases hk
  subst hp
  have e1 : M.wt ws (4 * k) = 0 := by
    unfold M.wt M.bt
    rw [if_pos (by omega), if_neg (by omega)]
  refine ⟨e1, ?_⟩
  unfold M.word
  rw [if_pos e1, show ((4 * (k : Int)) / 4).toNat = k by omega, List.getD_eq_getElem?_getD, hk]
  rfl
end X
theorem run_imm_mov (s : A.Regs) (a i : Int) (hs : A.Ok s) (hm : I.May ⟨2, 0, a, 0, 0, i, false⟩) : A.run s ⟨2, 0, a, 0, 0, i, false⟩ = (A.show' (A.set s a.toNat (i % 4294967296)) (i % 4294967296), 0) := by
  rw [A.run_yes s _ hm (Or.inr (Or.inl rfl)) (fun h => by have := h.2.1; simp at this)]
  rfl
theorem X.first : X.step ⟨[1090519045], A.none', 0, 0, [], []⟩ = ⟨[1090519045], A.show' (A.set A.none' 1 5) 5, 4, 0, [], []⟩ := by
  have hm : I.May ⟨2, 0, 1, 0, 0, 5, false⟩ := by unfold I.May; simp
  have hw : I.word ⟨2, 0, 1, 0, 0, 5, false⟩ = 1090519045 := by simp [I.word, I.bit]
  have ha := X.at_word [1090519045] 0 1090519045 0 rfl rfl
  rw [X.step_ins _ ⟨2, 0, 1, 0, 0, 5, false⟩ rfl ha.1 (ha.2.trans hw.symm) hm]
  have hr := run_imm_mov A.none' 1 5 A.ok_none hm
  have e1 : X.doT ⟨[1090519045], A.none', 0, 0, [], []⟩ ⟨2, 0, 1, 0, 0, 5, false⟩ = 0 := by unfold X.doT; rw [if_neg (by simp), if_neg (by simp), hr]
  have e2 : X.doS ⟨[1090519045], A.none', 0, 0, [], []⟩ ⟨2, 0, 1, 0, 0, 5, false⟩ = A.show' (A.set A.none' 1 5) 5 := by unfold X.doS; rw [if_neg (by simp), if_neg (by simp), hr]; rfl
  have e3 : X.doP ⟨[1090519045], A.none', 0, 0, [], []⟩ ⟨2, 0, 1, 0, 0, 5, false⟩ = 4 := by unfold X.doP; rw [if_neg (by simp)]; rfl
  have e4 : X.doX ⟨[1090519045], A.none', 0, 0, [], []⟩ ⟨2, 0, 1, 0, 0, 5, false⟩ = ⟨[1090519045], A.none', 0, 0, [], []⟩ := by unfold X.doX; rw [if_neg (by simp)]
  rw [e1, e2, e3, e4, if_pos (Or.inl rfl)]
theorem A.field_R (s : A.Regs) (W : World) : (Instr.field 26 (.agg (A.cells s)) 0).run Tryz.prog W = .ok (.agg ((A.cells s).extract 0 16)) W := by
  have h := A.part_R s W
  simp only [Instr.field, Sem.run_bind, run_underlying Tryz.underlying26, Result.andThen_ok, asAgg, Sem.run_pure]
  exact h
theorem A.index_R (s : A.Regs) (j : Nat) (hj : j < 16) (W : World) : (Instr.index 24 (.agg ((A.cells s).extract 0 16)) (.int .i64 j)).run Tryz.prog W = .ok (.int .u32 (s.r j)) W :=
  run_index_cell Tryz.underlying24 (by omega) (by omega) Tryz.underlying23 rfl (by kernel_rfl) (by
    rw [Array.getElem?_extract]
    have := A.cell_r s j hj
    simp [hj, this]) W
theorem shown_any (w : World) : Calls Tryz.prog 6 #[] w fun e w' => e = .returned (.bool true) ∧ Turn T0 w w' := by
  go_enter Tryz.func6, Tryz.ntmps6
  go_wp2_with (fail)
  refine (new_live 1 (by omega) (Ws.empty w) (by omega)).mono ?_; rintro e w1 ⟨B, rfl, hL⟩
  have hLb := hL.below.size
  have hL1 := Lib.hid (hL.kept ((Kept.refl w1).alloc #[.int .u32 1090519045] 23))
  have hW1 := Lib.hid (Ws.sole (Has.new #[.int .u32 1090519045] 23 w1) (by omega) (by omega))
  clear hL
  go_wp2_with (fail)
  refine (place_live hL1.out 0 _ 1 1 [1090519045] hW1.out (by simp)).mono ?_; rintro e w2 ⟨rfl, hL2⟩
  replace hL2 : Live w B ⟨[1090519045], A.none', 0, 0, [], []⟩ w2 := hL2
  clear hL1 hW1
  replace hL2 := Lib.hid hL2
  go_wp2_with (fail)
  refine (step_live hL2.out (by simp)).mono ?_; rintro e w3 ⟨rfl, hL3⟩
  rw [X.first] at hL3 ⊢
  replace hL3 := Lib.hid hL3
  clear hL2
  go_wp2_with (fail)
  refine (regs_live hL3.out).mono ?_; rintro e w4 ⟨rfl, hK4⟩
  have hL4 := Lib.hid (hL3.out.kept hK4)
  clear hL3 hK4
  have hf := A.field_R (A.show' (A.set A.none' 1 5) 5)
  have hi : ∀ W, (Instr.index 24 (.agg ((A.cells (A.show' (A.set A.none' 1 5) 5)).extract 0 16)) (.int .i64 1)).run Tryz.prog W = .ok (.int .u32 5) W := A.index_R (A.show' (A.set A.none' 1 5) 5) 1 (by omega)
  generalize A.show' (A.set A.none' 1 5) 5 = s5 at *
  generalize (A.cells s5).extract 0 16 = c5 at *
  go_wp2_with (fail)
  refine (pc_live hL4.out).mono ?_; rintro e w5 ⟨rfl, rfl⟩
  go_wp2
  go_ret
  exact ⟨rfl, ⟨hL4.out.below.os, hL4.out.below.tape, hL4.out.below.output, hL4.out.below.size, fun k hk _ => hL4.out.below.block k hk⟩⟩
end Go.Proofs.YtlmddkciamdldaaGreat

/-
  Machines side by side (Four); what is told of them; comparisons.
-/
namespace Go.Proofs.YtlmddkciamdldaaGreat
open Go.RowKit
set_option linter.unusedVariables false
set_option linter.unusedSimpArgs false
set_option maxRecDepth 100000
structure X.Four (w0 : World) (F1 F2 F3 F4 : Nat → Prop) (w : World) : Prop where
  d12 : ∀ k, F1 k → ¬ F2 k
  d13 : ∀ k, F1 k → ¬ F3 k
  d14 : ∀ k, F1 k → ¬ F4 k
  d23 : ∀ k, F2 k → ¬ F3 k
  d24 : ∀ k, F2 k → ¬ F4 k
  d34 : ∀ k, F3 k → ¬ F4 k
  g1 : ∀ k, F1 k → w0.heap.size ≤ k
  g2 : ∀ k, F2 k → w0.heap.size ≤ k
  g3 : ∀ k, F3 k → w0.heap.size ≤ k
  g4 : ∀ k, F4 k → w0.heap.size ≤ k
  s1 : ∀ k, F1 k → k < w.heap.size
  s2 : ∀ k, F2 k → k < w.heap.size
  s3 : ∀ k, F3 k → k < w.heap.size
  s4 : ∀ k, F4 k → k < w.heap.size
  b : Below w0.heap.size w0 w
theorem X.Four.rot {w0 : World} {F1 F2 F3 F4 : Nat → Prop} {w : World} (h : X.Four w0 F1 F2 F3 F4 w) : X.Four w0 F2 F3 F4 F1 w :=
  ⟨h.d23, h.d24, fun k a b => h.d12 k b a, h.d34, fun k a b => h.d13 k b a, fun k a b => h.d14 k b a, h.g2, h.g3, h.g4, h.g1, h.s2, h.s3, h.s4, h.s1, h.b⟩
theorem X.Four.step {w0 : World} {F1 F2 F3 F4 F1' : Nat → Prop} {w w' : World} (h : X.Four w0 F1 F2 F3 F4 w) (hT : Turn F1 w w') (hs : ∀ k, F1' k → k < w'.heap.size) (hF : ∀ k, F1' k → F1 k ∨ w.heap.size ≤ k) : X.Four w0 F1' F2 F3 F4 w' :=
  ⟨fun k a b => by rcases hF k a with c | c; exact h.d12 k c b; have := h.s2 k b; omega, fun k a b => by rcases hF k a with c | c; exact h.d13 k c b; have := h.s3 k b; omega, fun k a b => by rcases hF k a with c | c; exact h.d14 k c b; have := h.s4 k b; omega, h.d23, h.d24, h.d34,
    fun k a => by rcases hF k a with c | c; exact h.g1 k c; exact Nat.le_trans h.b.size c, h.g2, h.g3, h.g4, hs, fun k a => Nat.lt_of_lt_of_le (h.s2 k a) hT.size, fun k a => Nat.lt_of_lt_of_le (h.s3 k a) hT.size, fun k a => Nat.lt_of_lt_of_le (h.s4 k a) hT.size,
    h.b.trans (hT.below w0.heap.size h.b.size h.g1)⟩
theorem X.Four.turn0 {w0 : World} {F1 F2 F3 F4 : Nat → Prop} {w w' : World} (h : X.Four w0 F1 F2 F3 F4 w) (hT : Turn T0 w w') : X.Four w0 F1 F2 F3 F4 w' :=
  h.step (hT.mono fun _ _ h => h.elim) (fun k a => Nat.lt_of_lt_of_le (h.s1 k a) hT.size) fun k a => Or.inl a
theorem X.Four.start {w0 w : World} (hb : Below w0.heap.size w0 w) : X.Four w0 T0 T0 T0 T0 w :=
  ⟨fun _ h => h.elim, fun _ h => h.elim, fun _ h => h.elim, fun _ h => h.elim, fun _ h => h.elim, fun _ h => h.elim, fun _ h => h.elim, fun _ h => h.elim, fun _ h => h.elim, fun _ h => h.elim, fun _ h => h.elim, fun _ h => h.elim, fun _ h => h.elim, fun _ h => h.elim, hb⟩
/-- a place is filled by what was made since -/
theorem X.Four.put {w0 : World} {F2 F3 F4 F : Nat → Prop} {w w' : World} (h : X.Four w0 T0 F2 F3 F4 w) (hT : Turn T0 w w') (hs : ∀ k, F k → k < w'.heap.size) (hF : ∀ k, F k → w.heap.size ≤ k) : X.Four w0 F F2 F3 F4 w' :=
  h.step hT hs fun k a => Or.inr (hF k a)
theorem Ws.turn {w w' : World} {F : Nat → Prop} {A : Option Addr} {n c : Nat} {xs : List Int} (h : Ws w A n c xs) (hT : Turn F w w') (hF : ∀ ad, A = some ad → 0 < n → ¬ F ad.block) : Ws w' A n c xs :=
  h.to fun ad e hn => hT.block _ (by subst e; exact h.lt hn) (hF ad e hn)
theorem Ws.turn0 {w w' : World} {A : Option Addr} {n c : Nat} {xs : List Int} (h : Ws w A n c xs) (hT : Turn T0 w w') : Ws w' A n c xs := h.turn hT fun _ _ _ h => h
theorem Has.turn0 {w w' : World} {B : Nat} {cs : Array Value} {t : TypeId} (h : Has B cs t w) (hT : Turn T0 w w') : Has B cs t w' := (hT.block _ h.lt id).trans h
theorem below_turn0 {w w' : World} (h : Below w.heap.size w w') : Turn T0 w w' := ⟨h.os, h.tape, h.output, h.size, fun k hk _ => h.block k hk⟩
theorem exec_neq_regs {o : Oper} {a : Act} {w : World} (x y : Operand) (ho : o.op = .binOp .neq 26 x y 26) (s : A.Regs) (hx : a.eval x = .agg (A.cells s)) (hy : a.eval y = .agg (A.cells s)) :
    (execOp a.eval o).run Tryz.prog w = .ok (.value (.bool false)) w := by
  have e : binOp BinOp.neq 26 (.agg (A.cells s)) (.agg (A.cells s)) = (do pure (.bool (!(← Op.equal 26 (.agg (A.cells s)) (.agg (A.cells s)))))) := by simp only [binOp]
  unfold execOp
  simp only [ho, hx, hy, Sem.run_bind]
  rw [run_eqGuard_agg w BinOp.neq 26 x y (A.cells s) (A.cells s) (by kernel_rfl)]
  simp only [Result.andThen_ok, e, Sem.run_bind, A.eq_regs, Sem.run_pure]
  rfl
theorem A.eql (s : A.Regs) (W : World) : (binOp .eql 26 (.agg (A.cells s)) (.agg (A.cells s))).run Tryz.prog W = .ok (.bool true) W := by
  rw [A.bin_eq]; simp [Sem.run_bind, A.eq_regs]
theorem X.and63 (n : Int) : ∃ a : Nat, bits .and .i64 n 63 = a ∧ a < 64 := by
  have h : (BitVec.ofInt 64 63).toNat = 2 ^ 6 - 1 := by decide
  have key : (BitVec.ofInt 64 n &&& BitVec.ofInt 64 63).toNat = (n % ((2 ^ 64 : Nat) : Int)).toNat % 2 ^ 6 := by
    rw [BitVec.toNat_and, BitVec.toNat_ofInt, h, Nat.and_two_pow_sub_one_eq_mod]
  refine ⟨(n % ((2 ^ 64 : Nat) : Int)).toNat % 2 ^ 6, ?_, Nat.mod_lt _ (by decide)⟩
  show IntKind.i64.wrap ((BitVec.ofInt 64 n &&& BitVec.ofInt 64 63).toNat : Nat) = _
  rw [key, IntKind.wrap_i64]
  omega
namespace X
/-- a trap, or one that does not run, leaves all but how it stands -/
theorem nextX_trap (x : St) (h : 1 < nextT x) : nextX x = x := by
  unfold nextX
  by_cases c : M.wt x.ws x.pc = 0 ∧ I.is (M.word x.ws x.pc) = true
  · rw [if_pos c]
    have e : nextT x = doT x (I.dec (M.word x.ws x.pc)) := by unfold nextT; rw [if_pos c.1, if_pos c.2]
    rw [e] at h
    rw [if_neg (by omega)]
    generalize I.dec (M.word x.ws x.pc) = j at *
    unfold doX
    unfold doT at h
    by_cases k5 : j.k = 5
    · rw [if_pos k5] at h ⊢
      by_cases o0 : j.op = 0
      · rw [if_pos o0] at h ⊢
        unfold ldT at h
        unfold ldI
        by_cases p : adr x j = 4294967232
        · rw [if_pos p] at h; omega
        · rw [if_neg p]
      · rw [if_neg o0] at h ⊢
        by_cases o1 : j.op = 1
        · rw [if_pos o1]
        · rw [if_neg o1] at h ⊢
          by_cases o2 : j.op = 2
          · rw [if_pos o2] at h ⊢
            unfold swT at h
            unfold swW swO
            by_cases p : adr x j = 4294967236
            · rw [if_pos p] at h; omega
            · rw [if_neg p] at h ⊢
              rw [if_neg p]
              by_cases q : adr x j = 4294967240
              · rw [if_pos q] at h; omega
              · rw [if_neg q] at h ⊢
                unfold M.setW
                rw [if_neg (by omega)]
          · rw [if_neg o2] at h ⊢
            unfold M.setB
            rw [if_neg (by omega)]
    · rw [if_neg k5]
  · rw [if_neg c]
theorem step_same (x : St) (h : ¬ x.st = 0 ∨ 1 < (step x).st) : (step x).ws = x.ws ∧ (step x).s = x.s ∧ (step x).pc = x.pc ∧ (step x).outs = x.outs := by
  by_cases h0 : x.st = 0
  · have e : step x = ⟨(nextX x).ws, (nextX x).s, (nextX x).pc, nextT x, (nextX x).ins, (nextX x).outs⟩ := by unfold step; rw [if_pos h0]
    rw [e] at h ⊢
    have : 1 < nextT x := by
      rcases h with h | h
      · exact absurd h0 h
      · exact h
    rw [nextX_trap x this]
    exact ⟨rfl, rfl, rfl, rfl⟩
  · rw [step_stop x h0]; exact ⟨rfl, rfl, rfl, rfl⟩
theorem run_st (s : A.Regs) (j : I.Ins) : (A.run s j).2 = 0 ∨ (A.run s j).2 = 5 := by
  unfold A.run
  split
  · exact Or.inl rfl
  · split
    · exact Or.inr rfl
    · exact Or.inl rfl
theorem bt_st (ws : List Int) (a : Int) : M.bt ws a = 0 ∨ M.bt ws a = 3 := by unfold M.bt; split <;> simp
theorem wt_st (ws : List Int) (a : Int) : M.wt ws a = 0 ∨ M.wt ws a = 3 ∨ M.wt ws a = 4 := by
  unfold M.wt
  split
  · rcases bt_st ws a with h | h <;> simp [h]
  · simp
theorem doT_st (x : St) (j : I.Ins) : 0 ≤ doT x j ∧ doT x j ≤ 5 := by
  unfold doT
  have h1 := bt_st x.ws (adr x j)
  have h2 := wt_st x.ws (adr x j)
  have h3 := run_st x.s j
  unfold ldT swT
  split
  · split
    · split <;> omega
    · split
      · omega
      · split
        · split
          · omega
          · split <;> omega
        · omega
  · split <;> omega
theorem step_st (x : St) (h : 0 ≤ x.st ∧ x.st ≤ 5) : 0 ≤ (step x).st ∧ (step x).st ≤ 5 := by
  unfold step
  split
  · show 0 ≤ nextT x ∧ nextT x ≤ 5
    unfold nextT
    have := wt_st x.ws x.pc
    split
    · split
      · exact doT_st _ _
      · omega
    · omega
  · exact h
theorem go_st (x : St) (h : 0 ≤ x.st ∧ x.st ≤ 5) : ∀ n, 0 ≤ (go n x).st ∧ (go n x).st ≤ 5
  | 0 => h
  | n + 1 => by rw [go_succ]; exact step_st _ (go_st x h n)
end X
end Go.Proofs.YtlmddkciamdldaaGreat

/-
  Data that came in, opened to any depth: numbers, bools, strings, structs, arrays, slices; what a reading of it says of the memory. No Go text is named here.
-/
namespace Go.Proofs.YtlmddkciamdldaaGreat
open Go.ChangeShapes Go.WideShapes Go.RowKit
set_option linter.unusedVariables false
set_option linter.unusedSimpArgs false
set_option maxRecDepth 100000
/-- the shape of a type -/
inductive Sh where
  | int (k : IntKind)
  | bool
  | str
  | nil
  | cons (f r : Sh)
  | rep (n : Nat) (e : Sh)
  | sl (e : Sh)
/-- how many cells -/
def Sh.size : Sh → Nat
  | .int _ | .bool | .str | .sl _ => 1
  | .nil => 0
  | .cons f r => f.size + r.size
  | .rep n e => n * e.size
/-- a struct's fields, one behind the other -/
def shFields (P : Program) (g : TypeId → Option Sh) : Nat → List Field → Option Sh
  | _, [] => some .nil
  | off, f :: fs =>
    match g f.type with
    | some s => if f.offset = off ∧ P.cellsOf f.type = s.size then (shFields P g (off + s.size) fs).map (Sh.cons s) else none
    | none => none
def shapeAt (P : Program) : Nat → TypeId → Option Sh
  | 0, _ => none
  | n + 1, t =>
    match P.underlying t with
    | some (.int k) => some (.int k)
    | some .bool => some .bool
    | some .string => some .str
    | some (.struct fs) => match shFields P (shapeAt P n) 0 fs.toList with
      | some s => if P.cellsOf t = s.size then some s else none
      | none => none
    | some (.array m e) => match shapeAt P n e with
      | some s => if P.cellsOf e = s.size ∧ P.cellsOf t = m * s.size then some (.rep m s) else none
      | none => none
    | some (.slice e) => match shapeAt P n e with
      | some s => if P.cellsOf e = s.size then some (.sl s) else none
      | none => none
    | _ => none
/-- what the cells hold, and what lies behind them -/
def Sees (w : World) : Sh → List Value → Prop
  | .int k, cs => ∃ a, cs = [.int k a] ∧ (Lit.int k a).wf = true
  | .bool, cs => ∃ b, cs = [.bool b]
  | .str, cs => ∃ s, cs = [.string s] ∧ s.size ≤ maxLen
  | .nil, cs => cs = []
  | .cons f r, cs => ∃ c d, cs = c ++ d ∧ c.length = f.size ∧ Sees w f c ∧ Sees w r d
  | .rep n e, cs => cs.length = n * e.size ∧ ∀ i, i < n → Sees w e ((cs.drop (i * e.size)).take e.size)
  | .sl e, cs => cs = [.slice none 0 0] ∨ ∃ (a : Addr) (len cap : Nat), cs = [.slice (some a) len cap] ∧ len ≤ cap ∧ cap ≤ maxLen ∧ ∀ i, i < len → ∃ es, w.cells? 0 (a.add (i * e.size)) e.size = some es ∧ Sees w e es
section
variable {H : Type} {enc : TypeId × Value → H} {P : Program} {w : World} {spare : Nat → Bool} {held : Bool}
theorem sees_fields {m : Nat} {g : TypeId → Option Sh} (ih : ∀ t s, g t = some s → ∀ cs (x : DataW H × List MemPlace), DataW.trod enc P w 0 spare held m t cs = some x → Sees w s cs) :
    ∀ (fs : List Field) (off : Nat) (s : Sh) (cs : List Value) (ys : List (DataW H × List MemPlace)), shFields P g off fs = some s → (cs.drop off).length = s.size →
      fs.mapM (fun f => DataW.trod enc P w 0 spare held m f.type ((cs.drop f.offset).take (P.cellsOf f.type))) = some ys → Sees w s (cs.drop off)
  | [], off, s, cs, ys, hk, hl, h => by
    simp [shFields] at hk
    subst hk
    exact List.length_eq_zero_iff.1 hl
  | f :: fs, off, s, cs, ys, hk, hl, h => by
    unfold shFields at hk
    split at hk
    · rename_i s0 hg
      split at hk
      · rename_i hc
        simp only [Option.map_eq_some_iff] at hk
        obtain ⟨r, hr, rfl⟩ := hk
        rw [List.mapM_cons] at h
        simp only [bind, Option.bind_eq_some_iff, pure, Option.some.injEq] at h
        obtain ⟨y, hy, ys', hys, rfl⟩ := h
        have h0 := ih _ _ hg _ _ hy
        rw [hc.1, hc.2] at h0
        have hl2 : (cs.drop off).length = s0.size + r.size := hl
        have hl' : (cs.drop (off + s0.size)).length = r.size := by
          rw [← List.drop_drop, List.length_drop, hl2]; omega
        refine ⟨(cs.drop off).take s0.size, (cs.drop off).drop s0.size, (List.take_append_drop _ _).symm, ?_, h0, ?_⟩
        · rw [List.length_take, hl2]; omega
        · rw [List.drop_drop]
          exact sees_fields ih fs (off + s0.size) r cs ys' hr hl' hys
      · cases hk
    · cases hk
/-- a reading says what is seen -/
theorem sees_of : ∀ (n : Nat) (t : TypeId) (s : Sh), shapeAt P n t = some s → ∀ (fuel : Nat) (cs : List Value) (x : DataW H × List MemPlace), DataW.trod enc P w 0 spare held fuel t cs = some x → Sees w s cs
  | 0, t, s, h, _, _, _, _ => by simp [shapeAt] at h
  | n + 1, t, s, h, fuel, cs, x, hx => by
    cases fuel with
    | zero => simp [DataW.trod] at hx
    | succ m =>
      unfold shapeAt at h
      split at h
      · rename_i k hu
        simp only [Option.some.injEq] at h; subst h
        obtain ⟨a, rfl, _, wa⟩ := DataW.trod_int hu hx
        exact ⟨a, rfl, wa⟩
      · rename_i hu
        simp only [Option.some.injEq] at h; subst h
        obtain ⟨b, rfl, _⟩ := DataW.trod_bool hu hx
        exact ⟨b, rfl⟩
      · rename_i hu
        simp only [Option.some.injEq] at h; subst h
        rw [DataW.trod_step] at hx
        unfold DataW.trodStep at hx
        rw [hu] at hx
        split at hx <;> simp_all
        exact ⟨_, rfl, hx.1⟩
      · rename_i fs hu
        split at h
        · rename_i s0 hk
          split at h
          · rename_i hc
            simp only [Option.some.injEq] at h; subst h
            rw [DataW.trod_step] at hx
            unfold DataW.trodStep at hx
            simp only [hu] at hx
            split at hx
            · rename_i hlen
              simp only [Option.map_eq_some_iff] at hx
              obtain ⟨ys, hys, rfl⟩ := hx
              have := sees_fields (fun t s hg cs x hx => sees_of n t s hg m cs x hx) fs.toList 0 s0 cs ys hk (by rw [List.drop_zero, hlen, hc]) hys
              rw [List.drop_zero] at this
              exact this
            · cases hx
          · cases h
        · cases h
      · rename_i q e hu
        split at h
        · rename_i s0 hk
          split at h
          · rename_i hc
            simp only [Option.some.injEq] at h; subst h
            rw [DataW.trod_step] at hx
            unfold DataW.trodStep at hx
            simp only [hu] at hx
            split at hx
            · rename_i hlen
              simp only [Option.map_eq_some_iff] at hx
              obtain ⟨ys, hys, rfl⟩ := hx
              rw [hc.1] at hys
              refine ⟨by rw [hlen, hc.2], fun i hi => ?_⟩
              have := mapM_some_get hys i i (by simp [hi])
              obtain ⟨y, hy⟩ : ∃ y, ys[i]? = some y := by
                have hl := mapM_some_length hys
                exact ⟨ys[i]'(by rw [hl]; simpa using hi), List.getElem?_eq_getElem _⟩
              rw [hy] at this
              exact sees_of n e s0 hk m _ _ this
            · cases hx
          · cases h
        · cases h
      · rename_i e hu
        split at h
        · rename_i s0 hk
          split at h
          · rename_i hc
            simp only [Option.some.injEq] at h; subst h
            rcases DataW.trod_slice hu hx with ⟨h0, _⟩ | ⟨a, len, cap, elems, rest, q, hq, hcs, _, _, hl, hm, hlen, hel, _⟩
            · exact Or.inl h0
            · refine Or.inr ⟨a, len, cap, hcs, hl, hm, fun i hi => ?_⟩
              have he := hel i hi
              obtain ⟨y, hy⟩ : ∃ y, elems[i]? = some y := ⟨elems[i]'(by omega), List.getElem?_eq_getElem _⟩
              rw [hy, Option.bind_eq_some_iff] at he
              obtain ⟨es, h1, h2⟩ := he
              rw [hc] at h1
              exact ⟨es, h1, sees_of n e s0 hk q es y h2⟩
          · cases h
        · cases h
      · cases h
theorem open_sees {n : Nat} {t : TypeId} {s : Sh} {v : Value} {d : DataW H} {p : List MemPlace} (hs : shapeAt P n t = some s) (h : DataW.Trod enc P w 0 spare held t v d p) : Sees w s v.cells.toList := by
  obtain ⟨fuel, hf⟩ := h
  exact sees_of n t s hs fuel _ _ hf
/-- a slice by its cells -/
theorem open_sl {r : Reach} {b0 n : Nat} {t e : TypeId} {s : Sh} {v : Value} {d : DataW H} {p : List MemPlace} (hu : P.underlying t = some (.slice e)) (hs : shapeAt P n t = some s) (hv : Value.okWide P w r b0 t v) (h : DataW.Trod enc P w 0 spare held t v d p) :
    ∃ A m c, v = .slice A m c ∧ Sees w s [.slice A m c] := by
  obtain ⟨A, m, c, rfl⟩ := okWide_slice hu hv
  exact ⟨A, m, c, rfl, by have := open_sees hs h; simpa [Value.cells] using this⟩
/-- a string -/
theorem open_text {r : Reach} {b0 n : Nat} {t : TypeId} {v : Value} {d : DataW H} {p : List MemPlace} (hu : P.underlying t = some .string) (hv : Value.okWide P w r b0 t v) (h : DataW.Trod enc P w 0 spare held t v d p) :
    ∃ x, v = .string x ∧ x.size ≤ maxLen := by
  have := open_sees (n := 1) (s := .str) (by simp [shapeAt, hu]) h
  obtain ⟨x, hx, hl⟩ := this
  refine ⟨x, ?_, hl⟩
  cases v <;> simp_all [Value.cells]
  · rename_i cs
    simp [Value.okWide, hu, Cell.okWide, Cell.ok] at hv
end
section
variable {w : World}
theorem cells_one {a : Addr} {es : List Value} (h : w.cells? 0 a 1 = some es) : ∃ v, es = [v] ∧ w.cell? a = some v := by
  unfold World.cells? at h
  rw [if_pos (Nat.zero_le _)] at h
  rw [show List.range 1 = [0] from rfl] at h
  simp only [List.mapM_cons, List.mapM_nil, bind, Option.bind_eq_some_iff, pure, Option.some.injEq] at h
  obtain ⟨v, hv, ys, rfl, rfl⟩ := h
  exact ⟨v, rfl, by simpa [Addr.add] using hv⟩
theorem cells_at {a : Addr} {n : Nat} {es : List Value} (h : w.cells? 0 a n = some es) : es.length = n ∧ ∀ j v, es[j]? = some v → w.cell? (a.add j) = some v := by
  unfold World.cells? at h
  rw [if_pos (Nat.zero_le _)] at h
  have hl := mapM_some_length h
  rw [List.length_range] at hl
  refine ⟨hl, fun j v hj => ?_⟩
  have hlt : j < n := by
    rcases Nat.lt_or_ge j es.length with h1 | h1
    · omega
    · rw [List.getElem?_eq_none h1] at hj; cases hj
  rw [mapM_some_get h j j (by simp [hlt]), hj]
theorem add_add (a : Addr) (i j : Nat) : (a.add i).add j = a.add (i + j) := by
  cases i with
  | zero => rw [Nat.zero_add]; rfl
  | succ i =>
    cases j with
    | zero => rfl
    | succ j =>
      show ({ a with off := a.off + (i + 1) + (j + 1), spot := none } : Addr) = { a with off := a.off + (i + 1 + (j + 1)), spot := none }
      rw [Nat.add_assoc]
theorem add_block (a : Addr) (i : Nat) : (a.add i).block = a.block := by cases i <;> rfl
/-- the cells of a slice of numbers -/
def Ints (w : World) (k : IntKind) (A : Option Addr) (n : Nat) (xs : List Int) : Prop :=
  xs.length = n ∧ (∀ x ∈ xs, (Lit.int k x).wf = true) ∧ (A = none → n = 0) ∧ ∀ ad, A = some ad → ∀ j x, xs[j]? = some x → w.cell? (ad.add j) = some (.int k x)
theorem ints_row {a : Addr} {k : IntKind} : ∀ (len : Nat), (∀ i, i < len → ∃ es, w.cells? 0 (a.add (i * 1)) 1 = some es ∧ Sees w (.int k) es) →
    ∃ xs : List Int, xs.length = len ∧ (∀ x ∈ xs, (Lit.int k x).wf = true) ∧ ∀ j x, xs[j]? = some x → w.cell? (a.add j) = some (.int k x)
  | 0, _ => ⟨[], rfl, by simp, by simp⟩
  | len + 1, h => by
    obtain ⟨xs, h1, h2, h3⟩ := ints_row len (fun i hi => h i (by omega))
    obtain ⟨es, he, hs⟩ := h len (by omega)
    obtain ⟨v, rfl, hv⟩ := cells_one he
    obtain ⟨x, hx, hw⟩ := hs
    simp only [List.cons.injEq, and_true] at hx
    subst hx
    rw [Nat.mul_one] at hv
    refine ⟨xs ++ [x], by simp [h1], ?_, ?_⟩
    · intro y hy
      rcases List.mem_append.1 hy with hy | hy
      · exact h2 y hy
      · simp at hy; subst hy; exact hw
    · intro j y hj
      by_cases hlt : j < xs.length
      · rw [List.getElem?_append_left hlt] at hj
        exact h3 j y hj
      · rw [List.getElem?_append_right (by omega)] at hj
        have hj0 : j - xs.length = 0 := by
          rcases Nat.eq_zero_or_pos (j - xs.length) with h0 | h0
          · exact h0
          · rw [List.getElem?_eq_none (by simp; omega)] at hj; cases hj
        rw [hj0] at hj
        simp at hj
        subst hj
        rw [show j = len by omega]
        exact hv
theorem sees_ints {k : IntKind} {A : Option Addr} {n c : Nat} (h : Sees w (.sl (.int k)) [.slice A n c]) : n ≤ c ∧ c ≤ maxLen ∧ ∃ xs, Ints w k A n xs := by
  rcases h with h | ⟨a, len, cap, h, hl, hm, he⟩
  · simp only [List.cons.injEq, Value.slice.injEq, and_true] at h
    obtain ⟨rfl, rfl, rfl⟩ := h
    exact ⟨Nat.le_refl _, by simp [maxLen], [], rfl, by simp, fun _ => rfl, by simp⟩
  · simp only [List.cons.injEq, Value.slice.injEq, and_true] at h
    obtain ⟨rfl, rfl, rfl⟩ := h
    obtain ⟨xs, h1, h2, h3⟩ := ints_row _ he
    exact ⟨hl, hm, xs, h1, h2, by simp, fun ad had j x hx => by cases had; exact h3 j x hx⟩
theorem Ints.lt {k : IntKind} {ad : Addr} {n j : Nat} {xs : List Int} (h : Ints w k (some ad) n xs) (hj : j < n) : ad.block < w.heap.size := by
  have hl : j < xs.length := by have := h.1; omega
  have hx : xs[j]? = some xs[j] := List.getElem?_eq_getElem hl
  have := World.block_lt_of_cell? w _ (h.2.2.2 ad rfl j _ hx)
  unfold Addr.add at this
  split at this <;> exact this
end
end Go.Proofs.YtlmddkciamdldaaGreat

/-
  Slices that came in, as rows of words.
-/
namespace Go.Proofs.YtlmddkciamdldaaGreat
open Go.ChangeShapes Go.WideShapes Go.RowKit
set_option linter.unusedVariables false
set_option linter.unusedSimpArgs false
set_option maxRecDepth 100000
theorem wf_u32 {x : Int} (h : (Lit.int .u32 x).wf = true) : 0 ≤ x ∧ x < 4294967296 := by
  simp [Lit.wf, IntKind.bits, IntKind.signed, IntKind.min, IntKind.max] at h
  omega
theorem wf_u8 {x : Int} (h : (Lit.int .u8 x).wf = true) : 0 ≤ x ∧ x ≤ 255 := by
  simp [Lit.wf, IntKind.bits, IntKind.signed, IntKind.min, IntKind.max] at h
  omega
theorem wf_u16 {x : Int} (h : (Lit.int .u16 x).wf = true) : 0 ≤ x ∧ x ≤ 65535 := by
  simp [Lit.wf, IntKind.bits, IntKind.signed, IntKind.min, IntKind.max] at h
  omega
theorem wf_i64 {x : Int} (h : (Lit.int .i64 x).wf = true) : -9223372036854775808 ≤ x ∧ x ≤ 9223372036854775807 := by
  simp [Lit.wf, IntKind.bits, IntKind.signed, IntKind.min, IntKind.max] at h
  omega
theorem sees_ws {w : World} {A : Option Addr} {n c : Nat} (h : Sees w (.sl (.int .u32)) [.slice A n c]) : ∃ xs, Ws w A n c xs := by
  have hn : A = none → c = 0 := by
    rcases h with h | ⟨a, len, cap, h, _⟩
    · simp only [List.cons.injEq, Value.slice.injEq, and_true] at h
      exact fun _ => h.2.2
    · simp only [List.cons.injEq, Value.slice.injEq, and_true] at h
      exact fun e => by rw [h.1] at e; cases e
  obtain ⟨h1, h2, xs, i1, i2, i3, i4⟩ := sees_ints h
  exact ⟨xs, i1, h1, h2, hn, fun x hx => wf_u32 (i2 x hx), i4⟩
end Go.Proofs.YtlmddkciamdldaaGreat

/-
  Registers out of their cells.
-/
namespace Go.Proofs.YtlmddkciamdldaaGreat
open Go.ChangeShapes Go.WideShapes Go.RowKit
set_option linter.unusedVariables false
set_option linter.unusedSimpArgs false
set_option maxRecDepth 100000
def A.of (l : List Int) (h : Int) (n z c v : Bool) : A.Regs := ⟨fun j => l.getD j 0, h, n, z, c, v⟩
theorem A.word {a : Int} (w : (Lit.int .u32 a).wf = true) : 0 ≤ a ∧ a < 4294967296 := by have := bounds_u32 w; omega
/-- the shape of registers, and of how a machine is set up -/
def regsSh : Sh := .cons (.rep 16 (.int .u32)) (.cons (.int .u32) (.cons .bool (.cons .bool (.cons .bool (.cons .bool .nil)))))
def setSh : Sh := .cons regsSh (.cons (.int .u32) (.cons (.sl (.int .u32)) .nil))
theorem sees_rep {w : World} {cs : List Value} (h : Sees w (.rep 16 (.int .u32)) cs) : ∃ l : List Int, l.length = 16 ∧ cs = l.map (Value.int .u32) ∧ ∀ x ∈ l, 0 ≤ x ∧ x < 4294967296 := by
  obtain ⟨hl, h⟩ := h
  have hl : cs.length = 16 := hl
  have h1 : ∀ i : Nat, ∃ a : Int, i < 16 → cs[i]? = some (.int .u32 a) ∧ 0 ≤ a ∧ a < 4294967296 := by
    intro i
    by_cases hi : i < 16
    · obtain ⟨a, ha, hw⟩ := h i hi
      have ha : (cs.drop (i * 1)).take 1 = [.int .u32 a] := ha
      rw [Nat.mul_one] at ha
      refine ⟨a, fun _ => ⟨?_, A.word hw⟩⟩
      have : ((cs.drop i).take 1)[0]? = some (.int .u32 a) := by rw [ha]; rfl
      rw [List.getElem?_take, if_pos (by omega), List.getElem?_drop, Nat.add_zero] at this
      exact this
    · exact ⟨0, fun h => absurd h hi⟩
  refine ⟨(List.range 16).map fun i => Classical.choose (h1 i), by simp, ?_, ?_⟩
  · apply List.ext_getElem?
    intro i
    by_cases hi : i < 16
    · rw [(Classical.choose_spec (h1 i) hi).1, List.getElem?_map, List.getElem?_map, List.getElem?_range hi]; rfl
    · rw [List.getElem?_eq_none (by omega), List.getElem?_eq_none (by simp; omega)]
  · intro x hx
    obtain ⟨i, hi, rfl⟩ := List.mem_map.1 hx
    exact (Classical.choose_spec (h1 i) (by simpa using hi)).2
theorem list16 (l : List Int) (h : l.length = 16) : l.map (Value.int .u32) = [.int .u32 (l.getD 0 0), .int .u32 (l.getD 1 0), .int .u32 (l.getD 2 0), .int .u32 (l.getD 3 0), .int .u32 (l.getD 4 0), .int .u32 (l.getD 5 0), .int .u32 (l.getD 6 0), .int .u32 (l.getD 7 0), .int .u32 (l.getD 8 0), .int .u32 (l.getD 9 0), .int .u32 (l.getD 10 0), .int .u32 (l.getD 11 0), .int .u32 (l.getD 12 0), .int .u32 (l.getD 13 0), .int .u32 (l.getD 14 0), .int .u32 (l.getD 15 0)] := by
  apply List.ext_getElem?
  intro i
  by_cases hi : i < 16
  · rw [List.getElem?_map, List.getElem?_eq_getElem (by omega)]
    have hd : ∀ j, (hj : j < 16) → l.getD j 0 = l[j]'(by omega) := fun j hj => by simp [List.getD_eq_getElem?_getD, List.getElem?_eq_getElem (show j < l.length by omega)]
    rw [hd 0 (by omega), hd 1 (by omega), hd 2 (by omega), hd 3 (by omega), hd 4 (by omega), hd 5 (by omega), hd 6 (by omega), hd 7 (by omega), hd 8 (by omega), hd 9 (by omega), hd 10 (by omega), hd 11 (by omega), hd 12 (by omega), hd 13 (by omega), hd 14 (by omega), hd 15 (by omega)]
    rcases (show i = 0 ∨ i = 1 ∨ i = 2 ∨ i = 3 ∨ i = 4 ∨ i = 5 ∨ i = 6 ∨ i = 7 ∨ i = 8 ∨ i = 9 ∨ i = 10 ∨ i = 11 ∨ i = 12 ∨ i = 13 ∨ i = 14 ∨ i = 15 by omega) with rfl | rfl | rfl | rfl | rfl | rfl | rfl | rfl | rfl | rfl | rfl | rfl | rfl | rfl | rfl | rfl <;> rfl
  · rw [List.getElem?_eq_none (by simp; omega), List.getElem?_eq_none (by simp; omega)]
/-- the cells of a set-up: registers, a place, inputs -/
theorem sees_set {w : World} {cs : List Value} (h : Sees w setSh cs) : ∃ (s : A.Regs) (pc : Int) (A' : Option Addr) (n c : Nat), A.Ok s ∧ (0 ≤ pc ∧ pc < 4294967296) ∧ (∃ is, Ws w A' n c is) ∧ cs = [.int .u32 (s.r 0), .int .u32 (s.r 1), .int .u32 (s.r 2), .int .u32 (s.r 3), .int .u32 (s.r 4), .int .u32 (s.r 5), .int .u32 (s.r 6), .int .u32 (s.r 7), .int .u32 (s.r 8), .int .u32 (s.r 9), .int .u32 (s.r 10), .int .u32 (s.r 11), .int .u32 (s.r 12), .int .u32 (s.r 13), .int .u32 (s.r 14), .int .u32 (s.r 15), .int .u32 s.h, .bool s.n, .bool s.z, .bool s.c, .bool s.v, .int .u32 pc, .slice A' n c] := by
  obtain ⟨c0, d0, rfl, _, h0, h⟩ := h
  obtain ⟨c1, d1, rfl, _, ⟨pc, rfl, hp⟩, h⟩ := h
  obtain ⟨c2, d2, rfl, _, h2, h⟩ := h
  have hd : d2 = [] := h
  subst hd
  obtain ⟨e0, f0, rfl, _, hR, h0⟩ := h0
  obtain ⟨e1, f1, rfl, _, ⟨hh, rfl, hw⟩, h0⟩ := h0
  obtain ⟨e2, f2, rfl, _, ⟨n, rfl⟩, h0⟩ := h0
  obtain ⟨e3, f3, rfl, _, ⟨z, rfl⟩, h0⟩ := h0
  obtain ⟨e4, f4, rfl, _, ⟨c, rfl⟩, h0⟩ := h0
  obtain ⟨e5, f5, rfl, _, ⟨v, rfl⟩, h0⟩ := h0
  have hf : f5 = [] := h0
  subst hf
  obtain ⟨l, hl, rfl, hr⟩ := sees_rep hR
  have hs : ∃ A n c, c2 = [.slice A n c] := by
    rcases h2 with rfl | ⟨ad, len, cap, rfl, _⟩
    · exact ⟨_, _, _, rfl⟩
    · exact ⟨_, _, _, rfl⟩
  obtain ⟨A', m, q, rfl⟩ := hs
  refine ⟨A.of l hh n z c v, pc, A', m, q, ⟨fun j hj => ?_, A.word hw⟩, A.word hp, sees_ws h2, ?_⟩
  · show 0 ≤ l.getD j 0 ∧ l.getD j 0 < 4294967296
    rw [List.getD_eq_getElem?_getD, List.getElem?_eq_getElem (show j < l.length by omega)]
    exact hr _ (List.getElem_mem _)
  · rw [list16 l hl]; rfl
section
variable {H : Type} {enc : TypeId × Value → H} {P : Program} {w : World} {spare : Nat → Bool} {held : Bool}
theorem open_row {r : Reach} {b0 n : Nat} {t : TypeId} {fs : Array Field} {s : Sh} {v : Value} {d : DataW H} {p : List MemPlace} (hu : P.underlying t = some (.struct fs)) (hs : shapeAt P n t = some s) (hv : Value.okWide P w r b0 t v) (h : DataW.Trod enc P w 0 spare held t v d p) :
    ∃ cs : Array Value, v = .agg cs ∧ Sees w s cs.toList := by
  have hcs : ∃ cs : Array Value, v = .agg cs := by
    simp only [Value.okWide, hu] at hv
    obtain ⟨cs, rfl, _⟩ := hv
    exact ⟨cs, rfl⟩
  obtain ⟨cs, rfl⟩ := hcs
  exact ⟨cs, rfl, by have := open_sees hs h; simpa [Value.cells] using this⟩
end
end Go.Proofs.YtlmddkciamdldaaGreat
