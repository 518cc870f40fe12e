/-
  The contracts of rivetref03's guess and Decode.
-/
import Derived.Test.YtliofphhoaopkaaIsaP
namespace Go.Proofs.Ytliofphhoaopkaa
open Go.RowKit
set_option linter.unusedVariables false
set_option linter.unusedSimpArgs false
set_option maxRecDepth 100000 in
set_option maxHeartbeats 1000000 in
theorem guess_0a (x a b : Int) (w : World) (x0 : 0 ≤ x) (x1 : x < 4294967296)
    (EF : x / 1073741824 = 0) (EU : (bits .and .u32 (x / 536870912) 1 == 1) = true) (EV : (bits .and .u32 (x / 268435456) 1 == 1) = true) (EA : bits .and .u32 (x / 16777216) 15 = a) (a0 : 0 ≤ a) (a1 : a ≤ 15) (EB : bits .and .u32 (x / 1048576) 15 = b) (b0 : 0 ≤ b) (b1 : b ≤ 15) (EO : bits .and .u32 (x / 65536) 15 = 0) :
    Calls Try.prog 24 #[.int .u32 x] w fun e w' => e = .returned (.agg #[.int .i64 4, .int .i64 0, .int .i64 a, .int .i64 0, .int .i64 0, .int .i64 0, .bool false]) ∧ Kept w w' := by
  go_enter Try.func24, Try.ntmps24
  go_wp2_with fail
  exact bodyPost_ret (v := .agg #[.int .i64 4, .int .i64 0, .int .i64 a, .int .i64 0, .int .i64 0, .int .i64 0, .bool false]) (by simp [results, Try.results24, go_sem]) rfl ⟨rfl, (Kept.refl w).alloc _ _⟩
set_option maxRecDepth 100000 in
set_option maxHeartbeats 1000000 in
theorem guess_0b (x a b : Int) (w : World) (x0 : 0 ≤ x) (x1 : x < 4294967296)
    (EF : x / 1073741824 = 0) (EU : (bits .and .u32 (x / 536870912) 1 == 1) = true) (EV : (bits .and .u32 (x / 268435456) 1 == 1) = false) (EA : bits .and .u32 (x / 16777216) 15 = a) (a0 : 0 ≤ a) (a1 : a ≤ 15) (EB : bits .and .u32 (x / 1048576) 15 = b) (b0 : 0 ≤ b) (b1 : b ≤ 15) (EO : bits .and .u32 (x / 65536) 15 = 0) :
    Calls Try.prog 24 #[.int .u32 x] w fun e w' => e = .returned (.agg #[.int .i64 3, .int .i64 0, .int .i64 a, .int .i64 0, .int .i64 0, .int .i64 0, .bool false]) ∧ Kept w w' := by
  go_enter Try.func24, Try.ntmps24
  go_wp2_with fail
  exact bodyPost_ret (v := .agg #[.int .i64 3, .int .i64 0, .int .i64 a, .int .i64 0, .int .i64 0, .int .i64 0, .bool false]) (by simp [results, Try.results24, go_sem]) rfl ⟨rfl, (Kept.refl w).alloc _ _⟩
set_option maxRecDepth 100000 in
set_option maxHeartbeats 1000000 in
theorem guess_0c (x a b c op : Int) (v : Bool) (w : World) (x0 : 0 ≤ x) (x1 : x < 4294967296)
    (EF : x / 1073741824 = 0) (EU : (bits .and .u32 (x / 536870912) 1 == 1) = true) (EV : (bits .and .u32 (x / 268435456) 1 == 1) = v) (EA : bits .and .u32 (x / 16777216) 15 = a) (a0 : 0 ≤ a) (a1 : a ≤ 15) (EB : bits .and .u32 (x / 1048576) 15 = b) (b0 : 0 ≤ b) (b1 : b ≤ 15) (EO : bits .and .u32 (x / 65536) 15 = op) (o0 : 0 ≤ op) (o1 : op ≤ 15) (hz : (op == 0) = false) (hz1 : ¬ op = 0) (EC : bits .and .u32 x 15 = c) (c0 : 0 ≤ c) (c1 : c ≤ 15) :
    Calls Try.prog 24 #[.int .u32 x] w fun e w' => e = .returned (.agg #[.int .i64 1, .int .i64 op, .int .i64 a, .int .i64 b, .int .i64 c, .int .i64 0, .bool true]) ∧ Kept w w' := by
  go_enter Try.func24, Try.ntmps24
  go_wp2_with fail
  exact bodyPost_ret (v := .agg #[.int .i64 1, .int .i64 op, .int .i64 a, .int .i64 b, .int .i64 c, .int .i64 0, .bool true]) (by simp [results, Try.results24, go_sem]) rfl ⟨rfl, (Kept.refl w).alloc _ _⟩
set_option maxRecDepth 100000 in
set_option maxHeartbeats 1000000 in
theorem guess_0d (x a b c op : Int) (v : Bool) (w : World) (x0 : 0 ≤ x) (x1 : x < 4294967296)
    (EF : x / 1073741824 = 0) (EU : (bits .and .u32 (x / 536870912) 1 == 1) = false) (EV : (bits .and .u32 (x / 268435456) 1 == 1) = v) (EA : bits .and .u32 (x / 16777216) 15 = a) (a0 : 0 ≤ a) (a1 : a ≤ 15) (EB : bits .and .u32 (x / 1048576) 15 = b) (b0 : 0 ≤ b) (b1 : b ≤ 15) (EO : bits .and .u32 (x / 65536) 15 = op) (o0 : 0 ≤ op) (o1 : op ≤ 15) (EC : bits .and .u32 x 15 = c) (c0 : 0 ≤ c) (c1 : c ≤ 15) :
    Calls Try.prog 24 #[.int .u32 x] w fun e w' => e = .returned (.agg #[.int .i64 1, .int .i64 op, .int .i64 a, .int .i64 b, .int .i64 c, .int .i64 0, .bool false]) ∧ Kept w w' := by
  go_enter Try.func24, Try.ntmps24
  go_wp2_with fail
  exact bodyPost_ret (v := .agg #[.int .i64 1, .int .i64 op, .int .i64 a, .int .i64 b, .int .i64 c, .int .i64 0, .bool false]) (by simp [results, Try.results24, go_sem]) rfl ⟨rfl, (Kept.refl w).alloc _ _⟩
set_option maxRecDepth 100000 in
set_option maxHeartbeats 1000000 in
theorem guess_1t (x a b m op : Int) (u : Bool) (w : World) (x0 : 0 ≤ x) (x1 : x < 4294967296)
    (EF : x / 1073741824 = 1) (EU : (bits .and .u32 (x / 536870912) 1 == 1) = u) (EV : (bits .and .u32 (x / 268435456) 1 == 1) = true) (EA : bits .and .u32 (x / 16777216) 15 = a) (a0 : 0 ≤ a) (a1 : a ≤ 15) (EB : bits .and .u32 (x / 1048576) 15 = b) (b0 : 0 ≤ b) (b1 : b ≤ 15) (EO : bits .and .u32 (x / 65536) 15 = op) (o0 : 0 ≤ op) (o1 : op ≤ 15) (EM : bits .and .u32 x 65535 = m) (m0 : 0 ≤ m) (m1 : m ≤ 65535) :
    Calls Try.prog 24 #[.int .u32 x] w fun e w' => e = .returned (.agg #[.int .i64 2, .int .i64 op, .int .i64 a, .int .i64 b, .int .i64 0, .int .i64 (m - 65536), .bool u]) ∧ Kept w w' := by
  go_enter Try.func24, Try.ntmps24
  go_wp2_with fail
  exact bodyPost_ret (v := .agg #[.int .i64 2, .int .i64 op, .int .i64 a, .int .i64 b, .int .i64 0, .int .i64 (m - 65536), .bool u]) (by simp [results, Try.results24, go_sem]) rfl ⟨rfl, (Kept.refl w).alloc _ _⟩
set_option maxRecDepth 100000 in
set_option maxHeartbeats 1000000 in
theorem guess_1f (x a b m op : Int) (u : Bool) (w : World) (x0 : 0 ≤ x) (x1 : x < 4294967296)
    (EF : x / 1073741824 = 1) (EU : (bits .and .u32 (x / 536870912) 1 == 1) = u) (EV : (bits .and .u32 (x / 268435456) 1 == 1) = false) (EA : bits .and .u32 (x / 16777216) 15 = a) (a0 : 0 ≤ a) (a1 : a ≤ 15) (EB : bits .and .u32 (x / 1048576) 15 = b) (b0 : 0 ≤ b) (b1 : b ≤ 15) (EO : bits .and .u32 (x / 65536) 15 = op) (o0 : 0 ≤ op) (o1 : op ≤ 15) (EM : bits .and .u32 x 65535 = m) (m0 : 0 ≤ m) (m1 : m ≤ 65535) :
    Calls Try.prog 24 #[.int .u32 x] w fun e w' => e = .returned (.agg #[.int .i64 2, .int .i64 op, .int .i64 a, .int .i64 b, .int .i64 0, .int .i64 m, .bool u]) ∧ Kept w w' := by
  go_enter Try.func24, Try.ntmps24
  go_wp2_with fail
  exact bodyPost_ret (v := .agg #[.int .i64 2, .int .i64 op, .int .i64 a, .int .i64 b, .int .i64 0, .int .i64 m, .bool u]) (by simp [results, Try.results24, go_sem]) rfl ⟨rfl, (Kept.refl w).alloc _ _⟩
set_option maxRecDepth 100000 in
set_option maxHeartbeats 1000000 in
theorem guess_2 (x a b op i U V : Int) (u : Bool) (v : Bool) (w : World) (x0 : 0 ≤ x) (x1 : x < 4294967296)
    (EF : x / 1073741824 = 2) (EU : (bits .and .u32 (x / 536870912) 1 == 1) = u) (EV : (bits .and .u32 (x / 268435456) 1 == 1) = v) (EA : bits .and .u32 (x / 16777216) 15 = a) (a0 : 0 ≤ a) (a1 : a ≤ 15) (EB : bits .and .u32 (x / 1048576) 15 = b) (b0 : 0 ≤ b) (b1 : b ≤ 15) (EO : bits .and .u32 (x / 65536) 15 = op) (o0 : 0 ≤ op) (o1 : op ≤ 15) (U0 : 0 ≤ U) (U1 : U ≤ 1) (V0 : 0 ≤ V) (V1 : V ≤ 1)
    (CU : Hid (∀ w, Calls Try.prog 22 #[.bool u] w fun e w' => e = .returned (.int .u32 U) ∧ w = w'))
    (CV : Hid (∀ w, Calls Try.prog 22 #[.bool v] w fun e w' => e = .returned (.int .u32 V) ∧ w = w'))
    (CS : Hid (∀ w, Calls Try.prog 40 #[.int .u32 x, .int .i64 20] w fun e w' => e = .returned (.int .i64 i) ∧ w = w')) :
    Calls Try.prog 24 #[.int .u32 x] w fun e w' => e = .returned (.agg #[.int .i64 5, .int .i64 (2 * U + V), .int .i64 a, .int .i64 b, .int .i64 0, .int .i64 i, .bool false]) ∧ Kept w w' := by
  go_enter Try.func24, Try.ntmps24
  go_wp2_with fail
  refine (CU.out _).mono ?_; rintro e w' ⟨rfl, rfl⟩
  go_wp2_with fail
  refine (CV.out _).mono ?_; rintro e w' ⟨rfl, rfl⟩
  go_wp2_with fail
  refine (CS.out _).mono ?_; rintro e w' ⟨rfl, rfl⟩
  go_wp2_with fail
  exact bodyPost_ret (v := .agg #[.int .i64 5, .int .i64 (2 * U + V), .int .i64 a, .int .i64 b, .int .i64 0, .int .i64 i, .bool false]) (by simp [results, Try.results24, go_sem]) rfl ⟨rfl, (Kept.refl w).alloc _ _⟩
set_option maxRecDepth 100000 in
set_option maxHeartbeats 1000000 in
theorem guess_3j (x a b op i : Int) (v : Bool) (w : World) (x0 : 0 ≤ x) (x1 : x < 4294967296)
    (EF : x / 1073741824 = 3) (EU : (bits .and .u32 (x / 536870912) 1 == 1) = true) (EV : (bits .and .u32 (x / 268435456) 1 == 1) = v) (EA : bits .and .u32 (x / 16777216) 15 = a) (a0 : 0 ≤ a) (a1 : a ≤ 15) (EB : bits .and .u32 (x / 1048576) 15 = b) (b0 : 0 ≤ b) (b1 : b ≤ 15) (EO : bits .and .u32 (x / 65536) 15 = op) (o0 : 0 ≤ op) (o1 : op ≤ 15)
    (CS : Hid (∀ w, Calls Try.prog 40 #[.int .u32 x, .int .i64 24] w fun e w' => e = .returned (.int .i64 i) ∧ w = w')) :
    Calls Try.prog 24 #[.int .u32 x] w fun e w' => e = .returned (.agg #[.int .i64 7, .int .i64 a, .int .i64 0, .int .i64 0, .int .i64 0, .int .i64 i, .bool v]) ∧ Kept w w' := by
  go_enter Try.func24, Try.ntmps24
  go_wp2_with fail
  refine (CS.out _).mono ?_; rintro e w' ⟨rfl, rfl⟩
  go_wp2_with fail
  exact bodyPost_ret (v := .agg #[.int .i64 7, .int .i64 a, .int .i64 0, .int .i64 0, .int .i64 0, .int .i64 i, .bool v]) (by simp [results, Try.results24, go_sem]) rfl ⟨rfl, (Kept.refl w).alloc _ _⟩
set_option maxRecDepth 100000 in
set_option maxHeartbeats 1000000 in
theorem guess_3b (x a b op c : Int) (v : Bool) (w : World) (x0 : 0 ≤ x) (x1 : x < 4294967296)
    (EF : x / 1073741824 = 3) (EU : (bits .and .u32 (x / 536870912) 1 == 1) = false) (EV : (bits .and .u32 (x / 268435456) 1 == 1) = v) (EA : bits .and .u32 (x / 16777216) 15 = a) (a0 : 0 ≤ a) (a1 : a ≤ 15) (EB : bits .and .u32 (x / 1048576) 15 = b) (b0 : 0 ≤ b) (b1 : b ≤ 15) (EO : bits .and .u32 (x / 65536) 15 = op) (o0 : 0 ≤ op) (o1 : op ≤ 15) (EC : bits .and .u32 x 15 = c) (c0 : 0 ≤ c) (c1 : c ≤ 15) :
    Calls Try.prog 24 #[.int .u32 x] w fun e w' => e = .returned (.agg #[.int .i64 6, .int .i64 a, .int .i64 0, .int .i64 0, .int .i64 c, .int .i64 0, .bool v]) ∧ Kept w w' := by
  go_enter Try.func24, Try.ntmps24
  go_wp2_with fail
  exact bodyPost_ret (v := .agg #[.int .i64 6, .int .i64 a, .int .i64 0, .int .i64 0, .int .i64 c, .int .i64 0, .bool v]) (by simp [results, Try.results24, go_sem]) rfl ⟨rfl, (Kept.refl w).alloc _ _⟩
theorem rsgn_lit (x : Int) (hx : U32 x) (n r : Int) (hr : F.sgnd x (F.clamp n) = r) (w : World) :
    Calls Try.prog 40 #[.int .u32 x, .int .i64 n] w fun e w' => e = .returned (.int .i64 r) ∧ w = w' := hr ▸ rsgnd_any x n hx.1 hx.2 w
theorem rguess_any (x : Int) (hx : U32 x) (w : World) :
    Calls Try.prog 24 #[.int .u32 x] w fun e w' => e = .returned (.agg #[.int .i64 (I.guess x).k, .int .i64 (I.guess x).op, .int .i64 (I.guess x).a, .int .i64 (I.guess x).b, .int .i64 (I.guess x).c, .int .i64 (I.guess x).i, .bool (I.guess x).u]) ∧ Kept w w' := by
  have x0 := hx.1
  have x1 := hx.2
  have EA : bits .and .u32 (x / 16777216) 15 = x / 16777216 % 16 := I.and_mask _ ⟨by omega, by omega⟩ 4 15 (by omega) rfl
  have EB : bits .and .u32 (x / 1048576) 15 = x / 1048576 % 16 := I.and_mask _ ⟨by omega, by omega⟩ 4 15 (by omega) rfl
  have EO : bits .and .u32 (x / 65536) 15 = x / 65536 % 16 := I.and_mask _ ⟨by omega, by omega⟩ 4 15 (by omega) rfl
  have EC : bits .and .u32 x 15 = x % 16 := I.and_mask _ hx 4 15 (by omega) rfl
  have EM : bits .and .u32 x 65535 = x % 65536 := I.and_mask _ hx 16 65535 (by omega) rfl
  have EU : (bits .and .u32 (x / 536870912) 1 == 1) = decide (x / 536870912 % 2 = 1) := by
    rw [I.and_mask (x / 536870912) ⟨by omega, by omega⟩ 1 1 (by omega) rfl, Bool.eq_iff_iff, beq_iff_eq, decide_eq_true_eq]; rfl
  have EV : (bits .and .u32 (x / 268435456) 1 == 1) = decide (x / 268435456 % 2 = 1) := by
    rw [I.and_mask (x / 268435456) ⟨by omega, by omega⟩ 1 1 (by omega) rfl, Bool.eq_iff_iff, beq_iff_eq, decide_eq_true_eq]; rfl
  have hf : x / 1073741824 = 0 ∨ x / 1073741824 = 1 ∨ x / 1073741824 = 2 ∨ x / 1073741824 = 3 := by omega
  rcases hf with h | h | h | h
  · by_cases hu : x / 536870912 % 2 = 1
    · rw [decide_eq_true hu] at EU
      by_cases hz : x / 65536 % 16 = 0
      · rw [hz] at EO
        by_cases hv : x / 268435456 % 2 = 1
        · rw [decide_eq_true hv] at EV
          rw [show I.guess x = ⟨4, 0, x / 16777216 % 16, 0, 0, 0, false⟩ by unfold I.guess; rw [if_pos h, if_pos ⟨hu, hz⟩, if_pos hv]]
          exact guess_0a x (x / 16777216 % 16) (x / 1048576 % 16) w x0 x1 h EU EV EA (by omega) (by omega) EB (by omega) (by omega) EO
        · rw [decide_eq_false hv] at EV
          rw [show I.guess x = ⟨3, 0, x / 16777216 % 16, 0, 0, 0, false⟩ by unfold I.guess; rw [if_pos h, if_pos ⟨hu, hz⟩, if_neg hv]]
          exact guess_0b x (x / 16777216 % 16) (x / 1048576 % 16) w x0 x1 h EU EV EA (by omega) (by omega) EB (by omega) (by omega) EO
      · rw [show I.guess x = ⟨1, x / 65536 % 16, x / 16777216 % 16, x / 1048576 % 16, x % 16, 0, true⟩ by unfold I.guess; rw [if_pos h, if_neg (fun g => hz g.2), decide_eq_true hu]]
        exact guess_0c x (x / 16777216 % 16) (x / 1048576 % 16) (x % 16) (x / 65536 % 16) _ w x0 x1 h EU EV EA (by omega) (by omega) EB (by omega) (by omega) EO (by omega) (by omega) (by simpa using hz) hz EC (by omega) (by omega)
    · rw [decide_eq_false hu] at EU
      rw [show I.guess x = ⟨1, x / 65536 % 16, x / 16777216 % 16, x / 1048576 % 16, x % 16, 0, false⟩ by unfold I.guess; rw [if_pos h, if_neg (fun g => hu g.1), decide_eq_false hu]]
      exact guess_0d x (x / 16777216 % 16) (x / 1048576 % 16) (x % 16) (x / 65536 % 16) _ w x0 x1 h EU EV EA (by omega) (by omega) EB (by omega) (by omega) EO (by omega) (by omega) EC (by omega) (by omega)
  · by_cases hv : x / 268435456 % 2 = 1
    · rw [decide_eq_true hv] at EV
      rw [show I.guess x = ⟨2, x / 65536 % 16, x / 16777216 % 16, x / 1048576 % 16, 0, x % 65536 - 65536, decide (x / 536870912 % 2 = 1)⟩ by unfold I.guess; rw [if_neg (by omega), if_pos h, if_pos hv]]
      exact guess_1t x (x / 16777216 % 16) (x / 1048576 % 16) (x % 65536) (x / 65536 % 16) _ w x0 x1 h EU EV EA (by omega) (by omega) EB (by omega) (by omega) EO (by omega) (by omega) EM (by omega) (by omega)
    · rw [decide_eq_false hv] at EV
      rw [show I.guess x = ⟨2, x / 65536 % 16, x / 16777216 % 16, x / 1048576 % 16, 0, x % 65536, decide (x / 536870912 % 2 = 1)⟩ by unfold I.guess; rw [if_neg (by omega), if_pos h, if_neg hv]]
      exact guess_1f x (x / 16777216 % 16) (x / 1048576 % 16) (x % 65536) (x / 65536 % 16) _ w x0 x1 h EU EV EA (by omega) (by omega) EB (by omega) (by omega) EO (by omega) (by omega) EM (by omega) (by omega)
  · have hb : ∀ y : Int, I.bit (decide (y % 2 = 1)) = y % 2 := fun y => by
      by_cases q : y % 2 = 1
      · rw [decide_eq_true q, q]; rfl
      · rw [decide_eq_false q]; show (0 : Int) = _; omega
    have e : x / 268435456 % 4 = 2 * I.bit (decide (x / 536870912 % 2 = 1)) + I.bit (decide (x / 268435456 % 2 = 1)) := by rw [hb, hb]; omega
    rw [show I.guess x = ⟨5, 2 * I.bit (decide (x / 536870912 % 2 = 1)) + I.bit (decide (x / 268435456 % 2 = 1)), x / 16777216 % 16, x / 1048576 % 16, 0, I.sx 524288 (x % 1048576), false⟩ by unfold I.guess; rw [if_neg (by omega), if_neg (by omega), if_pos h, e]]
    exact guess_2 x (x / 16777216 % 16) (x / 1048576 % 16) (x / 65536 % 16) _ _ _ _ _ w x0 x1 h EU EV EA (by omega) (by omega) EB (by omega) (by omega) EO (by omega) (by omega) (I.bit_lo _) (I.bit_hi _) (I.bit_lo _) (I.bit_hi _) (Lib.hid (one_any _)) (Lib.hid (one_any _)) (Lib.hid (rsgn_lit x hx 20 _ (I.sx20 x)))
  · by_cases hu : x / 536870912 % 2 = 1
    · rw [decide_eq_true hu] at EU
      rw [show I.guess x = ⟨7, x / 16777216 % 16, 0, 0, 0, I.sx 8388608 (x % 16777216), decide (x / 268435456 % 2 = 1)⟩ by unfold I.guess; rw [if_neg (by omega), if_neg (by omega), if_neg (by omega), if_pos hu]]
      exact guess_3j x (x / 16777216 % 16) (x / 1048576 % 16) (x / 65536 % 16) _ _ w x0 x1 h EU EV EA (by omega) (by omega) EB (by omega) (by omega) EO (by omega) (by omega) (Lib.hid (rsgn_lit x hx 24 _ (I.sx24 x)))
    · rw [decide_eq_false hu] at EU
      rw [show I.guess x = ⟨6, x / 16777216 % 16, 0, 0, x % 16, 0, decide (x / 268435456 % 2 = 1)⟩ by unfold I.guess; rw [if_neg (by omega), if_neg (by omega), if_neg (by omega), if_neg hu]]
      exact guess_3b x (x / 16777216 % 16) (x / 1048576 % 16) (x / 65536 % 16) (x % 16) _ w x0 x1 h EU EV EA (by omega) (by omega) EB (by omega) (by omega) EO (by omega) (by omega) EC (by omega) (by omega)
set_option maxHeartbeats 2000000 in
theorem rdec_1 (x k op a b c i : Int) (u : Bool) (w : World)
    (CR : Hid (∀ w, Calls Try.prog 24 #[.int .u32 x] w fun e w' => e = .returned (.agg #[.int .i64 k, .int .i64 op, .int .i64 a, .int .i64 b, .int .i64 c, .int .i64 i, .bool u]) ∧ Kept w w'))
    (CE : Hid (∀ w, Calls Try.prog 13 #[.agg #[.int .i64 k, .int .i64 op, .int .i64 a, .int .i64 b, .int .i64 c, .int .i64 i, .bool u]] w fun e w' => e = .returned (.tuple #[.int .u32 0, .int .i64 1]) ∧ Kept w w')) :
    Calls Try.prog 15 #[.int .u32 x] w fun e w' => e = .returned (.tuple #[.agg #[.int .i64 0, .int .i64 0, .int .i64 0, .int .i64 0, .int .i64 0, .int .i64 0, .bool false], .bool false]) ∧ Kept w w' := by
  have X1 := Lib.hid (Box.new 0 0 0 0 0 0 false w)
  have HB := Lib.hid (show Kept w (w.alloc (.cells #[.int .i64 0, .int .i64 0, .int .i64 0, .int .i64 0, .int .i64 0, .int .i64 0, .bool false] 23)) from (Kept.refl w).alloc _ _)
  have HL := Lib.hid (show w.heap.size < (w.alloc (.cells #[.int .i64 0, .int .i64 0, .int .i64 0, .int .i64 0, .int .i64 0, .int .i64 0, .bool false] 23)).heap.size from by simp)
  go_enter Try.func15, Try.ntmps15
  go_wp2_with fail
  refine (CR.out _).mono ?_; rintro e w5 ⟨rfl, hK1⟩
  have HK := Lib.hid hK1
  have HN := Lib.hid (show w.heap.size ≠ w5.heap.size from by have := HK.out.size; have := HL.out; omega)
  clear hK1
  go_upto_region 2 with (fail)
  have XI := Box.new k op a b c i u w5
  have XZ := (X1.out.kept HK.out).alloc (.cells #[.int .i64 k, .int .i64 op, .int .i64 a, .int .i64 b, .int .i64 c, .int .i64 i, .bool u] 23)
  have KK := (HB.out.trans HK.out).alloc #[.int .i64 k, .int .i64 op, .int .i64 a, .int .i64 b, .int .i64 c, .int .i64 i, .bool u] 23
  generalize (w5.alloc (.cells #[.int .i64 k, .int .i64 op, .int .i64 a, .int .i64 b, .int .i64 c, .int .i64 i, .bool u] 23)) = w6 at XI XZ KK ⊢
  generalize w5.heap.size = B2 at HN XI ⊢
  have HI := Lib.hid XI
  have HZ := Lib.hid XZ
  have HKK := Lib.hid KK
  clear HK X1 HB HL XI XZ KK
  obtain ⟨i0, i1, i2, i3, i4, i5, i6⟩ := HI.out.cells
  go_wp2_with fail
  refine (CE.out _).mono ?_; rintro e w7 ⟨rfl, hK6⟩
  clear i0 i1 i2 i3 i4 i5 i6
  obtain ⟨i0, i1, i2, i3, i4, i5, i6⟩ := (HI.out.kept hK6).cells
  obtain ⟨z0, z1, z2, z3, z4, z5, z6⟩ := (HZ.out.kept hK6).cells
  obtain ⟨f0, f1, f2, f3, f4, f5, f6⟩ := (HZ.out.kept hK6).free
  have R := Lib.hid ((HZ.out.kept hK6).stored (k' := 0) (op' := 0) (a' := 0) (b' := 0) (c' := 0) (i' := 0) (u' := false))
  have RK := Lib.hid ((HKK.out.trans hK6).store7 (B' := w.heap.size) (by omega) (0) (0) (0) (0) (0) (0) (false))
  go_wp2_with fail
  clear z0 z1 z2 z3 z4 z5 z6 f0 f1 f2 f3 f4 f5 f6
  have R := R.out
  have RK := RK.out
  unfold store7 at R RK
  generalize (((((((w7.setCell ⟨w.heap.size, 0, none⟩ (.int .i64 (0))).setCell ⟨w.heap.size, 1, none⟩ (.int .i64 (0))).setCell ⟨w.heap.size, 2, none⟩ (.int .i64 (0))).setCell ⟨w.heap.size, 3, none⟩ (.int .i64 (0))).setCell ⟨w.heap.size, 4, none⟩ (.int .i64 (0))).setCell ⟨w.heap.size, 5, none⟩ (.int .i64 (0))).setCell ⟨w.heap.size, 6, none⟩ (.bool (false))) = w9 at R RK ⊢
  obtain ⟨r0, r1, r2, r3, r4, r5, r6⟩ := R.cells
  exact bodyPost_ret (v := .tuple #[.agg #[.int .i64 0, .int .i64 0, .int .i64 0, .int .i64 0, .int .i64 0, .int .i64 0, .bool false], .bool false]) (by simp [results, Try.results15, go_sem, r0, r1, r2, r3, r4, r5, r6]) rfl ⟨rfl, RK⟩
set_option maxHeartbeats 2000000 in
theorem rdec_2 (x k op a b c i own : Int) (u : Bool) (hne : ¬ own = x) (hn1 : (own == x) = false) (hn2 : (own != x) = true) (w : World)
    (CR : Hid (∀ w, Calls Try.prog 24 #[.int .u32 x] w fun e w' => e = .returned (.agg #[.int .i64 k, .int .i64 op, .int .i64 a, .int .i64 b, .int .i64 c, .int .i64 i, .bool u]) ∧ Kept w w'))
    (CE : Hid (∀ w, Calls Try.prog 13 #[.agg #[.int .i64 k, .int .i64 op, .int .i64 a, .int .i64 b, .int .i64 c, .int .i64 i, .bool u]] w fun e w' => e = .returned (.tuple #[.int .u32 own, .int .i64 0]) ∧ Kept w w')) :
    Calls Try.prog 15 #[.int .u32 x] w fun e w' => e = .returned (.tuple #[.agg #[.int .i64 0, .int .i64 0, .int .i64 0, .int .i64 0, .int .i64 0, .int .i64 0, .bool false], .bool false]) ∧ Kept w w' := by
  have X1 := Lib.hid (Box.new 0 0 0 0 0 0 false w)
  have HB := Lib.hid (show Kept w (w.alloc (.cells #[.int .i64 0, .int .i64 0, .int .i64 0, .int .i64 0, .int .i64 0, .int .i64 0, .bool false] 23)) from (Kept.refl w).alloc _ _)
  have HL := Lib.hid (show w.heap.size < (w.alloc (.cells #[.int .i64 0, .int .i64 0, .int .i64 0, .int .i64 0, .int .i64 0, .int .i64 0, .bool false] 23)).heap.size from by simp)
  go_enter Try.func15, Try.ntmps15
  go_wp2_with fail
  refine (CR.out _).mono ?_; rintro e w5 ⟨rfl, hK1⟩
  have HK := Lib.hid hK1
  have HN := Lib.hid (show w.heap.size ≠ w5.heap.size from by have := HK.out.size; have := HL.out; omega)
  clear hK1
  go_upto_region 2 with (fail)
  have XI := Box.new k op a b c i u w5
  have XZ := (X1.out.kept HK.out).alloc (.cells #[.int .i64 k, .int .i64 op, .int .i64 a, .int .i64 b, .int .i64 c, .int .i64 i, .bool u] 23)
  have KK := (HB.out.trans HK.out).alloc #[.int .i64 k, .int .i64 op, .int .i64 a, .int .i64 b, .int .i64 c, .int .i64 i, .bool u] 23
  generalize (w5.alloc (.cells #[.int .i64 k, .int .i64 op, .int .i64 a, .int .i64 b, .int .i64 c, .int .i64 i, .bool u] 23)) = w6 at XI XZ KK ⊢
  generalize w5.heap.size = B2 at HN XI ⊢
  have HI := Lib.hid XI
  have HZ := Lib.hid XZ
  have HKK := Lib.hid KK
  clear HK X1 HB HL XI XZ KK
  obtain ⟨i0, i1, i2, i3, i4, i5, i6⟩ := HI.out.cells
  go_wp2_with fail
  refine (CE.out _).mono ?_; rintro e w7 ⟨rfl, hK6⟩
  clear i0 i1 i2 i3 i4 i5 i6
  obtain ⟨i0, i1, i2, i3, i4, i5, i6⟩ := (HI.out.kept hK6).cells
  obtain ⟨z0, z1, z2, z3, z4, z5, z6⟩ := (HZ.out.kept hK6).cells
  obtain ⟨f0, f1, f2, f3, f4, f5, f6⟩ := (HZ.out.kept hK6).free
  have R := Lib.hid ((HZ.out.kept hK6).stored (k' := 0) (op' := 0) (a' := 0) (b' := 0) (c' := 0) (i' := 0) (u' := false))
  have RK := Lib.hid ((HKK.out.trans hK6).store7 (B' := w.heap.size) (by omega) (0) (0) (0) (0) (0) (0) (false))
  go_wp2_with fail
  clear z0 z1 z2 z3 z4 z5 z6 f0 f1 f2 f3 f4 f5 f6
  have R := R.out
  have RK := RK.out
  unfold store7 at R RK
  generalize (((((((w7.setCell ⟨w.heap.size, 0, none⟩ (.int .i64 (0))).setCell ⟨w.heap.size, 1, none⟩ (.int .i64 (0))).setCell ⟨w.heap.size, 2, none⟩ (.int .i64 (0))).setCell ⟨w.heap.size, 3, none⟩ (.int .i64 (0))).setCell ⟨w.heap.size, 4, none⟩ (.int .i64 (0))).setCell ⟨w.heap.size, 5, none⟩ (.int .i64 (0))).setCell ⟨w.heap.size, 6, none⟩ (.bool (false))) = w9 at R RK ⊢
  obtain ⟨r0, r1, r2, r3, r4, r5, r6⟩ := R.cells
  exact bodyPost_ret (v := .tuple #[.agg #[.int .i64 0, .int .i64 0, .int .i64 0, .int .i64 0, .int .i64 0, .int .i64 0, .bool false], .bool false]) (by simp [results, Try.results15, go_sem, r0, r1, r2, r3, r4, r5, r6]) rfl ⟨rfl, RK⟩
set_option maxHeartbeats 2000000 in
theorem rdec_3 (x k op a b c i : Int) (u : Bool) (w : World)
    (CR : Hid (∀ w, Calls Try.prog 24 #[.int .u32 x] w fun e w' => e = .returned (.agg #[.int .i64 k, .int .i64 op, .int .i64 a, .int .i64 b, .int .i64 c, .int .i64 i, .bool u]) ∧ Kept w w'))
    (CE : Hid (∀ w, Calls Try.prog 13 #[.agg #[.int .i64 k, .int .i64 op, .int .i64 a, .int .i64 b, .int .i64 c, .int .i64 i, .bool u]] w fun e w' => e = .returned (.tuple #[.int .u32 x, .int .i64 0]) ∧ Kept w w')) :
    Calls Try.prog 15 #[.int .u32 x] w fun e w' => e = .returned (.tuple #[.agg #[.int .i64 k, .int .i64 op, .int .i64 a, .int .i64 b, .int .i64 c, .int .i64 i, .bool u], .bool true]) ∧ Kept w w' := by
  have X1 := Lib.hid (Box.new 0 0 0 0 0 0 false w)
  have HB := Lib.hid (show Kept w (w.alloc (.cells #[.int .i64 0, .int .i64 0, .int .i64 0, .int .i64 0, .int .i64 0, .int .i64 0, .bool false] 23)) from (Kept.refl w).alloc _ _)
  have HL := Lib.hid (show w.heap.size < (w.alloc (.cells #[.int .i64 0, .int .i64 0, .int .i64 0, .int .i64 0, .int .i64 0, .int .i64 0, .bool false] 23)).heap.size from by simp)
  go_enter Try.func15, Try.ntmps15
  go_wp2_with fail
  refine (CR.out _).mono ?_; rintro e w5 ⟨rfl, hK1⟩
  have HK := Lib.hid hK1
  have HN := Lib.hid (show w.heap.size ≠ w5.heap.size from by have := HK.out.size; have := HL.out; omega)
  clear hK1
  go_upto_region 2 with (fail)
  have XI := Box.new k op a b c i u w5
  have XZ := (X1.out.kept HK.out).alloc (.cells #[.int .i64 k, .int .i64 op, .int .i64 a, .int .i64 b, .int .i64 c, .int .i64 i, .bool u] 23)
  have KK := (HB.out.trans HK.out).alloc #[.int .i64 k, .int .i64 op, .int .i64 a, .int .i64 b, .int .i64 c, .int .i64 i, .bool u] 23
  generalize (w5.alloc (.cells #[.int .i64 k, .int .i64 op, .int .i64 a, .int .i64 b, .int .i64 c, .int .i64 i, .bool u] 23)) = w6 at XI XZ KK ⊢
  generalize w5.heap.size = B2 at HN XI ⊢
  have HI := Lib.hid XI
  have HZ := Lib.hid XZ
  have HKK := Lib.hid KK
  clear HK X1 HB HL XI XZ KK
  obtain ⟨i0, i1, i2, i3, i4, i5, i6⟩ := HI.out.cells
  go_wp2_with fail
  refine (CE.out _).mono ?_; rintro e w7 ⟨rfl, hK6⟩
  clear i0 i1 i2 i3 i4 i5 i6
  obtain ⟨i0, i1, i2, i3, i4, i5, i6⟩ := (HI.out.kept hK6).cells
  obtain ⟨z0, z1, z2, z3, z4, z5, z6⟩ := (HZ.out.kept hK6).cells
  obtain ⟨f0, f1, f2, f3, f4, f5, f6⟩ := (HZ.out.kept hK6).free
  have R := Lib.hid ((HZ.out.kept hK6).stored (k' := k) (op' := op) (a' := a) (b' := b) (c' := c) (i' := i) (u' := u))
  have RK := Lib.hid ((HKK.out.trans hK6).store7 (B' := w.heap.size) (by omega) (k) (op) (a) (b) (c) (i) (u))
  go_wp2_with fail
  clear z0 z1 z2 z3 z4 z5 z6 f0 f1 f2 f3 f4 f5 f6
  have R := R.out
  have RK := RK.out
  unfold store7 at R RK
  generalize (((((((w7.setCell ⟨w.heap.size, 0, none⟩ (.int .i64 (k))).setCell ⟨w.heap.size, 1, none⟩ (.int .i64 (op))).setCell ⟨w.heap.size, 2, none⟩ (.int .i64 (a))).setCell ⟨w.heap.size, 3, none⟩ (.int .i64 (b))).setCell ⟨w.heap.size, 4, none⟩ (.int .i64 (c))).setCell ⟨w.heap.size, 5, none⟩ (.int .i64 (i))).setCell ⟨w.heap.size, 6, none⟩ (.bool (u))) = w9 at R RK ⊢
  obtain ⟨r0, r1, r2, r3, r4, r5, r6⟩ := R.cells
  exact bodyPost_ret (v := .tuple #[.agg #[.int .i64 k, .int .i64 op, .int .i64 a, .int .i64 b, .int .i64 c, .int .i64 i, .bool u], .bool true]) (by simp [results, Try.results15, go_sem, r0, r1, r2, r3, r4, r5, r6]) rfl ⟨rfl, RK⟩
theorem rdec_any (x : Int) (hx : U32 x) (w : World) :
    Calls Try.prog 15 #[.int .u32 x] w fun e w' => e = .returned (.tuple #[.agg #[.int .i64 (I.dec x).k, .int .i64 (I.dec x).op, .int .i64 (I.dec x).a, .int .i64 (I.dec x).b, .int .i64 (I.dec x).c, .int .i64 (I.dec x).i, .bool (I.dec x).u], .bool (I.is x)]) ∧ Kept w w' := by
  have CR := rguess_any x hx
  have CE := renc_any (I.guess x).k (I.guess x).op (I.guess x).a (I.guess x).b (I.guess x).c (I.guess x).i (I.guess x).u
  by_cases hm : I.may (I.guess x) = true
  · have e1 : I.err (I.guess x) = 0 := by simp [I.err, hm]
    have e2 : I.enc (I.guess x) = I.word (I.guess x) := by simp [I.enc, hm]
    have CE : ∀ w, Calls Try.prog 13 #[.agg #[.int .i64 (I.guess x).k, .int .i64 (I.guess x).op, .int .i64 (I.guess x).a, .int .i64 (I.guess x).b, .int .i64 (I.guess x).c, .int .i64 (I.guess x).i, .bool (I.guess x).u]] w fun e w' => e = .returned (.tuple #[.int .u32 (I.enc (I.guess x)), .int .i64 (I.err (I.guess x))]) ∧ Kept w w' := CE
    rw [e1, e2] at CE
    by_cases ho : I.word (I.guess x) = x
    · have e3 : I.is x = true := by simp [I.is, hm, ho]
      rw [ho] at CE
      rw [show I.dec x = I.guess x by simp [I.dec, e3], e3]
      exact rdec_3 x _ _ _ _ _ _ _ w (Lib.hid CR) (Lib.hid CE)
    · have e3 : I.is x = false := by simp [I.is, ho]
      rw [show I.dec x = ⟨0, 0, 0, 0, 0, 0, false⟩ by simp [I.dec, e3], e3]
      exact rdec_2 x _ _ _ _ _ _ _ _ ho (by simpa using ho) (by simpa using ho) w (Lib.hid CR) (Lib.hid CE)
  · have hm : I.may (I.guess x) = false := by simpa using hm
    have e1 : I.err (I.guess x) = 1 := by simp [I.err, hm]
    have e2 : I.enc (I.guess x) = 0 := by simp [I.enc, hm]
    have CE : ∀ w, Calls Try.prog 13 #[.agg #[.int .i64 (I.guess x).k, .int .i64 (I.guess x).op, .int .i64 (I.guess x).a, .int .i64 (I.guess x).b, .int .i64 (I.guess x).c, .int .i64 (I.guess x).i, .bool (I.guess x).u]] w fun e w' => e = .returned (.tuple #[.int .u32 (I.enc (I.guess x)), .int .i64 (I.err (I.guess x))]) ∧ Kept w w' := CE
    rw [e1, e2] at CE
    have e3 : I.is x = false := by simp [I.is, hm]
    rw [show I.dec x = ⟨0, 0, 0, 0, 0, 0, false⟩ by simp [I.dec, e3], e3]
    exact rdec_1 x _ _ _ _ _ _ _ w (Lib.hid CR) (Lib.hid CE)
end Go.Proofs.Ytliofphhoaopkaa
