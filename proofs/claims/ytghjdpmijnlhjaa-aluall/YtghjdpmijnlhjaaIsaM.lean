/-
  The contract of rivetref03's May, the other kinds.
-/
import Derived.Test.YtghjdpmijnlhjaaIsaK
namespace Go.Proofs.Ytghjdpmijnlhjaa
open Go.RowKit
set_option linter.unusedVariables false
set_option linter.unusedSimpArgs false
set_option maxRecDepth 100000 in
set_option maxHeartbeats 2000000 in
theorem rmay_3 (op a b c i : Int) (u : Bool) (w : World)
    (a0 : 0 ≤ a) (a1 : a ≤ 15) (b0 : 0 ≤ b) (b1 : b ≤ 15) (c0 : 0 ≤ c) (c1 : c ≤ 15)
    (RA : Hid (∀ w, Calls Try.prog 31 #[.int .i64 a] w fun e w' => e = .returned (.bool true) ∧ w = w'))
    (RB : Hid (∀ w, Calls Try.prog 31 #[.int .i64 b] w fun e w' => e = .returned (.bool true) ∧ w = w'))
    (RC : Hid (∀ w, Calls Try.prog 31 #[.int .i64 c] w fun e w' => e = .returned (.bool true) ∧ w = w')) :
    Calls Try.prog 19 #[.agg #[.int .i64 3, .int .i64 op, .int .i64 a, .int .i64 b, .int .i64 c, .int .i64 i, .bool u]] w fun e w' => e = .returned (.bool (I.may ⟨3, op, a, b, c, i, u⟩)) ∧ Kept w w' := by
  go_enter Try.func19, Try.ntmps19
  go_wp2_with fail
  refine (RA.out _).mono ?_; rintro e w1 ⟨rfl, rfl⟩
  go_wp2_with fail
  refine (RB.out _).mono ?_; rintro e w1 ⟨rfl, rfl⟩
  go_wp2_with fail
  refine (RC.out _).mono ?_; rintro e w1 ⟨rfl, rfl⟩
  go_wp2_with fail
  all_goals go_ret
  all_goals refine r1bk ?_ (((Kept.refl w).alloc _ _).alloc _ _)
  all_goals (try simp only [bne_iff_ne, ne_eq, beq_iff_eq, bne_eq_false_iff_eq, beq_eq_false_iff_ne] at *)
  all_goals (rw [Bool.eq_iff_iff]; unfold I.may I.May; simp)
  all_goals (try omega)
set_option maxRecDepth 100000 in
set_option maxHeartbeats 2000000 in
theorem rmay_4 (op a b c i : Int) (u : Bool) (w : World)
    (a0 : 0 ≤ a) (a1 : a ≤ 15) (b0 : 0 ≤ b) (b1 : b ≤ 15) (c0 : 0 ≤ c) (c1 : c ≤ 15)
    (RA : Hid (∀ w, Calls Try.prog 31 #[.int .i64 a] w fun e w' => e = .returned (.bool true) ∧ w = w'))
    (RB : Hid (∀ w, Calls Try.prog 31 #[.int .i64 b] w fun e w' => e = .returned (.bool true) ∧ w = w'))
    (RC : Hid (∀ w, Calls Try.prog 31 #[.int .i64 c] w fun e w' => e = .returned (.bool true) ∧ w = w')) :
    Calls Try.prog 19 #[.agg #[.int .i64 4, .int .i64 op, .int .i64 a, .int .i64 b, .int .i64 c, .int .i64 i, .bool u]] w fun e w' => e = .returned (.bool (I.may ⟨4, op, a, b, c, i, u⟩)) ∧ Kept w w' := by
  go_enter Try.func19, Try.ntmps19
  go_wp2_with fail
  refine (RA.out _).mono ?_; rintro e w1 ⟨rfl, rfl⟩
  go_wp2_with fail
  refine (RB.out _).mono ?_; rintro e w1 ⟨rfl, rfl⟩
  go_wp2_with fail
  refine (RC.out _).mono ?_; rintro e w1 ⟨rfl, rfl⟩
  go_wp2_with fail
  all_goals go_ret
  all_goals refine r1bk ?_ (((Kept.refl w).alloc _ _).alloc _ _)
  all_goals (try simp only [bne_iff_ne, ne_eq, beq_iff_eq, bne_eq_false_iff_eq, beq_eq_false_iff_ne] at *)
  all_goals (rw [Bool.eq_iff_iff]; unfold I.may I.May; simp)
  all_goals (try omega)
set_option maxRecDepth 100000 in
set_option maxHeartbeats 2000000 in
theorem rmay_k (k op a b c i : Int) (u : Bool) (w : World) (h1 : (k == 1) = false) (h2 : (k == 2) = false) (h3 : (k == 3) = false) (h4 : (k == 4) = false) (h5 : (k == 5) = false) (h6 : (k == 6) = false) (h7 : (k == 7) = false)
    (a0 : 0 ≤ a) (a1 : a ≤ 15) (b0 : 0 ≤ b) (b1 : b ≤ 15) (c0 : 0 ≤ c) (c1 : c ≤ 15)
    (RA : Hid (∀ w, Calls Try.prog 31 #[.int .i64 a] w fun e w' => e = .returned (.bool true) ∧ w = w'))
    (RB : Hid (∀ w, Calls Try.prog 31 #[.int .i64 b] w fun e w' => e = .returned (.bool true) ∧ w = w'))
    (RC : Hid (∀ w, Calls Try.prog 31 #[.int .i64 c] w fun e w' => e = .returned (.bool true) ∧ w = w')) :
    Calls Try.prog 19 #[.agg #[.int .i64 k, .int .i64 op, .int .i64 a, .int .i64 b, .int .i64 c, .int .i64 i, .bool u]] w fun e w' => e = .returned (.bool (I.may ⟨k, op, a, b, c, i, u⟩)) ∧ Kept w w' := by
  go_enter Try.func19, Try.ntmps19
  go_wp2_with fail
  refine (RA.out _).mono ?_; rintro e w1 ⟨rfl, rfl⟩
  go_wp2_with fail
  refine (RB.out _).mono ?_; rintro e w1 ⟨rfl, rfl⟩
  go_wp2_with fail
  refine (RC.out _).mono ?_; rintro e w1 ⟨rfl, rfl⟩
  go_wp2_with fail
  all_goals go_ret
  all_goals refine r1bk ?_ (((Kept.refl w).alloc _ _).alloc _ _)
  all_goals (try simp only [beq_eq_false_iff_ne] at *)
  all_goals (refine (decide_eq_false ?_).symm; intro hm; unfold I.May at hm; dsimp only at hm; omega)
set_option maxRecDepth 100000 in
set_option maxHeartbeats 2000000 in
theorem rmay_5f (op a b c i : Int) (w : World)
    (a0 : 0 ≤ a) (a1 : a ≤ 15) (b0 : 0 ≤ b) (b1 : b ≤ 15) (c0 : 0 ≤ c) (c1 : c ≤ 15)
    (RA : Hid (∀ w, Calls Try.prog 31 #[.int .i64 a] w fun e w' => e = .returned (.bool true) ∧ w = w'))
    (RB : Hid (∀ w, Calls Try.prog 31 #[.int .i64 b] w fun e w' => e = .returned (.bool true) ∧ w = w'))
    (RC : Hid (∀ w, Calls Try.prog 31 #[.int .i64 c] w fun e w' => e = .returned (.bool true) ∧ w = w')) :
    Calls Try.prog 19 #[.agg #[.int .i64 5, .int .i64 op, .int .i64 a, .int .i64 b, .int .i64 c, .int .i64 i, .bool false]] w fun e w' => e = .returned (.bool (I.may ⟨5, op, a, b, c, i, false⟩)) ∧ Kept w w' := by
  have HF := Lib.hid (fun w => show Calls Try.prog 32 #[.int .i64 i, .int .i64 20] w fun e w' => e = .returned (.bool (decide (-524288 ≤ i) && decide (i < 524288))) ∧ w = w' from I.fits20 i ▸ rfits_any i 20 w)
  go_enter Try.func19, Try.ntmps19
  go_wp2_with fail
  refine (RA.out _).mono ?_; rintro e w1 ⟨rfl, rfl⟩
  go_wp2_with fail
  refine (RB.out _).mono ?_; rintro e w1 ⟨rfl, rfl⟩
  go_wp2_with fail
  refine (RC.out _).mono ?_; rintro e w1 ⟨rfl, rfl⟩
  go_wp2_with fail
  all_goals try (refine (HF.out _).mono ?_; rintro e w1 ⟨rfl, rfl⟩; go_wp2_with fail)
  all_goals go_ret
  all_goals refine r1bk ?_ (((Kept.refl w).alloc _ _).alloc _ _)
  all_goals (try simp only [bne_iff_ne, ne_eq, beq_iff_eq, bne_eq_false_iff_eq, beq_eq_false_iff_ne] at *)
  all_goals (rw [Bool.eq_iff_iff]; unfold I.may I.May; simp)
  all_goals (try omega)
set_option maxRecDepth 100000 in
set_option maxHeartbeats 2000000 in
theorem rmay_5t (op a b c i : Int) (w : World)
    (a0 : 0 ≤ a) (a1 : a ≤ 15) (b0 : 0 ≤ b) (b1 : b ≤ 15) (c0 : 0 ≤ c) (c1 : c ≤ 15)
    (RA : Hid (∀ w, Calls Try.prog 31 #[.int .i64 a] w fun e w' => e = .returned (.bool true) ∧ w = w'))
    (RB : Hid (∀ w, Calls Try.prog 31 #[.int .i64 b] w fun e w' => e = .returned (.bool true) ∧ w = w'))
    (RC : Hid (∀ w, Calls Try.prog 31 #[.int .i64 c] w fun e w' => e = .returned (.bool true) ∧ w = w')) :
    Calls Try.prog 19 #[.agg #[.int .i64 5, .int .i64 op, .int .i64 a, .int .i64 b, .int .i64 c, .int .i64 i, .bool true]] w fun e w' => e = .returned (.bool (I.may ⟨5, op, a, b, c, i, true⟩)) ∧ Kept w w' := by
  have HF := Lib.hid (fun w => show Calls Try.prog 32 #[.int .i64 i, .int .i64 20] w fun e w' => e = .returned (.bool (decide (-524288 ≤ i) && decide (i < 524288))) ∧ w = w' from I.fits20 i ▸ rfits_any i 20 w)
  go_enter Try.func19, Try.ntmps19
  go_wp2_with fail
  refine (RA.out _).mono ?_; rintro e w1 ⟨rfl, rfl⟩
  go_wp2_with fail
  refine (RB.out _).mono ?_; rintro e w1 ⟨rfl, rfl⟩
  go_wp2_with fail
  refine (RC.out _).mono ?_; rintro e w1 ⟨rfl, rfl⟩
  go_wp2_with fail
  all_goals try (refine (HF.out _).mono ?_; rintro e w1 ⟨rfl, rfl⟩; go_wp2_with fail)
  all_goals go_ret
  all_goals refine r1bk ?_ (((Kept.refl w).alloc _ _).alloc _ _)
  all_goals (try simp only [bne_iff_ne, ne_eq, beq_iff_eq, bne_eq_false_iff_eq, beq_eq_false_iff_ne] at *)
  all_goals (rw [Bool.eq_iff_iff]; unfold I.may I.May; simp)
  all_goals (try omega)
end Go.Proofs.Ytghjdpmijnlhjaa
