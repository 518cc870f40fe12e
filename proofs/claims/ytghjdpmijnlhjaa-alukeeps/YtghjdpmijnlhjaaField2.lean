/-
  The contracts of package field, and of the document's own answers for it.
-/
import Derived.Test.YtghjdpmijnlhjaaField1
namespace Go.Proofs.Ytghjdpmijnlhjaa
open Go.RowKit
set_option linter.unusedVariables false
set_option linter.unusedSimpArgs false
set_option maxHeartbeats 400000 in
theorem bounded_any (n : Int) (w : World) :
    Calls Try.prog 64 #[.int .i64 n] w fun e w' => e = .returned (.int .i64 (F.clamp n)) ∧ w = w' := by
  rcases (show n < 1 ∨ 32 < n ∨ (1 ≤ n ∧ n ≤ 32) by omega) with h | h | ⟨h, h'⟩
  · have E := Lib.hid (F.clamp_1 n h)
    go_enter Try.func64, Try.ntmps64
    go_wp2
    go_ret
    exact r1 E.out.symm
  · have E := Lib.hid (F.clamp_32 n h)
    go_enter Try.func64, Try.ntmps64
    go_wp2
    go_ret
    exact r1 E.out.symm
  · have E := Lib.hid (F.clamp_in n h h')
    go_enter Try.func64, Try.ntmps64
    go_wp2
    go_ret
    exact r1 E.out.symm
theorem F.fit1 (P : Int) (h : 1 ≤ P) (h' : P ≤ 2147483648) : wrap64 (-wrap64 P) = -P := by unfold wrap64; omega
theorem F.fit2 (P : Int) (h : 1 ≤ P) (h' : P ≤ 2147483648) : wrap64 P = P := by unfold wrap64; omega
theorem F.fit3 (P : Int) (h : 1 ≤ P) (h' : P ≤ 2147483648) : wrap64 (-P) = -P := by unfold wrap64; omega
set_option maxHeartbeats 400000 in
theorem fits_any (v n : Int) (w : World) :
    Calls Try.prog 44 #[.int .i64 v, .int .i64 n] w fun e w' => e = .returned (.bool (F.fitsK v (F.clamp n))) ∧ w = w' := by
  have k0 := F.clamp_lo n
  have k1 := F.clamp_hi n
  have C := Lib.hid (fun w => bounded_any n w)
  generalize F.clamp n = k at *
  have E1 := Lib.hid (F.fit1 _ (F.half_lo k) (F.half_hi k k1))
  have E2 := Lib.hid (F.fit2 _ (F.half_lo k) (F.half_hi k k1))
  go_enter Try.func44, Try.ntmps44
  go_wp2_with fail
  refine (C.out _).mono ?_; rintro e w' ⟨rfl, rfl⟩
  go_wp2_with fail
  all_goals go_ret
  · rename_i h
    rw [E1.out] at h
    exact r1b (by rw [E2.out]; unfold F.fitsK; rw [decide_eq_true h]; rfl)
  · rename_i h
    rw [E1.out] at h
    exact r1b (by unfold F.fitsK; rw [decide_eq_false (by omega)]; rfl)
set_option maxHeartbeats 400000 in
theorem rfits_any (v n : Int) (w : World) :
    Calls Try.prog 32 #[.int .i64 v, .int .i64 n] w fun e w' => e = .returned (.bool (F.fitsK v (F.clamp n))) ∧ w = w' := by
  rcases (show n < 1 ∨ 32 < n ∨ (1 ≤ n ∧ n ≤ 32) by omega) with h | h | ⟨h, h'⟩
  · have E := Lib.hid (F.clamp_1 n h)
    go_enter Try.func32, Try.ntmps32
    go_wp2
    all_goals go_ret
    all_goals exact r1b (by rw [E.out]; unfold F.fitsK; simp only [wrap64, Int.reduceToNat, Int.reducePow, Nat.reduceSub] at *; simp; omega)
  · have E := Lib.hid (F.clamp_32 n h)
    go_enter Try.func32, Try.ntmps32
    go_wp2
    all_goals go_ret
    all_goals exact r1b (by rw [E.out]; unfold F.fitsK; simp only [wrap64, Int.reduceToNat, Int.reducePow, Nat.reduceSub] at *; simp; omega)
  · have E := Lib.hid (F.clamp_in n h h')
    have E1 := Lib.hid (F.fit3 _ (F.half_lo n) (F.half_hi n h'))
    have E2 := Lib.hid (F.fit2 _ (F.half_lo n) (F.half_hi n h'))
    go_enter Try.func32, Try.ntmps32
    go_wp2
    all_goals go_ret
    · rename_i g
      rw [E1.out] at g
      exact r1b (by rw [E2.out, E.out]; unfold F.fitsK; rw [decide_eq_true g]; rfl)
    · rename_i g
      rw [E1.out] at g
      exact r1b (by rw [E.out]; unfold F.fitsK; rw [decide_eq_false (by omega)]; rfl)
end Go.Proofs.Ytghjdpmijnlhjaa
