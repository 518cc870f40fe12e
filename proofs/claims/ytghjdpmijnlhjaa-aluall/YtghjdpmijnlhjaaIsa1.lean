/-
  The contracts of the small functions of package isa, and of the document's own answers for it.
-/
import Derived.Test.YtghjdpmijnlhjaaField2
import Derived.Test.YtghjdpmijnlhjaaIsa0
import Derived.Deep.RegionHeld3
import Derived.BigQuiet
namespace Go.Proofs.Ytghjdpmijnlhjaa
open Go.RowKit
set_option linter.unusedVariables false
set_option linter.unusedSimpArgs false
theorem I.reg_no1 (n : Int) (h : n < 0) : I.reg n = false := by unfold I.reg; rw [decide_eq_false (by omega)]; rfl
theorem I.reg_at (n : Int) (h : 0 ≤ n) : I.reg n = decide (n ≤ 15) := by unfold I.reg; rw [decide_eq_true h]; rfl
theorem isReg_any (n : Int) (w : World) :
    Calls Try.prog 38 #[.int .i64 n] w fun e w' => e = .returned (.bool (I.reg n)) ∧ w = w' := by
  go_enter Try.func38, Try.ntmps38
  go_wp2
  all_goals go_ret
  · rename_i h; exact r1b (I.reg_at n h).symm
  · rename_i h; exact r1b (I.reg_no1 n h).symm
theorem rreg_any (n : Int) (w : World) :
    Calls Try.prog 31 #[.int .i64 n] w fun e w' => e = .returned (.bool (I.reg n)) ∧ w = w' := by
  go_enter Try.func31, Try.ntmps31
  go_wp2
  all_goals go_ret
  · rename_i h; exact r1b (I.reg_at n h).symm
  · rename_i h; exact r1b (I.reg_no1 n h).symm
theorem I.nb_0 (b : Int) : I.nb 0 b = 0 := rfl
theorem I.nb_1 (op b : Int) (h : (op == 0) = false) : I.nb op b = b := by unfold I.nb; rw [if_neg (by simpa using h)]
theorem namedB_any (k op a b c i : Int) (u : Bool) (w : World) :
    Calls Try.prog 42 #[.agg #[.int .i64 k, .int .i64 op, .int .i64 a, .int .i64 b, .int .i64 c, .int .i64 i, .bool u]] w fun e w' => e = .returned (.int .i64 (I.nb op b)) ∧ Kept w w' := by
  by_cases h0 : op = 0
  · subst h0
    go_enter Try.func42, Try.ntmps42
    go_wp2
    go_ret
    exact r1k rfl ((Kept.refl w).alloc _ _)
  · have hz : (op == 0) = false := by simpa using h0
    have E := Lib.hid (I.nb_1 op b hz)
    go_enter Try.func42, Try.ntmps42
    go_wp2
    go_ret
    exact r1k E.out.symm ((Kept.refl w).alloc _ _)
theorem I.carry_1 (op : Int) (h : ¬ op = 8) (h' : ¬ op = 9) : (op == 8 || op == 9 || op == 10) = I.carry op := by
  rw [Bool.eq_iff_iff]; simp [I.carry]; omega
theorem hasCarry_any (op : Int) (w : World) :
    Calls Try.prog 43 #[.int .i64 op] w fun e w' => e = .returned (.bool (I.carry op)) ∧ w = w' := by
  go_enter Try.func43, Try.ntmps43
  go_wp2
  all_goals go_ret
  · rename_i h; subst h; exact r1b rfl
  · rename_i h' h; subst h; exact r1b rfl
  · rename_i h h'; exact r1b (I.carry_1 op h h')
theorem I.kinds (k : Int) : k = 1 ∨ k = 2 ∨ k = 3 ∨ k = 4 ∨ k = 5 ∨ k = 6 ∨ k = 7 ∨ ((k == 1) = false ∧ (k == 2) = false ∧ (k == 3) = false ∧ (k == 4) = false ∧ (k == 5) = false ∧ (k == 6) = false ∧ (k == 7) = false) := by
  simp only [beq_eq_false_iff_ne]; omega
theorem isOp_any (k op a b c i : Int) (u : Bool) (w : World) :
    Calls Try.prog 37 #[.agg #[.int .i64 k, .int .i64 op, .int .i64 a, .int .i64 b, .int .i64 c, .int .i64 i, .bool u]] w fun e w' => e = .returned (.bool (I.isOp k op)) ∧ Kept w w' := by
  rcases I.kinds k with rfl | rfl | rfl | rfl | rfl | rfl | rfl | ⟨h1, h2, h3, h4, h5, h6, h7⟩
  all_goals
    go_enter Try.func37, Try.ntmps37
    go_wp2
  all_goals go_ret
  all_goals refine r1bk ?_ ((Kept.refl w).alloc _ _)
  all_goals (try simp only [beq_eq_false_iff_ne] at *)
  all_goals (unfold I.isOp; simp [*])
  all_goals omega
theorem isNum_any (k op a b c i : Int) (u : Bool) (w : World) :
    Calls Try.prog 39 #[.agg #[.int .i64 k, .int .i64 op, .int .i64 a, .int .i64 b, .int .i64 c, .int .i64 i, .bool u]] w fun e w' => e = .returned (.bool (I.isNum k op i u)) ∧ Kept w w' := by
  have F17 := Lib.hid (fun w => show Calls Try.prog 44 #[.int .i64 i, .int .i64 17] w fun e w' => e = .returned (.bool (F.fitsK i 17)) ∧ w = w' from fits_any i 17 w)
  have F20 := Lib.hid (fun w => show Calls Try.prog 44 #[.int .i64 i, .int .i64 20] w fun e w' => e = .returned (.bool (F.fitsK i 20)) ∧ w = w' from fits_any i 20 w)
  have F24 := Lib.hid (fun w => show Calls Try.prog 44 #[.int .i64 i, .int .i64 24] w fun e w' => e = .returned (.bool (F.fitsK i 24)) ∧ w = w' from fits_any i 24 w)
  rcases I.kinds k with rfl | rfl | rfl | rfl | rfl | rfl | rfl | ⟨h1, h2, h3, h4, h5, h6, h7⟩
  · go_enter Try.func39, Try.ntmps39
    go_wp2
    go_ret
    exact r1bk rfl ((Kept.refl w).alloc _ _)
  · have E : I.isNum 2 op i u = (F.fitsK i 17 && !(op == 0 && u && decide (i < 0))) := rfl
    have HE := Lib.hid E
    clear E
    generalize F.fitsK i 17 = f at *
    generalize I.isNum 2 op i u = r at *
    cases f <;> cases u
    all_goals
      go_enter Try.func39, Try.ntmps39
      go_wp2_with fail
    all_goals (refine (F17.out _).mono ?_; rintro e w' ⟨rfl, rfl⟩)
    all_goals go_wp2_with fail
    all_goals go_ret
    all_goals refine r1bk ?_ ((Kept.refl w).alloc _ _)
    all_goals (rw [HE.out]; simp [*])
  · go_enter Try.func39, Try.ntmps39
    go_wp2
    go_ret
    exact r1bk rfl ((Kept.refl w).alloc _ _)
  · go_enter Try.func39, Try.ntmps39
    go_wp2
    go_ret
    exact r1bk rfl ((Kept.refl w).alloc _ _)
  · go_enter Try.func39, Try.ntmps39
    go_wp2_with fail
    refine (F20.out _).mono ?_; rintro e w' ⟨rfl, rfl⟩
    go_wp2_with fail
    go_ret
    exact r1bk rfl ((Kept.refl w).alloc _ _)
  · go_enter Try.func39, Try.ntmps39
    go_wp2
    go_ret
    exact r1bk rfl ((Kept.refl w).alloc _ _)
  · go_enter Try.func39, Try.ntmps39
    go_wp2_with fail
    refine (F24.out _).mono ?_; rintro e w' ⟨rfl, rfl⟩
    go_wp2_with fail
    go_ret
    exact r1bk rfl ((Kept.refl w).alloc _ _)
  · have E : I.isNum k op i u = (i == 0) := by unfold I.isNum; rw [if_neg (by simpa using h2), if_neg (by simpa using h5), if_neg (by simpa using h7)]
    have HE := Lib.hid E
    clear E
    go_enter Try.func39, Try.ntmps39
    go_wp2
    go_ret
    exact r1bk HE.out.symm ((Kept.refl w).alloc _ _)
end Go.Proofs.Ytghjdpmijnlhjaa
