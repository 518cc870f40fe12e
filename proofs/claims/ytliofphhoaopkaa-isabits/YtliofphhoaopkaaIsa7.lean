/-
  The contract of Encode.
-/
import Derived.Test.YtliofphhoaopkaaIsa5
namespace Go.Proofs.Ytliofphhoaopkaa
open Go.RowKit
set_option linter.unusedVariables false
set_option linter.unusedSimpArgs false
theorem enc_any (k op a b c i : Int) (u : Bool) (w : World) :
    Calls Try.prog 12 #[.agg #[.int .i64 k, .int .i64 op, .int .i64 a, .int .i64 b, .int .i64 c, .int .i64 i, .bool u]] w fun e w' => e = .returned (.tuple #[.int .u32 (I.enc ⟨k, op, a, b, c, i, u⟩), .int .i64 (I.err ⟨k, op, a, b, c, i, u⟩)]) ∧ Kept w w' := by
  have HM := Lib.hid (may_any k op a b c i u)
  have HB := Lib.hid (show Kept w (w.alloc (.cells #[.int .i64 k, .int .i64 op, .int .i64 a, .int .i64 b, .int .i64 c, .int .i64 i, .bool u] 23)) from (Kept.refl w).alloc _ _)
  have HX := Lib.hid (Box.new k op a b c i u w)
  by_cases h : I.May ⟨k, op, a, b, c, i, u⟩
  · have e1 : I.may ⟨k, op, a, b, c, i, u⟩ = true := decide_eq_true h
    have HW := Lib.hid (wordOf_any k op a b c i u h)
    simp only [I.enc, I.err, e1, reduceIte] at *
    generalize I.word ⟨k, op, a, b, c, i, u⟩ = r at *
    clear h e1
    go_enter Try.func12, Try.ntmps12
    go_wp2_with fail
    refine (HM.out _).mono ?_; rintro e w1 ⟨rfl, hK⟩
    obtain ⟨c0, c1, c2, c3, c4, c5, c6⟩ := (HX.out.kept hK).cells
    have HK := Lib.hid (HB.out.trans hK)
    clear hK HX HB HM
    go_wp2_with fail
    refine (HW.out _).mono ?_; rintro e w2 ⟨rfl, hK2⟩
    clear c0 c1 c2 c3 c4 c5 c6
    go_wp2_with fail
    exact bodyPost_ret (v := .tuple #[.int .u32 r, .int .i64 0]) (by simp [results, Try.results12, go_sem]) rfl ⟨rfl, HK.out.trans hK2⟩
  · have e1 : I.may ⟨k, op, a, b, c, i, u⟩ = false := decide_eq_false h
    simp only [I.enc, I.err, e1, Bool.false_eq_true, reduceIte] at *
    clear h e1
    go_enter Try.func12, Try.ntmps12
    go_wp2_with fail
    refine (HM.out _).mono ?_; rintro e w1 ⟨rfl, hK⟩
    go_wp2_with fail
    exact bodyPost_ret (v := .tuple #[.int .u32 0, .int .i64 1]) (by simp [results, Try.results12, go_sem]) rfl ⟨rfl, HB.out.trans hK⟩
end Go.Proofs.Ytliofphhoaopkaa
