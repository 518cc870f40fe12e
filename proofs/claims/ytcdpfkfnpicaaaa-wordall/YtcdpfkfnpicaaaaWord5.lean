/-
  The walk of the law WordAll.
-/
import Derived.Test.YtcdpfkfnpicaaaaWord3
import Derived.Deep.QuietTactic
import Derived.BigQuiet
namespace Go.Proofs.Ytcdpfkfnpicaaaa
open Go.RowKit
set_option linter.unusedVariables false

theorem quiet_to {P : Program} {f : FuncId} {args : Array Value} {W : World} {F : Nat → World} {v : Value}
    (h : Calls P f args W fun e w' => e = .returned v ∧ W = w') (hm : ∃ m, W = F m) :
    Calls P f args W fun e w'' => e = .returned v ∧ ∃ m, w'' = F m :=
  h.mono fun _ _ ⟨he, hw⟩ => ⟨he, by obtain ⟨m, hm⟩ := hm; exact ⟨m, by rw [← hw, hm]⟩⟩
set_option maxRecDepth 100000 in
set_option maxHeartbeats 1000000 in
theorem walk_All (a b : Int) (c : Bool) (k : Int) (h0 : 0 ≤ a) (h1 : a < 4294967296) (h2 : 0 ≤ b) (h3 : b < 4294967296) (w : World) :
    Calls Try.prog 3 #[.int .u32 a, .int .u32 b, .agg #[.bool c, .int .i64 k]] w fun e w' => e = .returned (.bool true) ∧ Grown w w' := by
  have C1 := Lib.hid (fun w => add_any a b c h0 h1 h2 h3 w)
  have D1 := Lib.hid (fun w => radd_any a b c h0 h1 h2 h3 w)
  have C2 := Lib.hid (fun w => sub_any a b c h0 h1 h2 h3 w)
  have D2 := Lib.hid (fun w => rsub_any a b c h0 h1 h2 h3 w)
  have C3 := Lib.hid (fun w => mul_any a b c h0 h1 h2 h3 w)
  have D3 := Lib.hid (fun w => rmul_any a b c h0 h1 h2 h3 w)
  generalize W.low (a + b + W.one c) = x1 at C1 D1
  generalize W.over (a + b + W.one c) = x2 at C1 D1
  generalize W.inS (W.sgn a + W.sgn b + W.one c) = x3 at C1 D1
  generalize W.low (a - b - W.one c) = x4 at C2 D2
  generalize W.neg (a - b - W.one c) = x5 at C2 D2
  generalize W.inS (W.sgn a - W.sgn b - W.one c) = x6 at C2 D2
  generalize W.low (W.prod c a b) = x7 at C3 D3
  generalize W.low (W.prod c a b / 4294967296) = x8 at C3 D3
  go_enter Try.func3, Try.ntmps3
  go_wp2_with fail
  refine (shown_any _).mono ?_; rintro e w' ⟨rfl, rfl⟩
  go_wp2_with fail
  refine (C1.out _).mono ?_; rintro e w' ⟨rfl, rfl⟩
  go_wp2_with fail
  refine (D1.out _).mono ?_; rintro e w' ⟨rfl, rfl⟩
  go_wp2_with fail
  refine (C2.out _).mono ?_; rintro e w' ⟨rfl, rfl⟩
  go_wp2_with fail
  refine (D2.out _).mono ?_; rintro e w' ⟨rfl, rfl⟩
  go_wp2_with fail
  refine (C3.out _).mono ?_; rintro e w' ⟨rfl, rfl⟩
  go_wp2_with fail
  refine (D3.out _).mono ?_; rintro e w' ⟨rfl, rfl⟩
  go_upto_region 8 with (fail)
  simp only [List.append]
  go_quiet (first
    | (go_at_call 18; exact quiet_to (shift_any _ _ _ (by omega) (by omega) (by omega) (by omega) _) ⟨_, rfl⟩)
    | (go_at_call 19; exact quiet_to (rshift_any _ _ _ (by omega) (by omega) (by omega) (by omega) _) ⟨_, rfl⟩))
  go_wp2
  go_ret
  exact yes rfl (by repeat (first | exact Grown.refl _ | apply Grown.drew | apply Grown_drewN | apply Grown.alloc))
end Go.Proofs.Ytcdpfkfnpicaaaa
