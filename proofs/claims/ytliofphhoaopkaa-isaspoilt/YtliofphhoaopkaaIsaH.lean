/-
  The law IsaSpoilt.
-/
import Derived.Test.YtliofphhoaopkaaIsaF
namespace Go.Proofs.Ytliofphhoaopkaa
open Go.RowKit
set_option linter.unusedVariables false
set_option linter.unusedSimpArgs false
set_option maxHeartbeats 2000000 in
theorem walk_Spoilt_0 (k op a b c i q m k' op' a' b' c' i' : Int) (u u' : Bool) (hq : q % 7 = 0) (q0 : 0 ≤ q) (m0 : 0 ≤ m) (m1 : m ≤ 65535) (w : World)
    (CF : Hid (∀ w, Calls Try.prog 18 #[.agg #[.int .i64 k, .int .i64 op, .int .i64 a, .int .i64 b, .int .i64 c, .int .i64 i, .bool u]] w fun e w' => e = .returned (.agg #[.int .i64 (k'), .int .i64 (op'), .int .i64 (a'), .int .i64 (b'), .int .i64 (c'), .int .i64 (i'), .bool (u')]) ∧ Kept w w'))
    (CE : Hid (∀ w, Calls Try.prog 12 #[.agg #[.int .i64 (7 + (1 + m)), .int .i64 (op'), .int .i64 (a'), .int .i64 (b'), .int .i64 (c'), .int .i64 (i'), .bool (u')]] w fun e w' => e = .returned (.tuple #[.int .u32 0, .int .i64 1]) ∧ Kept w w'))
    (CM : Hid (∀ w, Calls Try.prog 16 #[.agg #[.int .i64 (7 + (1 + m)), .int .i64 (op'), .int .i64 (a'), .int .i64 (b'), .int .i64 (c'), .int .i64 (i'), .bool (u')]] w fun e w' => e = .returned (.bool false) ∧ Kept w w')) :
    Calls Try.prog 7 #[.agg #[.int .i64 k, .int .i64 op, .int .i64 a, .int .i64 b, .int .i64 c, .int .i64 i, .bool u], .int .u8 q, .int .u16 m] w fun e w' => e = .returned (.bool true) ∧ Below w.heap.size w w' := by
  have X0 := Lib.hid (Box.new k op a b c i u w)
  have H0 := Lib.hid (show Kept w (w.alloc (.cells #[.int .i64 k, .int .i64 op, .int .i64 a, .int .i64 b, .int .i64 c, .int .i64 i, .bool u] 23)) from (Kept.refl w).alloc _ _)
  go_enter Try.func7, Try.ntmps7
  go_wp2_with fail
  refine (shown_any _).mono ?_; rintro e w1 ⟨rfl, hK1⟩
  obtain ⟨j0, j1, j2, j3, j4, j5, j6⟩ := (X0.out.kept hK1).cells
  replace H0 := Lib.hid (H0.out.trans hK1)
  clear hK1
  go_wp2_with fail
  refine (CF.out _).mono ?_; rintro e w2 ⟨rfl, hK2⟩
  clear j0 j1 j2 j3 j4 j5 j6 X0
  replace H0 := Lib.hid ((H0.out.trans hK2).alloc #[.int .i64 (7 + (1 + m)), .int .i64 (op'), .int .i64 (a'), .int .i64 (b'), .int .i64 (c'), .int .i64 (i'), .bool (u')] 23)
  have X1 := Lib.hid (Box.new (7 + (1 + m)) (op') (a') (b') (c') (i') (u') w2)
  clear hK2
  go_wp2_with fail
  refine (CE.out _).mono ?_; rintro e w3 ⟨rfl, hK3⟩
  obtain ⟨j0, j1, j2, j3, j4, j5, j6⟩ := (X1.out.kept hK3).cells
  replace H0 := Lib.hid (H0.out.trans hK3)
  clear hK3
  go_wp2_with fail
  refine (CM.out _).mono ?_; rintro e w4 ⟨rfl, hK4⟩
  clear j0 j1 j2 j3 j4 j5 j6
  go_wp2_with fail
  go_ret
  exact yesB (by simp) (H0.out.trans hK4)
set_option maxHeartbeats 2000000 in
theorem walk_Spoilt_1 (k op a b c i q m k' op' a' b' c' i' : Int) (u u' : Bool) (hq : q % 7 = 1) (q0 : 0 ≤ q) (m0 : 0 ≤ m) (m1 : m ≤ 65535) (w : World)
    (CF : Hid (∀ w, Calls Try.prog 18 #[.agg #[.int .i64 k, .int .i64 op, .int .i64 a, .int .i64 b, .int .i64 c, .int .i64 i, .bool u]] w fun e w' => e = .returned (.agg #[.int .i64 (k'), .int .i64 (op'), .int .i64 (a'), .int .i64 (b'), .int .i64 (c'), .int .i64 (i'), .bool (u')]) ∧ Kept w w'))
    (CE : Hid (∀ w, Calls Try.prog 12 #[.agg #[.int .i64 (k'), .int .i64 (op'), .int .i64 (15 + (1 + m)), .int .i64 (b'), .int .i64 (c'), .int .i64 (i'), .bool (u')]] w fun e w' => e = .returned (.tuple #[.int .u32 0, .int .i64 1]) ∧ Kept w w'))
    (CM : Hid (∀ w, Calls Try.prog 16 #[.agg #[.int .i64 (k'), .int .i64 (op'), .int .i64 (15 + (1 + m)), .int .i64 (b'), .int .i64 (c'), .int .i64 (i'), .bool (u')]] w fun e w' => e = .returned (.bool false) ∧ Kept w w')) :
    Calls Try.prog 7 #[.agg #[.int .i64 k, .int .i64 op, .int .i64 a, .int .i64 b, .int .i64 c, .int .i64 i, .bool u], .int .u8 q, .int .u16 m] w fun e w' => e = .returned (.bool true) ∧ Below w.heap.size w w' := by
  have X0 := Lib.hid (Box.new k op a b c i u w)
  have H0 := Lib.hid (show Kept w (w.alloc (.cells #[.int .i64 k, .int .i64 op, .int .i64 a, .int .i64 b, .int .i64 c, .int .i64 i, .bool u] 23)) from (Kept.refl w).alloc _ _)
  go_enter Try.func7, Try.ntmps7
  go_wp2_with fail
  refine (shown_any _).mono ?_; rintro e w1 ⟨rfl, hK1⟩
  obtain ⟨j0, j1, j2, j3, j4, j5, j6⟩ := (X0.out.kept hK1).cells
  replace H0 := Lib.hid (H0.out.trans hK1)
  clear hK1
  go_wp2_with fail
  refine (CF.out _).mono ?_; rintro e w2 ⟨rfl, hK2⟩
  clear j0 j1 j2 j3 j4 j5 j6 X0
  replace H0 := Lib.hid ((H0.out.trans hK2).alloc #[.int .i64 (k'), .int .i64 (op'), .int .i64 (15 + (1 + m)), .int .i64 (b'), .int .i64 (c'), .int .i64 (i'), .bool (u')] 23)
  have X1 := Lib.hid (Box.new (k') (op') (15 + (1 + m)) (b') (c') (i') (u') w2)
  clear hK2
  go_wp2_with fail
  refine (CE.out _).mono ?_; rintro e w3 ⟨rfl, hK3⟩
  obtain ⟨j0, j1, j2, j3, j4, j5, j6⟩ := (X1.out.kept hK3).cells
  replace H0 := Lib.hid (H0.out.trans hK3)
  clear hK3
  go_wp2_with fail
  refine (CM.out _).mono ?_; rintro e w4 ⟨rfl, hK4⟩
  clear j0 j1 j2 j3 j4 j5 j6
  go_wp2_with fail
  go_ret
  exact yesB (by simp) (H0.out.trans hK4)
set_option maxHeartbeats 2000000 in
theorem walk_Spoilt_2 (k op a b c i q m k' op' a' b' c' i' : Int) (u u' : Bool) (hq : q % 7 = 2) (q0 : 0 ≤ q) (m0 : 0 ≤ m) (m1 : m ≤ 65535) (w : World)
    (CF : Hid (∀ w, Calls Try.prog 18 #[.agg #[.int .i64 k, .int .i64 op, .int .i64 a, .int .i64 b, .int .i64 c, .int .i64 i, .bool u]] w fun e w' => e = .returned (.agg #[.int .i64 (k'), .int .i64 (op'), .int .i64 (a'), .int .i64 (b'), .int .i64 (c'), .int .i64 (i'), .bool (u')]) ∧ Kept w w'))
    (CE : Hid (∀ w, Calls Try.prog 12 #[.agg #[.int .i64 (k'), .int .i64 (op'), .int .i64 (a'), .int .i64 (-(1 + m)), .int .i64 (c'), .int .i64 (i'), .bool (u')]] w fun e w' => e = .returned (.tuple #[.int .u32 0, .int .i64 1]) ∧ Kept w w'))
    (CM : Hid (∀ w, Calls Try.prog 16 #[.agg #[.int .i64 (k'), .int .i64 (op'), .int .i64 (a'), .int .i64 (-(1 + m)), .int .i64 (c'), .int .i64 (i'), .bool (u')]] w fun e w' => e = .returned (.bool false) ∧ Kept w w')) :
    Calls Try.prog 7 #[.agg #[.int .i64 k, .int .i64 op, .int .i64 a, .int .i64 b, .int .i64 c, .int .i64 i, .bool u], .int .u8 q, .int .u16 m] w fun e w' => e = .returned (.bool true) ∧ Below w.heap.size w w' := by
  have X0 := Lib.hid (Box.new k op a b c i u w)
  have H0 := Lib.hid (show Kept w (w.alloc (.cells #[.int .i64 k, .int .i64 op, .int .i64 a, .int .i64 b, .int .i64 c, .int .i64 i, .bool u] 23)) from (Kept.refl w).alloc _ _)
  go_enter Try.func7, Try.ntmps7
  go_wp2_with fail
  refine (shown_any _).mono ?_; rintro e w1 ⟨rfl, hK1⟩
  obtain ⟨j0, j1, j2, j3, j4, j5, j6⟩ := (X0.out.kept hK1).cells
  replace H0 := Lib.hid (H0.out.trans hK1)
  clear hK1
  go_wp2_with fail
  refine (CF.out _).mono ?_; rintro e w2 ⟨rfl, hK2⟩
  clear j0 j1 j2 j3 j4 j5 j6 X0
  replace H0 := Lib.hid ((H0.out.trans hK2).alloc #[.int .i64 (k'), .int .i64 (op'), .int .i64 (a'), .int .i64 (-(1 + m)), .int .i64 (c'), .int .i64 (i'), .bool (u')] 23)
  have X1 := Lib.hid (Box.new (k') (op') (a') (-(1 + m)) (c') (i') (u') w2)
  clear hK2
  go_wp2_with fail
  refine (CE.out _).mono ?_; rintro e w3 ⟨rfl, hK3⟩
  obtain ⟨j0, j1, j2, j3, j4, j5, j6⟩ := (X1.out.kept hK3).cells
  replace H0 := Lib.hid (H0.out.trans hK3)
  clear hK3
  go_wp2_with fail
  refine (CM.out _).mono ?_; rintro e w4 ⟨rfl, hK4⟩
  clear j0 j1 j2 j3 j4 j5 j6
  go_wp2_with fail
  go_ret
  exact yesB (by simp) (H0.out.trans hK4)
set_option maxHeartbeats 2000000 in
theorem walk_Spoilt_3 (k op a b c i q m k' op' a' b' c' i' : Int) (u u' : Bool) (hq : q % 7 = 3) (q0 : 0 ≤ q) (m0 : 0 ≤ m) (m1 : m ≤ 65535) (w : World)
    (CF : Hid (∀ w, Calls Try.prog 18 #[.agg #[.int .i64 k, .int .i64 op, .int .i64 a, .int .i64 b, .int .i64 c, .int .i64 i, .bool u]] w fun e w' => e = .returned (.agg #[.int .i64 (k'), .int .i64 (op'), .int .i64 (a'), .int .i64 (b'), .int .i64 (c'), .int .i64 (i'), .bool (u')]) ∧ Kept w w'))
    (CE : Hid (∀ w, Calls Try.prog 12 #[.agg #[.int .i64 (k'), .int .i64 (op'), .int .i64 (a'), .int .i64 (b'), .int .i64 (15 + (1 + m)), .int .i64 (i'), .bool (u')]] w fun e w' => e = .returned (.tuple #[.int .u32 0, .int .i64 1]) ∧ Kept w w'))
    (CM : Hid (∀ w, Calls Try.prog 16 #[.agg #[.int .i64 (k'), .int .i64 (op'), .int .i64 (a'), .int .i64 (b'), .int .i64 (15 + (1 + m)), .int .i64 (i'), .bool (u')]] w fun e w' => e = .returned (.bool false) ∧ Kept w w')) :
    Calls Try.prog 7 #[.agg #[.int .i64 k, .int .i64 op, .int .i64 a, .int .i64 b, .int .i64 c, .int .i64 i, .bool u], .int .u8 q, .int .u16 m] w fun e w' => e = .returned (.bool true) ∧ Below w.heap.size w w' := by
  have X0 := Lib.hid (Box.new k op a b c i u w)
  have H0 := Lib.hid (show Kept w (w.alloc (.cells #[.int .i64 k, .int .i64 op, .int .i64 a, .int .i64 b, .int .i64 c, .int .i64 i, .bool u] 23)) from (Kept.refl w).alloc _ _)
  go_enter Try.func7, Try.ntmps7
  go_wp2_with fail
  refine (shown_any _).mono ?_; rintro e w1 ⟨rfl, hK1⟩
  obtain ⟨j0, j1, j2, j3, j4, j5, j6⟩ := (X0.out.kept hK1).cells
  replace H0 := Lib.hid (H0.out.trans hK1)
  clear hK1
  go_wp2_with fail
  refine (CF.out _).mono ?_; rintro e w2 ⟨rfl, hK2⟩
  clear j0 j1 j2 j3 j4 j5 j6 X0
  replace H0 := Lib.hid ((H0.out.trans hK2).alloc #[.int .i64 (k'), .int .i64 (op'), .int .i64 (a'), .int .i64 (b'), .int .i64 (15 + (1 + m)), .int .i64 (i'), .bool (u')] 23)
  have X1 := Lib.hid (Box.new (k') (op') (a') (b') (15 + (1 + m)) (i') (u') w2)
  clear hK2
  go_wp2_with fail
  refine (CE.out _).mono ?_; rintro e w3 ⟨rfl, hK3⟩
  obtain ⟨j0, j1, j2, j3, j4, j5, j6⟩ := (X1.out.kept hK3).cells
  replace H0 := Lib.hid (H0.out.trans hK3)
  clear hK3
  go_wp2_with fail
  refine (CM.out _).mono ?_; rintro e w4 ⟨rfl, hK4⟩
  clear j0 j1 j2 j3 j4 j5 j6
  go_wp2_with fail
  go_ret
  exact yesB (by simp) (H0.out.trans hK4)
set_option maxHeartbeats 2000000 in
theorem walk_Spoilt_4 (k op a b c i q m k' op' a' b' c' i' : Int) (u u' : Bool) (hq : q % 7 = 4) (q0 : 0 ≤ q) (m0 : 0 ≤ m) (m1 : m ≤ 65535) (w : World)
    (CF : Hid (∀ w, Calls Try.prog 18 #[.agg #[.int .i64 k, .int .i64 op, .int .i64 a, .int .i64 b, .int .i64 c, .int .i64 i, .bool u]] w fun e w' => e = .returned (.agg #[.int .i64 (k'), .int .i64 (op'), .int .i64 (a'), .int .i64 (b'), .int .i64 (c'), .int .i64 (i'), .bool (u')]) ∧ Kept w w'))
    (CE : Hid (∀ w, Calls Try.prog 12 #[.agg #[.int .i64 (k'), .int .i64 (15 + (1 + m)), .int .i64 (a'), .int .i64 (b'), .int .i64 (c'), .int .i64 (i'), .bool (u')]] w fun e w' => e = .returned (.tuple #[.int .u32 0, .int .i64 1]) ∧ Kept w w'))
    (CM : Hid (∀ w, Calls Try.prog 16 #[.agg #[.int .i64 (k'), .int .i64 (15 + (1 + m)), .int .i64 (a'), .int .i64 (b'), .int .i64 (c'), .int .i64 (i'), .bool (u')]] w fun e w' => e = .returned (.bool false) ∧ Kept w w')) :
    Calls Try.prog 7 #[.agg #[.int .i64 k, .int .i64 op, .int .i64 a, .int .i64 b, .int .i64 c, .int .i64 i, .bool u], .int .u8 q, .int .u16 m] w fun e w' => e = .returned (.bool true) ∧ Below w.heap.size w w' := by
  have X0 := Lib.hid (Box.new k op a b c i u w)
  have H0 := Lib.hid (show Kept w (w.alloc (.cells #[.int .i64 k, .int .i64 op, .int .i64 a, .int .i64 b, .int .i64 c, .int .i64 i, .bool u] 23)) from (Kept.refl w).alloc _ _)
  go_enter Try.func7, Try.ntmps7
  go_wp2_with fail
  refine (shown_any _).mono ?_; rintro e w1 ⟨rfl, hK1⟩
  obtain ⟨j0, j1, j2, j3, j4, j5, j6⟩ := (X0.out.kept hK1).cells
  replace H0 := Lib.hid (H0.out.trans hK1)
  clear hK1
  go_wp2_with fail
  refine (CF.out _).mono ?_; rintro e w2 ⟨rfl, hK2⟩
  clear j0 j1 j2 j3 j4 j5 j6 X0
  replace H0 := Lib.hid ((H0.out.trans hK2).alloc #[.int .i64 (k'), .int .i64 (15 + (1 + m)), .int .i64 (a'), .int .i64 (b'), .int .i64 (c'), .int .i64 (i'), .bool (u')] 23)
  have X1 := Lib.hid (Box.new (k') (15 + (1 + m)) (a') (b') (c') (i') (u') w2)
  clear hK2
  go_wp2_with fail
  refine (CE.out _).mono ?_; rintro e w3 ⟨rfl, hK3⟩
  obtain ⟨j0, j1, j2, j3, j4, j5, j6⟩ := (X1.out.kept hK3).cells
  replace H0 := Lib.hid (H0.out.trans hK3)
  clear hK3
  go_wp2_with fail
  refine (CM.out _).mono ?_; rintro e w4 ⟨rfl, hK4⟩
  clear j0 j1 j2 j3 j4 j5 j6
  go_wp2_with fail
  go_ret
  exact yesB (by simp) (H0.out.trans hK4)
set_option maxHeartbeats 2000000 in
theorem walk_Spoilt_5 (k op a b c i q m k' op' a' b' c' i' : Int) (u u' : Bool) (hq : q % 7 = 5) (q0 : 0 ≤ q) (m0 : 0 ≤ m) (m1 : m ≤ 65535) (w : World)
    (CF : Hid (∀ w, Calls Try.prog 18 #[.agg #[.int .i64 k, .int .i64 op, .int .i64 a, .int .i64 b, .int .i64 c, .int .i64 i, .bool u]] w fun e w' => e = .returned (.agg #[.int .i64 (k'), .int .i64 (op'), .int .i64 (a'), .int .i64 (b'), .int .i64 (c'), .int .i64 (i'), .bool (u')]) ∧ Kept w w'))
    (CE : Hid (∀ w, Calls Try.prog 12 #[.agg #[.int .i64 (k'), .int .i64 (op'), .int .i64 (a'), .int .i64 (b'), .int .i64 (c'), .int .i64 (8388607 + (1 + m)), .bool (u')]] w fun e w' => e = .returned (.tuple #[.int .u32 0, .int .i64 1]) ∧ Kept w w'))
    (CM : Hid (∀ w, Calls Try.prog 16 #[.agg #[.int .i64 (k'), .int .i64 (op'), .int .i64 (a'), .int .i64 (b'), .int .i64 (c'), .int .i64 (8388607 + (1 + m)), .bool (u')]] w fun e w' => e = .returned (.bool false) ∧ Kept w w')) :
    Calls Try.prog 7 #[.agg #[.int .i64 k, .int .i64 op, .int .i64 a, .int .i64 b, .int .i64 c, .int .i64 i, .bool u], .int .u8 q, .int .u16 m] w fun e w' => e = .returned (.bool true) ∧ Below w.heap.size w w' := by
  have X0 := Lib.hid (Box.new k op a b c i u w)
  have H0 := Lib.hid (show Kept w (w.alloc (.cells #[.int .i64 k, .int .i64 op, .int .i64 a, .int .i64 b, .int .i64 c, .int .i64 i, .bool u] 23)) from (Kept.refl w).alloc _ _)
  go_enter Try.func7, Try.ntmps7
  go_wp2_with fail
  refine (shown_any _).mono ?_; rintro e w1 ⟨rfl, hK1⟩
  obtain ⟨j0, j1, j2, j3, j4, j5, j6⟩ := (X0.out.kept hK1).cells
  replace H0 := Lib.hid (H0.out.trans hK1)
  clear hK1
  go_wp2_with fail
  refine (CF.out _).mono ?_; rintro e w2 ⟨rfl, hK2⟩
  clear j0 j1 j2 j3 j4 j5 j6 X0
  replace H0 := Lib.hid ((H0.out.trans hK2).alloc #[.int .i64 (k'), .int .i64 (op'), .int .i64 (a'), .int .i64 (b'), .int .i64 (c'), .int .i64 (8388607 + (1 + m)), .bool (u')] 23)
  have X1 := Lib.hid (Box.new (k') (op') (a') (b') (c') (8388607 + (1 + m)) (u') w2)
  clear hK2
  go_wp2_with fail
  refine (CE.out _).mono ?_; rintro e w3 ⟨rfl, hK3⟩
  obtain ⟨j0, j1, j2, j3, j4, j5, j6⟩ := (X1.out.kept hK3).cells
  replace H0 := Lib.hid (H0.out.trans hK3)
  clear hK3
  go_wp2_with fail
  refine (CM.out _).mono ?_; rintro e w4 ⟨rfl, hK4⟩
  clear j0 j1 j2 j3 j4 j5 j6
  go_wp2_with fail
  go_ret
  exact yesB (by simp) (H0.out.trans hK4)
set_option maxHeartbeats 2000000 in
theorem walk_Spoilt_6 (k op a b c i q m k' op' a' b' c' i' : Int) (u u' : Bool) (hq : q % 7 = 6) (q0 : 0 ≤ q) (m0 : 0 ≤ m) (m1 : m ≤ 65535) (w : World)
    (CF : Hid (∀ w, Calls Try.prog 18 #[.agg #[.int .i64 k, .int .i64 op, .int .i64 a, .int .i64 b, .int .i64 c, .int .i64 i, .bool u]] w fun e w' => e = .returned (.agg #[.int .i64 (k'), .int .i64 (op'), .int .i64 (a'), .int .i64 (b'), .int .i64 (c'), .int .i64 (i'), .bool (u')]) ∧ Kept w w'))
    (CE : Hid (∀ w, Calls Try.prog 12 #[.agg #[.int .i64 (-(1 + m)), .int .i64 (op'), .int .i64 (a'), .int .i64 (b'), .int .i64 (c'), .int .i64 (i'), .bool (u')]] w fun e w' => e = .returned (.tuple #[.int .u32 0, .int .i64 1]) ∧ Kept w w'))
    (CM : Hid (∀ w, Calls Try.prog 16 #[.agg #[.int .i64 (-(1 + m)), .int .i64 (op'), .int .i64 (a'), .int .i64 (b'), .int .i64 (c'), .int .i64 (i'), .bool (u')]] w fun e w' => e = .returned (.bool false) ∧ Kept w w')) :
    Calls Try.prog 7 #[.agg #[.int .i64 k, .int .i64 op, .int .i64 a, .int .i64 b, .int .i64 c, .int .i64 i, .bool u], .int .u8 q, .int .u16 m] w fun e w' => e = .returned (.bool true) ∧ Below w.heap.size w w' := by
  have X0 := Lib.hid (Box.new k op a b c i u w)
  have H0 := Lib.hid (show Kept w (w.alloc (.cells #[.int .i64 k, .int .i64 op, .int .i64 a, .int .i64 b, .int .i64 c, .int .i64 i, .bool u] 23)) from (Kept.refl w).alloc _ _)
  go_enter Try.func7, Try.ntmps7
  go_wp2_with fail
  refine (shown_any _).mono ?_; rintro e w1 ⟨rfl, hK1⟩
  obtain ⟨j0, j1, j2, j3, j4, j5, j6⟩ := (X0.out.kept hK1).cells
  replace H0 := Lib.hid (H0.out.trans hK1)
  clear hK1
  go_wp2_with fail
  refine (CF.out _).mono ?_; rintro e w2 ⟨rfl, hK2⟩
  clear j0 j1 j2 j3 j4 j5 j6 X0
  replace H0 := Lib.hid ((H0.out.trans hK2).alloc #[.int .i64 (-(1 + m)), .int .i64 (op'), .int .i64 (a'), .int .i64 (b'), .int .i64 (c'), .int .i64 (i'), .bool (u')] 23)
  have X1 := Lib.hid (Box.new (-(1 + m)) (op') (a') (b') (c') (i') (u') w2)
  clear hK2
  go_wp2_with fail
  refine (CE.out _).mono ?_; rintro e w3 ⟨rfl, hK3⟩
  obtain ⟨j0, j1, j2, j3, j4, j5, j6⟩ := (X1.out.kept hK3).cells
  replace H0 := Lib.hid (H0.out.trans hK3)
  clear hK3
  go_wp2_with fail
  refine (CM.out _).mono ?_; rintro e w4 ⟨rfl, hK4⟩
  clear j0 j1 j2 j3 j4 j5 j6
  go_wp2_with fail
  go_ret
  exact yesB (by simp) (H0.out.trans hK4)
theorem walk_Spoilt (k op a b c i q m : Int) (u : Bool) (q0 : 0 ≤ q) (m0 : 0 ≤ m) (m1 : m ≤ 65535) (w : World) :
    Calls Try.prog 7 #[.agg #[.int .i64 k, .int .i64 op, .int .i64 a, .int .i64 b, .int .i64 c, .int .i64 i, .bool u], .int .u8 q, .int .u16 m] w fun e w' => e = .returned (.bool true) ∧ Below w.heap.size w w' := by
  obtain ⟨k', op', a', b', c', i', u', hm, CF⟩ := fit_any k op a b c i u
  have hm' := hm
  unfold I.May at hm'
  dsimp only at hm'
  rcases (show q % 7 = 0 ∨ q % 7 = 1 ∨ q % 7 = 2 ∨ q % 7 = 3 ∨ q % 7 = 4 ∨ q % 7 = 5 ∨ q % 7 = 6 by omega) with h | h | h | h | h | h | h
  · have hn : ¬ I.May ⟨7 + (1 + m), op', a', b', c', i', u'⟩ := by
      intro hs
      unfold I.May at hs
      dsimp only at hs
      clear CF hm
      omega
    exact walk_Spoilt_0 k op a b c i q m k' op' a' b' c' i' u u' h q0 m0 m1 w (Lib.hid CF) (Lib.hid (enc_not _ _ _ _ _ _ _ hn)) (Lib.hid (may_to _ _ _ _ _ _ _ false (decide_eq_false hn)))
  · have hn : ¬ I.May ⟨k', op', 15 + (1 + m), b', c', i', u'⟩ := by
      intro hs
      unfold I.May at hs
      dsimp only at hs
      clear CF hm
      omega
    exact walk_Spoilt_1 k op a b c i q m k' op' a' b' c' i' u u' h q0 m0 m1 w (Lib.hid CF) (Lib.hid (enc_not _ _ _ _ _ _ _ hn)) (Lib.hid (may_to _ _ _ _ _ _ _ false (decide_eq_false hn)))
  · have hn : ¬ I.May ⟨k', op', a', -(1 + m), c', i', u'⟩ := by
      intro hs
      unfold I.May at hs
      dsimp only at hs
      clear CF hm
      omega
    exact walk_Spoilt_2 k op a b c i q m k' op' a' b' c' i' u u' h q0 m0 m1 w (Lib.hid CF) (Lib.hid (enc_not _ _ _ _ _ _ _ hn)) (Lib.hid (may_to _ _ _ _ _ _ _ false (decide_eq_false hn)))
  · have hn : ¬ I.May ⟨k', op', a', b', 15 + (1 + m), i', u'⟩ := by
      intro hs
      unfold I.May at hs
      dsimp only at hs
      clear CF hm
      omega
    exact walk_Spoilt_3 k op a b c i q m k' op' a' b' c' i' u u' h q0 m0 m1 w (Lib.hid CF) (Lib.hid (enc_not _ _ _ _ _ _ _ hn)) (Lib.hid (may_to _ _ _ _ _ _ _ false (decide_eq_false hn)))
  · have hn : ¬ I.May ⟨k', 15 + (1 + m), a', b', c', i', u'⟩ := by
      intro hs
      unfold I.May at hs
      dsimp only at hs
      clear CF hm
      omega
    exact walk_Spoilt_4 k op a b c i q m k' op' a' b' c' i' u u' h q0 m0 m1 w (Lib.hid CF) (Lib.hid (enc_not _ _ _ _ _ _ _ hn)) (Lib.hid (may_to _ _ _ _ _ _ _ false (decide_eq_false hn)))
  · have hn : ¬ I.May ⟨k', op', a', b', c', 8388607 + (1 + m), u'⟩ := by
      intro hs
      unfold I.May at hs
      dsimp only at hs
      clear CF hm
      omega
    exact walk_Spoilt_5 k op a b c i q m k' op' a' b' c' i' u u' h q0 m0 m1 w (Lib.hid CF) (Lib.hid (enc_not _ _ _ _ _ _ _ hn)) (Lib.hid (may_to _ _ _ _ _ _ _ false (decide_eq_false hn)))
  · have hn : ¬ I.May ⟨-(1 + m), op', a', b', c', i', u'⟩ := by
      intro hs
      unfold I.May at hs
      dsimp only at hs
      clear CF hm
      omega
    exact walk_Spoilt_6 k op a b c i q m k' op' a' b' c' i' u u' h q0 m0 m1 w (Lib.hid CF) (Lib.hid (enc_not _ _ _ _ _ _ _ hn)) (Lib.hid (may_to _ _ _ _ _ _ _ false (decide_eq_false hn)))
end Go.Proofs.Ytliofphhoaopkaa
