/-
  The law IsaFields.
-/
import Derived.Test.YtliofphhoaopkaaIsaF
import Derived.Test.YtliofphhoaopkaaIsaC
namespace Go.Proofs.Ytliofphhoaopkaa
open Go.RowKit
set_option linter.unusedVariables false
set_option linter.unusedSimpArgs false
set_option maxRecDepth 100000 in
set_option maxHeartbeats 2000000 in
theorem fields_1 (k op a b c i op' a' b' c' i' r : Int) (u u' : Bool) (w : World) (hr : U32 r)
    (CF : Hid (∀ w, Calls Try.prog 18 #[.agg #[.int .i64 k, .int .i64 op, .int .i64 a, .int .i64 b, .int .i64 c, .int .i64 i, .bool u]] w fun e w' => e = .returned (.agg #[.int .i64 1, .int .i64 (op'), .int .i64 (a'), .int .i64 (b'), .int .i64 (c'), .int .i64 (i'), .bool (u')]) ∧ Kept w w'))
    (CE : Hid (∀ w, Calls Try.prog 12 #[.agg #[.int .i64 1, .int .i64 (op'), .int .i64 (a'), .int .i64 (b'), .int .i64 (c'), .int .i64 (i'), .bool (u')]] w fun e w' => e = .returned (.tuple #[.int .u32 r, .int .i64 0]) ∧ Kept w w'))
    (G30 : Hid (∀ w, Calls Try.prog 19 #[.int .u32 r, .int .i64 30, .int .i64 2] w fun e w' => e = .returned (.int .u32 0) ∧ Kept w w'))
    (G24 : Hid (∀ w, Calls Try.prog 19 #[.int .u32 r, .int .i64 24, .int .i64 4] w fun e w' => e = .returned (.int .u32 a') ∧ Kept w w'))
    (G20 : Hid (∀ w, Calls Try.prog 19 #[.int .u32 r, .int .i64 20, .int .i64 4] w fun e w' => e = .returned (.int .u32 b') ∧ Kept w w'))
    (G16 : Hid (∀ w, Calls Try.prog 19 #[.int .u32 r, .int .i64 16, .int .i64 4] w fun e w' => e = .returned (.int .u32 op') ∧ Kept w w'))
    (ha0 : 0 ≤ a') (ha1 : a' ≤ 15) (hb0 : 0 ≤ b') (hb1 : b' ≤ 15) (ho0 : 0 ≤ op') (ho1 : op' ≤ 15) (hc0 : 0 ≤ c') (hc1 : c' ≤ 15) (EC : bits .and .u32 r 15 = c') :
    Calls Try.prog 8 #[.agg #[.int .i64 k, .int .i64 op, .int .i64 a, .int .i64 b, .int .i64 c, .int .i64 i, .bool u]] w fun e w' => e = .returned (.bool true) ∧ Below w.heap.size w w' := by
  have X0 := Lib.hid (Box.new k op a b c i u w)
  have H0 := Lib.hid (show Kept w (w.alloc (.cells #[.int .i64 k, .int .i64 op, .int .i64 a, .int .i64 b, .int .i64 c, .int .i64 i, .bool u] 23)) from (Kept.refl w).alloc _ _)
  go_enter Try.func8, Try.ntmps8
  go_wp2_with fail
  refine (shown_any _).mono ?_; rintro e w1 ⟨rfl, hK1⟩
  obtain ⟨j0, j1, j2, j3, j4, j5, j6⟩ := (X0.out.kept hK1).cells
  replace H0 := Lib.hid (H0.out.trans hK1)
  clear hK1
  go_wp2_with fail
  refine (CF.out _).mono ?_; rintro e w2 ⟨rfl, hK2⟩
  clear j0 j1 j2 j3 j4 j5 j6 X0
  replace H0 := Lib.hid ((H0.out.trans hK2).alloc #[.int .i64 1, .int .i64 (op'), .int .i64 (a'), .int .i64 (b'), .int .i64 (c'), .int .i64 (i'), .bool (u')] 23)
  have X1 := Lib.hid (Box.new (1) (op') (a') (b') (c') (i') (u') w2)
  clear hK2
  go_wp2_with fail
  refine (CE.out _).mono ?_; rintro e w3 ⟨rfl, hK3⟩
  replace H0 := Lib.hid (H0.out.trans hK3)
  replace X1 := Lib.hid (X1.out.kept hK3)
  clear hK3
  go_wp2_with fail
  refine (G30.out _).mono ?_; rintro e w4 ⟨rfl, hK4⟩
  go_wp2_with fail
  refine (G24.out _).mono ?_; rintro e w5 ⟨rfl, hK5⟩
  go_wp2_with fail
  refine (G20.out _).mono ?_; rintro e w6 ⟨rfl, hK6⟩
  go_wp2_with fail
  refine (G16.out _).mono ?_; rintro e w7 ⟨rfl, hK7⟩
  replace H0 := Lib.hid ((((H0.out.trans hK4).trans hK5).trans hK6).trans hK7)
  replace X1 := Lib.hid ((((X1.out.kept hK4).kept hK5).kept hK6).kept hK7)
  clear hK4 hK5 hK6 hK7
  obtain ⟨j0, j1, j2, j3, j4, j5, j6⟩ := X1.out.cells
  go_wp2_with fail
  go_ret
  exact yesB (by simp) H0.out
set_option maxRecDepth 100000 in
set_option maxHeartbeats 2000000 in
theorem fields_2 (k op a b c i op' a' b' c' i' r m : Int) (u u' : Bool) (w : World) (hr : U32 r)
    (CF : Hid (∀ w, Calls Try.prog 18 #[.agg #[.int .i64 k, .int .i64 op, .int .i64 a, .int .i64 b, .int .i64 c, .int .i64 i, .bool u]] w fun e w' => e = .returned (.agg #[.int .i64 2, .int .i64 (op'), .int .i64 (a'), .int .i64 (b'), .int .i64 (c'), .int .i64 (i'), .bool (u')]) ∧ Kept w w'))
    (CE : Hid (∀ w, Calls Try.prog 12 #[.agg #[.int .i64 2, .int .i64 (op'), .int .i64 (a'), .int .i64 (b'), .int .i64 (c'), .int .i64 (i'), .bool (u')]] w fun e w' => e = .returned (.tuple #[.int .u32 r, .int .i64 0]) ∧ Kept w w'))
    (G30 : Hid (∀ w, Calls Try.prog 19 #[.int .u32 r, .int .i64 30, .int .i64 2] w fun e w' => e = .returned (.int .u32 1) ∧ Kept w w'))
    (G24 : Hid (∀ w, Calls Try.prog 19 #[.int .u32 r, .int .i64 24, .int .i64 4] w fun e w' => e = .returned (.int .u32 a') ∧ Kept w w'))
    (G20 : Hid (∀ w, Calls Try.prog 19 #[.int .u32 r, .int .i64 20, .int .i64 4] w fun e w' => e = .returned (.int .u32 b') ∧ Kept w w'))
    (G16 : Hid (∀ w, Calls Try.prog 19 #[.int .u32 r, .int .i64 16, .int .i64 4] w fun e w' => e = .returned (.int .u32 op') ∧ Kept w w'))
    (ha0 : 0 ≤ a') (ha1 : a' ≤ 15) (hb0 : 0 ≤ b') (hb1 : b' ≤ 15) (ho0 : 0 ≤ op') (ho1 : op' ≤ 15) (hc0 : 0 ≤ c') (hc1 : c' ≤ 15) (EC : bits .and .u32 r 65535 = m) (ED : bits .and .i64 i' 65535 = m) (hm0 : 0 ≤ m) (hm1 : m ≤ 65535) :
    Calls Try.prog 8 #[.agg #[.int .i64 k, .int .i64 op, .int .i64 a, .int .i64 b, .int .i64 c, .int .i64 i, .bool u]] w fun e w' => e = .returned (.bool true) ∧ Below w.heap.size w w' := by
  have X0 := Lib.hid (Box.new k op a b c i u w)
  have H0 := Lib.hid (show Kept w (w.alloc (.cells #[.int .i64 k, .int .i64 op, .int .i64 a, .int .i64 b, .int .i64 c, .int .i64 i, .bool u] 23)) from (Kept.refl w).alloc _ _)
  go_enter Try.func8, Try.ntmps8
  go_wp2_with fail
  refine (shown_any _).mono ?_; rintro e w1 ⟨rfl, hK1⟩
  obtain ⟨j0, j1, j2, j3, j4, j5, j6⟩ := (X0.out.kept hK1).cells
  replace H0 := Lib.hid (H0.out.trans hK1)
  clear hK1
  go_wp2_with fail
  refine (CF.out _).mono ?_; rintro e w2 ⟨rfl, hK2⟩
  clear j0 j1 j2 j3 j4 j5 j6 X0
  replace H0 := Lib.hid ((H0.out.trans hK2).alloc #[.int .i64 2, .int .i64 (op'), .int .i64 (a'), .int .i64 (b'), .int .i64 (c'), .int .i64 (i'), .bool (u')] 23)
  have X1 := Lib.hid (Box.new (2) (op') (a') (b') (c') (i') (u') w2)
  clear hK2
  go_wp2_with fail
  refine (CE.out _).mono ?_; rintro e w3 ⟨rfl, hK3⟩
  replace H0 := Lib.hid (H0.out.trans hK3)
  replace X1 := Lib.hid (X1.out.kept hK3)
  clear hK3
  go_wp2_with fail
  refine (G30.out _).mono ?_; rintro e w4 ⟨rfl, hK4⟩
  go_wp2_with fail
  refine (G24.out _).mono ?_; rintro e w5 ⟨rfl, hK5⟩
  go_wp2_with fail
  refine (G20.out _).mono ?_; rintro e w6 ⟨rfl, hK6⟩
  go_wp2_with fail
  refine (G16.out _).mono ?_; rintro e w7 ⟨rfl, hK7⟩
  replace H0 := Lib.hid ((((H0.out.trans hK4).trans hK5).trans hK6).trans hK7)
  replace X1 := Lib.hid ((((X1.out.kept hK4).kept hK5).kept hK6).kept hK7)
  clear hK4 hK5 hK6 hK7
  obtain ⟨j0, j1, j2, j3, j4, j5, j6⟩ := X1.out.cells
  go_wp2_with fail
  go_ret
  exact yesB (by simp) H0.out
set_option maxRecDepth 100000 in
set_option maxHeartbeats 2000000 in
theorem fields_3 (k op a b c i op' a' b' c' i' r g20 g16 : Int) (u u' : Bool) (w : World) (hr : U32 r)
    (CF : Hid (∀ w, Calls Try.prog 18 #[.agg #[.int .i64 k, .int .i64 op, .int .i64 a, .int .i64 b, .int .i64 c, .int .i64 i, .bool u]] w fun e w' => e = .returned (.agg #[.int .i64 3, .int .i64 (op'), .int .i64 (a'), .int .i64 (b'), .int .i64 (c'), .int .i64 (i'), .bool (u')]) ∧ Kept w w'))
    (CE : Hid (∀ w, Calls Try.prog 12 #[.agg #[.int .i64 3, .int .i64 (op'), .int .i64 (a'), .int .i64 (b'), .int .i64 (c'), .int .i64 (i'), .bool (u')]] w fun e w' => e = .returned (.tuple #[.int .u32 r, .int .i64 0]) ∧ Kept w w'))
    (G30 : Hid (∀ w, Calls Try.prog 19 #[.int .u32 r, .int .i64 30, .int .i64 2] w fun e w' => e = .returned (.int .u32 0) ∧ Kept w w'))
    (G24 : Hid (∀ w, Calls Try.prog 19 #[.int .u32 r, .int .i64 24, .int .i64 4] w fun e w' => e = .returned (.int .u32 a') ∧ Kept w w'))
    (G20 : Hid (∀ w, Calls Try.prog 19 #[.int .u32 r, .int .i64 20, .int .i64 4] w fun e w' => e = .returned (.int .u32 g20) ∧ Kept w w'))
    (G16 : Hid (∀ w, Calls Try.prog 19 #[.int .u32 r, .int .i64 16, .int .i64 4] w fun e w' => e = .returned (.int .u32 g16) ∧ Kept w w'))
    (G29 : Hid (∀ w, Calls Try.prog 19 #[.int .u32 r, .int .i64 29, .int .i64 1] w fun e w' => e = .returned (.int .u32 1) ∧ Kept w w'))
    (ha0 : 0 ≤ a') (ha1 : a' ≤ 15) (hb0 : 0 ≤ b') (hb1 : b' ≤ 15) (ho0 : 0 ≤ op') (ho1 : op' ≤ 15) (hc0 : 0 ≤ c') (hc1 : c' ≤ 15) (EC : r * 256 % 4294967296 = 0) :
    Calls Try.prog 8 #[.agg #[.int .i64 k, .int .i64 op, .int .i64 a, .int .i64 b, .int .i64 c, .int .i64 i, .bool u]] w fun e w' => e = .returned (.bool true) ∧ Below w.heap.size w w' := by
  have X0 := Lib.hid (Box.new k op a b c i u w)
  have H0 := Lib.hid (show Kept w (w.alloc (.cells #[.int .i64 k, .int .i64 op, .int .i64 a, .int .i64 b, .int .i64 c, .int .i64 i, .bool u] 23)) from (Kept.refl w).alloc _ _)
  go_enter Try.func8, Try.ntmps8
  go_wp2_with fail
  refine (shown_any _).mono ?_; rintro e w1 ⟨rfl, hK1⟩
  obtain ⟨j0, j1, j2, j3, j4, j5, j6⟩ := (X0.out.kept hK1).cells
  replace H0 := Lib.hid (H0.out.trans hK1)
  clear hK1
  go_wp2_with fail
  refine (CF.out _).mono ?_; rintro e w2 ⟨rfl, hK2⟩
  clear j0 j1 j2 j3 j4 j5 j6 X0
  replace H0 := Lib.hid ((H0.out.trans hK2).alloc #[.int .i64 3, .int .i64 (op'), .int .i64 (a'), .int .i64 (b'), .int .i64 (c'), .int .i64 (i'), .bool (u')] 23)
  have X1 := Lib.hid (Box.new (3) (op') (a') (b') (c') (i') (u') w2)
  clear hK2
  go_wp2_with fail
  refine (CE.out _).mono ?_; rintro e w3 ⟨rfl, hK3⟩
  replace H0 := Lib.hid (H0.out.trans hK3)
  replace X1 := Lib.hid (X1.out.kept hK3)
  clear hK3
  go_wp2_with fail
  refine (G30.out _).mono ?_; rintro e w4 ⟨rfl, hK4⟩
  go_wp2_with fail
  refine (G24.out _).mono ?_; rintro e w5 ⟨rfl, hK5⟩
  go_wp2_with fail
  refine (G20.out _).mono ?_; rintro e w6 ⟨rfl, hK6⟩
  go_wp2_with fail
  refine (G16.out _).mono ?_; rintro e w7 ⟨rfl, hK7⟩
  replace H0 := Lib.hid ((((H0.out.trans hK4).trans hK5).trans hK6).trans hK7)
  replace X1 := Lib.hid ((((X1.out.kept hK4).kept hK5).kept hK6).kept hK7)
  clear hK4 hK5 hK6 hK7
  obtain ⟨j0, j1, j2, j3, j4, j5, j6⟩ := X1.out.cells
  go_wp2_with fail
  refine (G29.out _).mono ?_; rintro e w8 ⟨rfl, hK8⟩
  clear j0 j1 j2 j3 j4 j5 j6
  go_wp2_with fail
  go_ret
  exact yesB (by simp) (H0.out.trans hK8)
set_option maxRecDepth 100000 in
set_option maxHeartbeats 2000000 in
theorem fields_4 (k op a b c i op' a' b' c' i' r g20 g16 : Int) (u u' : Bool) (w : World) (hr : U32 r)
    (CF : Hid (∀ w, Calls Try.prog 18 #[.agg #[.int .i64 k, .int .i64 op, .int .i64 a, .int .i64 b, .int .i64 c, .int .i64 i, .bool u]] w fun e w' => e = .returned (.agg #[.int .i64 4, .int .i64 (op'), .int .i64 (a'), .int .i64 (b'), .int .i64 (c'), .int .i64 (i'), .bool (u')]) ∧ Kept w w'))
    (CE : Hid (∀ w, Calls Try.prog 12 #[.agg #[.int .i64 4, .int .i64 (op'), .int .i64 (a'), .int .i64 (b'), .int .i64 (c'), .int .i64 (i'), .bool (u')]] w fun e w' => e = .returned (.tuple #[.int .u32 r, .int .i64 0]) ∧ Kept w w'))
    (G30 : Hid (∀ w, Calls Try.prog 19 #[.int .u32 r, .int .i64 30, .int .i64 2] w fun e w' => e = .returned (.int .u32 0) ∧ Kept w w'))
    (G24 : Hid (∀ w, Calls Try.prog 19 #[.int .u32 r, .int .i64 24, .int .i64 4] w fun e w' => e = .returned (.int .u32 a') ∧ Kept w w'))
    (G20 : Hid (∀ w, Calls Try.prog 19 #[.int .u32 r, .int .i64 20, .int .i64 4] w fun e w' => e = .returned (.int .u32 g20) ∧ Kept w w'))
    (G16 : Hid (∀ w, Calls Try.prog 19 #[.int .u32 r, .int .i64 16, .int .i64 4] w fun e w' => e = .returned (.int .u32 g16) ∧ Kept w w'))
    (G29 : Hid (∀ w, Calls Try.prog 19 #[.int .u32 r, .int .i64 29, .int .i64 1] w fun e w' => e = .returned (.int .u32 1) ∧ Kept w w'))
    (ha0 : 0 ≤ a') (ha1 : a' ≤ 15) (hb0 : 0 ≤ b') (hb1 : b' ≤ 15) (ho0 : 0 ≤ op') (ho1 : op' ≤ 15) (hc0 : 0 ≤ c') (hc1 : c' ≤ 15) (EC : r * 256 % 4294967296 = 0) :
    Calls Try.prog 8 #[.agg #[.int .i64 k, .int .i64 op, .int .i64 a, .int .i64 b, .int .i64 c, .int .i64 i, .bool u]] w fun e w' => e = .returned (.bool true) ∧ Below w.heap.size w w' := by
  have X0 := Lib.hid (Box.new k op a b c i u w)
  have H0 := Lib.hid (show Kept w (w.alloc (.cells #[.int .i64 k, .int .i64 op, .int .i64 a, .int .i64 b, .int .i64 c, .int .i64 i, .bool u] 23)) from (Kept.refl w).alloc _ _)
  go_enter Try.func8, Try.ntmps8
  go_wp2_with fail
  refine (shown_any _).mono ?_; rintro e w1 ⟨rfl, hK1⟩
  obtain ⟨j0, j1, j2, j3, j4, j5, j6⟩ := (X0.out.kept hK1).cells
  replace H0 := Lib.hid (H0.out.trans hK1)
  clear hK1
  go_wp2_with fail
  refine (CF.out _).mono ?_; rintro e w2 ⟨rfl, hK2⟩
  clear j0 j1 j2 j3 j4 j5 j6 X0
  replace H0 := Lib.hid ((H0.out.trans hK2).alloc #[.int .i64 4, .int .i64 (op'), .int .i64 (a'), .int .i64 (b'), .int .i64 (c'), .int .i64 (i'), .bool (u')] 23)
  have X1 := Lib.hid (Box.new (4) (op') (a') (b') (c') (i') (u') w2)
  clear hK2
  go_wp2_with fail
  refine (CE.out _).mono ?_; rintro e w3 ⟨rfl, hK3⟩
  replace H0 := Lib.hid (H0.out.trans hK3)
  replace X1 := Lib.hid (X1.out.kept hK3)
  clear hK3
  go_wp2_with fail
  refine (G30.out _).mono ?_; rintro e w4 ⟨rfl, hK4⟩
  go_wp2_with fail
  refine (G24.out _).mono ?_; rintro e w5 ⟨rfl, hK5⟩
  go_wp2_with fail
  refine (G20.out _).mono ?_; rintro e w6 ⟨rfl, hK6⟩
  go_wp2_with fail
  refine (G16.out _).mono ?_; rintro e w7 ⟨rfl, hK7⟩
  replace H0 := Lib.hid ((((H0.out.trans hK4).trans hK5).trans hK6).trans hK7)
  replace X1 := Lib.hid ((((X1.out.kept hK4).kept hK5).kept hK6).kept hK7)
  clear hK4 hK5 hK6 hK7
  obtain ⟨j0, j1, j2, j3, j4, j5, j6⟩ := X1.out.cells
  go_wp2_with fail
  refine (G29.out _).mono ?_; rintro e w8 ⟨rfl, hK8⟩
  clear j0 j1 j2 j3 j4 j5 j6
  go_wp2_with fail
  go_ret
  exact yesB (by simp) (H0.out.trans hK8)
set_option maxRecDepth 100000 in
set_option maxHeartbeats 2000000 in
theorem fields_5 (k op a b c i op' a' b' c' i' r g16 : Int) (u u' : Bool) (w : World) (hr : U32 r)
    (CF : Hid (∀ w, Calls Try.prog 18 #[.agg #[.int .i64 k, .int .i64 op, .int .i64 a, .int .i64 b, .int .i64 c, .int .i64 i, .bool u]] w fun e w' => e = .returned (.agg #[.int .i64 5, .int .i64 (op'), .int .i64 (a'), .int .i64 (b'), .int .i64 (c'), .int .i64 (i'), .bool (u')]) ∧ Kept w w'))
    (CE : Hid (∀ w, Calls Try.prog 12 #[.agg #[.int .i64 5, .int .i64 (op'), .int .i64 (a'), .int .i64 (b'), .int .i64 (c'), .int .i64 (i'), .bool (u')]] w fun e w' => e = .returned (.tuple #[.int .u32 r, .int .i64 0]) ∧ Kept w w'))
    (G30 : Hid (∀ w, Calls Try.prog 19 #[.int .u32 r, .int .i64 30, .int .i64 2] w fun e w' => e = .returned (.int .u32 2) ∧ Kept w w'))
    (G24 : Hid (∀ w, Calls Try.prog 19 #[.int .u32 r, .int .i64 24, .int .i64 4] w fun e w' => e = .returned (.int .u32 a') ∧ Kept w w'))
    (G20 : Hid (∀ w, Calls Try.prog 19 #[.int .u32 r, .int .i64 20, .int .i64 4] w fun e w' => e = .returned (.int .u32 b') ∧ Kept w w'))
    (G16 : Hid (∀ w, Calls Try.prog 19 #[.int .u32 r, .int .i64 16, .int .i64 4] w fun e w' => e = .returned (.int .u32 g16) ∧ Kept w w'))
    (QS : Hid (∀ w, Calls Try.prog 20 #[.int .u32 r, .int .i64 20] w fun e w' => e = .returned (.int .i64 i') ∧ w = w'))
    (ha0 : 0 ≤ a') (ha1 : a' ≤ 15) (hb0 : 0 ≤ b') (hb1 : b' ≤ 15) (ho0 : 0 ≤ op') (ho1 : op' ≤ 15) (hc0 : 0 ≤ c') (hc1 : c' ≤ 15) :
    Calls Try.prog 8 #[.agg #[.int .i64 k, .int .i64 op, .int .i64 a, .int .i64 b, .int .i64 c, .int .i64 i, .bool u]] w fun e w' => e = .returned (.bool true) ∧ Below w.heap.size w w' := by
  have X0 := Lib.hid (Box.new k op a b c i u w)
  have H0 := Lib.hid (show Kept w (w.alloc (.cells #[.int .i64 k, .int .i64 op, .int .i64 a, .int .i64 b, .int .i64 c, .int .i64 i, .bool u] 23)) from (Kept.refl w).alloc _ _)
  go_enter Try.func8, Try.ntmps8
  go_wp2_with fail
  refine (shown_any _).mono ?_; rintro e w1 ⟨rfl, hK1⟩
  obtain ⟨j0, j1, j2, j3, j4, j5, j6⟩ := (X0.out.kept hK1).cells
  replace H0 := Lib.hid (H0.out.trans hK1)
  clear hK1
  go_wp2_with fail
  refine (CF.out _).mono ?_; rintro e w2 ⟨rfl, hK2⟩
  clear j0 j1 j2 j3 j4 j5 j6 X0
  replace H0 := Lib.hid ((H0.out.trans hK2).alloc #[.int .i64 5, .int .i64 (op'), .int .i64 (a'), .int .i64 (b'), .int .i64 (c'), .int .i64 (i'), .bool (u')] 23)
  have X1 := Lib.hid (Box.new (5) (op') (a') (b') (c') (i') (u') w2)
  clear hK2
  go_wp2_with fail
  refine (CE.out _).mono ?_; rintro e w3 ⟨rfl, hK3⟩
  replace H0 := Lib.hid (H0.out.trans hK3)
  replace X1 := Lib.hid (X1.out.kept hK3)
  clear hK3
  go_wp2_with fail
  refine (G30.out _).mono ?_; rintro e w4 ⟨rfl, hK4⟩
  go_wp2_with fail
  refine (G24.out _).mono ?_; rintro e w5 ⟨rfl, hK5⟩
  go_wp2_with fail
  refine (G20.out _).mono ?_; rintro e w6 ⟨rfl, hK6⟩
  go_wp2_with fail
  refine (G16.out _).mono ?_; rintro e w7 ⟨rfl, hK7⟩
  replace H0 := Lib.hid ((((H0.out.trans hK4).trans hK5).trans hK6).trans hK7)
  replace X1 := Lib.hid ((((X1.out.kept hK4).kept hK5).kept hK6).kept hK7)
  clear hK4 hK5 hK6 hK7
  obtain ⟨j0, j1, j2, j3, j4, j5, j6⟩ := X1.out.cells
  clear j0 j1 j2 j3 j4 j5 j6
  obtain ⟨j0, j1, j2, j3, j4, j5, j6⟩ := X1.out.cells
  go_wp2_with fail
  clear j0 j1 j2 j3 j4 j5 j6
  have hK5 := (Kept.refl w7).drew
  refine wp_region_held_drew (S := fun w' => w'.cell? ⟨w2.heap.size, 0, none⟩ = some (.int .i64 5) ∧ w'.cell? ⟨w2.heap.size, 1, none⟩ = some (.int .i64 (op')) ∧ w'.cell? ⟨w2.heap.size, 2, none⟩ = some (.int .i64 (a')) ∧ w'.cell? ⟨w2.heap.size, 3, none⟩ = some (.int .i64 (b')) ∧ w'.cell? ⟨w2.heap.size, 4, none⟩ = some (.int .i64 (c')) ∧ w'.cell? ⟨w2.heap.size, 5, none⟩ = some (.int .i64 (i')) ∧ w'.cell? ⟨w2.heap.size, 6, none⟩ = some (.bool (u'))) (by kernel_rfl) ?_ (fun hHeld => ?_)
  · exact (X1.out.kept hK5).cells
  refine wpAnyH_take (i := 0) (oi := { dst := some 101, op := Op.move (Operand.tmp 7), type := 24, pos := "more.go:28", after := #[], guard := none }) (v := ?_) rfl (by kernel_rfl) (by kernel_rfl) (by kernel_rfl) (fun _ _ _ h => h) (Or.inl ⟨rfl, ?_⟩) hHeld ?_
  rotate_left
  · (intro w hSw; (try dsimp only at hSw); go_simp; try with_reducible rfl)
  try simp only [Act.put, List.setIfInBounds_toArray, List.set_cons_zero, List.set_cons_succ]
  refine wpAnyH_take (i := 1) (oi := { dst := some 102, op := Op.binOp BinOp.eql 24 (Operand.tmp 101) (Operand.const (Value.int IntKind.u32 2)) 24, type := 4, pos := "more.go:28", after := #[{ on := 0, ground := Ground.data }], guard := none }) (v := ?_) rfl (by kernel_rfl) (by kernel_rfl) (by kernel_rfl) (fun _ _ _ h => h) (Or.inl ⟨rfl, ?_⟩) hHeld ?_
  rotate_left
  · (intro w hSw; (try dsimp only at hSw); go_simp; try with_reducible rfl)
  try simp only [Act.put, List.setIfInBounds_toArray, List.set_cons_zero, List.set_cons_succ]
  refine wpAnyH_take (i := 2) (oi := { dst := some 103, op := Op.move (Operand.tmp 102), type := 4, pos := "more.go:28", after := #[{ on := 1, ground := Ground.data }], guard := none }) (v := ?_) rfl (by kernel_rfl) (by kernel_rfl) (by kernel_rfl) (fun _ _ _ h => h) (Or.inl ⟨rfl, ?_⟩) hHeld ?_
  rotate_left
  · (intro w hSw; (try dsimp only at hSw); go_simp; try with_reducible rfl)
  try simp only [Act.put, List.setIfInBounds_toArray, List.set_cons_zero, List.set_cons_succ]
  refine wpAnyH_take (i := 3) (oi := { dst := some 104, op := Op.move (Operand.tmp 8), type := 3, pos := "more.go:28", after := #[{ on := 2, ground := Ground.guard }], guard := some (2, true) }) (v := ?_) rfl (by kernel_rfl) (by kernel_rfl) (by kernel_rfl) (fun _ _ _ h => h) (Or.inl ⟨rfl, ?_⟩) hHeld ?_
  rotate_left
  · (intro w hSw; (try dsimp only at hSw); go_simp; try with_reducible rfl)
  try simp only [Act.put, List.setIfInBounds_toArray, List.set_cons_zero, List.set_cons_succ]
  refine wpAnyH_take (i := 4) (oi := { dst := some 105, op := Op.fieldAddr 23 (Operand.tmp 4) 2, type := 0, pos := "more.go:28", after := #[{ on := 2, ground := Ground.guard }], guard := some (2, true) }) (v := ?_) rfl (by kernel_rfl) (by kernel_rfl) (by kernel_rfl) (fun _ _ _ h => h) (Or.inl ⟨rfl, ?_⟩) hHeld ?_
  rotate_left
  · (intro w hSw; (try dsimp only at hSw); go_simp; try with_reducible rfl)
  try simp only [Act.put, List.setIfInBounds_toArray, List.set_cons_zero, List.set_cons_succ]
  refine wpAnyH_take (i := 5) (oi := { dst := some 106, op := Op.load 3 (Operand.tmp 105), type := 3, pos := "more.go:28", after := #[{ on := 4, ground := Ground.data }, { on := 2, ground := Ground.guard }], guard := some (2, true) }) (v := ?_) rfl (by kernel_rfl) (by kernel_rfl) (by kernel_rfl) (fun _ _ _ h => h) (Or.inl ⟨rfl, ?_⟩) hHeld ?_
  rotate_left
  · (intro w hSw; (try dsimp only at hSw); go_simp; try with_reducible rfl)
  try simp only [Act.put, List.setIfInBounds_toArray, List.set_cons_zero, List.set_cons_succ]
  refine wpAnyH_take (i := 6) (oi := { dst := some 107, op := Op.binOp BinOp.eql 3 (Operand.tmp 104) (Operand.tmp 106) 3, type := 4, pos := "more.go:28", after := #[{ on := 3, ground := Ground.data }, { on := 5, ground := Ground.data }, { on := 2, ground := Ground.guard }], guard := some (2, true) }) (v := ?_) rfl (by kernel_rfl) (by kernel_rfl) (by kernel_rfl) (fun _ _ _ h => h) (Or.inl ⟨rfl, ?_⟩) hHeld ?_
  rotate_left
  · (intro w hSw; (try dsimp only at hSw); go_simp; try with_reducible rfl)
  try simp only [Act.put, List.setIfInBounds_toArray, List.set_cons_zero, List.set_cons_succ]
  refine wpAnyH_take (i := 7) (oi := { dst := some 108, op := Op.pick (Operand.tmp 103) (Operand.tmp 107) (Operand.const (Value.bool false)), type := 4, pos := "more.go:28", after := #[{ on := 2, ground := Ground.data }, { on := 6, ground := Ground.data }], guard := none }) (v := ?_) rfl (by kernel_rfl) (by kernel_rfl) (by kernel_rfl) (fun _ _ _ h => h) (Or.inl ⟨rfl, ?_⟩) hHeld ?_
  rotate_left
  · (intro w hSw; (try dsimp only at hSw); go_simp; try with_reducible rfl)
  try simp only [Act.put, List.setIfInBounds_toArray, List.set_cons_zero, List.set_cons_succ]
  refine wpAnyH_take (i := 8) (oi := { dst := some 109, op := Op.move (Operand.tmp 108), type := 4, pos := "more.go:28", after := #[{ on := 7, ground := Ground.data }, { on := 2, ground := Ground.chain }], guard := none }) (v := ?_) rfl (by kernel_rfl) (by kernel_rfl) (by kernel_rfl) (fun _ _ _ h => h) (Or.inl ⟨rfl, ?_⟩) hHeld ?_
  rotate_left
  · (intro w hSw; (try dsimp only at hSw); go_simp; try with_reducible rfl)
  try simp only [Act.put, List.setIfInBounds_toArray, List.set_cons_zero, List.set_cons_succ]
  refine wpAnyH_take (i := 9) (oi := { dst := some 110, op := Op.move (Operand.tmp 9), type := 3, pos := "more.go:28", after := #[{ on := 8, ground := Ground.guard }], guard := some (8, true) }) (v := ?_) rfl (by kernel_rfl) (by kernel_rfl) (by kernel_rfl) (fun _ _ _ h => h) (Or.inl ⟨rfl, ?_⟩) hHeld ?_
  rotate_left
  · (intro w hSw; (try dsimp only at hSw); go_simp; try with_reducible rfl)
  try simp only [Act.put, List.setIfInBounds_toArray, List.set_cons_zero, List.set_cons_succ]
  refine wpAnyH_take (i := 10) (oi := { dst := some 111, op := Op.fieldAddr 23 (Operand.tmp 4) 3, type := 0, pos := "more.go:28", after := #[{ on := 8, ground := Ground.guard }], guard := some (8, true) }) (v := ?_) rfl (by kernel_rfl) (by kernel_rfl) (by kernel_rfl) (fun _ _ _ h => h) (Or.inl ⟨rfl, ?_⟩) hHeld ?_
  rotate_left
  · (intro w hSw; (try dsimp only at hSw); go_simp; try with_reducible rfl)
  try simp only [Act.put, List.setIfInBounds_toArray, List.set_cons_zero, List.set_cons_succ]
  refine wpAnyH_take (i := 11) (oi := { dst := some 112, op := Op.load 3 (Operand.tmp 111), type := 3, pos := "more.go:28", after := #[{ on := 10, ground := Ground.data }, { on := 8, ground := Ground.guard }], guard := some (8, true) }) (v := ?_) rfl (by kernel_rfl) (by kernel_rfl) (by kernel_rfl) (fun _ _ _ h => h) (Or.inl ⟨rfl, ?_⟩) hHeld ?_
  rotate_left
  · (intro w hSw; (try dsimp only at hSw); go_simp; try with_reducible rfl)
  try simp only [Act.put, List.setIfInBounds_toArray, List.set_cons_zero, List.set_cons_succ]
  refine wpAnyH_take (i := 12) (oi := { dst := some 113, op := Op.binOp BinOp.eql 3 (Operand.tmp 110) (Operand.tmp 112) 3, type := 4, pos := "more.go:28", after := #[{ on := 9, ground := Ground.data }, { on := 11, ground := Ground.data }, { on := 8, ground := Ground.guard }], guard := some (8, true) }) (v := ?_) rfl (by kernel_rfl) (by kernel_rfl) (by kernel_rfl) (fun _ _ _ h => h) (Or.inl ⟨rfl, ?_⟩) hHeld ?_
  rotate_left
  · (intro w hSw; (try dsimp only at hSw); go_simp; try with_reducible rfl)
  try simp only [Act.put, List.setIfInBounds_toArray, List.set_cons_zero, List.set_cons_succ]
  refine wpAnyH_take (i := 13) (oi := { dst := some 114, op := Op.pick (Operand.tmp 109) (Operand.tmp 113) (Operand.const (Value.bool false)), type := 4, pos := "more.go:28", after := #[{ on := 8, ground := Ground.data }, { on := 12, ground := Ground.data }], guard := none }) (v := ?_) rfl (by kernel_rfl) (by kernel_rfl) (by kernel_rfl) (fun _ _ _ h => h) (Or.inl ⟨rfl, ?_⟩) hHeld ?_
  rotate_left
  · (intro w hSw; (try dsimp only at hSw); go_simp; try with_reducible rfl)
  try simp only [Act.put, List.setIfInBounds_toArray, List.set_cons_zero, List.set_cons_succ]
  refine wpAnyH_take (i := 14) (oi := { dst := some 115, op := Op.move (Operand.tmp 114), type := 4, pos := "more.go:28", after := #[{ on := 13, ground := Ground.data }, { on := 8, ground := Ground.chain }], guard := none }) (v := ?_) rfl (by kernel_rfl) (by kernel_rfl) (by kernel_rfl) (fun _ _ _ h => h) (Or.inl ⟨rfl, ?_⟩) hHeld ?_
  rotate_left
  · (intro w hSw; (try dsimp only at hSw); go_simp; try with_reducible rfl)
  try simp only [Act.put, List.setIfInBounds_toArray, List.set_cons_zero, List.set_cons_succ]
  refine wpAnyH_take (i := 15) (oi := { dst := some 116, op := Op.move (Operand.tmp 5), type := 24, pos := "more.go:28", after := #[{ on := 14, ground := Ground.guard }], guard := some (14, true) }) (v := ?_) rfl (by kernel_rfl) (by kernel_rfl) (by kernel_rfl) (fun _ _ _ h => h) (Or.inl ⟨rfl, ?_⟩) hHeld ?_
  rotate_left
  · (intro w hSw; (try dsimp only at hSw); go_simp; try with_reducible rfl)
  try simp only [Act.put, List.setIfInBounds_toArray, List.set_cons_zero, List.set_cons_succ]
  refine wpAnyH_take (i := 17) (oi := { dst := some 118, op := Op.fieldAddr 23 (Operand.tmp 4) 5, type := 0, pos := "more.go:28", after := #[{ on := 14, ground := Ground.guard }], guard := some (14, true) }) (v := ?_) rfl (by kernel_rfl) (by kernel_rfl) (by kernel_rfl) (fun _ _ _ h => h) (Or.inl ⟨rfl, ?_⟩) hHeld ?_
  rotate_left
  · (intro w hSw; (try dsimp only at hSw); go_simp; try with_reducible rfl)
  try simp only [Act.put, List.setIfInBounds_toArray, List.set_cons_zero, List.set_cons_succ]
  refine wpAnyH_take (i := 18) (oi := { dst := some 119, op := Op.load 3 (Operand.tmp 118), type := 3, pos := "more.go:28", after := #[{ on := 17, ground := Ground.data }, { on := 14, ground := Ground.guard }], guard := some (14, true) }) (v := ?_) rfl (by kernel_rfl) (by kernel_rfl) (by kernel_rfl) (fun _ _ _ h => h) (Or.inl ⟨rfl, ?_⟩) hHeld ?_
  rotate_left
  · (intro w hSw; (try dsimp only at hSw); go_simp; try with_reducible rfl)
  try simp only [Act.put, List.setIfInBounds_toArray, List.set_cons_zero, List.set_cons_succ]
  refine wpAnyH_ready (rs := [16]) (by kernel_rfl) (by simp) ?_
  refine AllReadyH.cons (o := { dst := some 117, op := Op.call { callee := Callee.value (Operand.func 20), args := #[Operand.tmp 116, Operand.const (Value.int IntKind.i64 20)], argTypes := #[24, 3] }, type := 3, pos := "more.go:28", after := #[{ on := 15, ground := Ground.data }, { on := 14, ground := Ground.chain }, { on := 14, ground := Ground.guard }], guard := some (14, true) }) rfl (fun K hK => ?_) AllReadyH.nil
  go_simp
  go_at_call 20
  refine (QS.out _).mono ?_
  rintro e w9 ⟨rfl, rfl⟩
  clear hHeld
  refine hK.out _ _ ?_ (fun hHeld => ?_)
  · exact (X1.out.kept hK5).cells
  clear hK K
  try simp only [Act.put, List.setIfInBounds_toArray, List.set_cons_zero, List.set_cons_succ]
  refine wpAnyH_take (i := 19) (oi := { dst := some 120, op := Op.binOp BinOp.eql 3 (Operand.tmp 117) (Operand.tmp 119) 3, type := 4, pos := "more.go:28", after := #[{ on := 16, ground := Ground.data }, { on := 18, ground := Ground.data }, { on := 14, ground := Ground.guard }], guard := some (14, true) }) (v := ?_) rfl (by kernel_rfl) (by kernel_rfl) (by kernel_rfl) (fun _ _ _ h => h) (Or.inl ⟨rfl, ?_⟩) hHeld ?_
  rotate_left
  · (intro w hSw; (try dsimp only at hSw); go_simp; try with_reducible rfl)
  try simp only [Act.put, List.setIfInBounds_toArray, List.set_cons_zero, List.set_cons_succ]
  refine wpAnyH_take (i := 20) (oi := { dst := some 121, op := Op.pick (Operand.tmp 115) (Operand.tmp 120) (Operand.const (Value.bool false)), type := 4, pos := "more.go:28", after := #[{ on := 14, ground := Ground.data }, { on := 19, ground := Ground.data }], guard := none }) (v := ?_) rfl (by kernel_rfl) (by kernel_rfl) (by kernel_rfl) (fun _ _ _ h => h) (Or.inl ⟨rfl, ?_⟩) hHeld ?_
  rotate_left
  · (intro w hSw; (try dsimp only at hSw); go_simp; try with_reducible rfl)
  try simp only [Act.put, List.setIfInBounds_toArray, List.set_cons_zero, List.set_cons_succ]
  refine wpAnyH_take (i := 21) (oi := { dst := some 2, op := Op.assign (Operand.tmp 121), type := 4, pos := "more.go:28", after := #[{ on := 20, ground := Ground.data }, { on := 16, ground := Ground.chain }, { on := 0, ground := Ground.phase }, { on := 1, ground := Ground.phase }, { on := 2, ground := Ground.phase }, { on := 3, ground := Ground.phase }, { on := 4, ground := Ground.phase }, { on := 5, ground := Ground.phase }, { on := 6, ground := Ground.phase }, { on := 7, ground := Ground.phase }, { on := 8, ground := Ground.phase }, { on := 9, ground := Ground.phase }, { on := 10, ground := Ground.phase }, { on := 11, ground := Ground.phase }, { on := 12, ground := Ground.phase }, { on := 13, ground := Ground.phase }, { on := 14, ground := Ground.phase }, { on := 15, ground := Ground.phase }, { on := 16, ground := Ground.phase }, { on := 17, ground := Ground.phase }, { on := 18, ground := Ground.phase }, { on := 19, ground := Ground.phase }, { on := 20, ground := Ground.phase }], guard := none }) (v := ?_) rfl (by kernel_rfl) (by kernel_rfl) (by kernel_rfl) (fun _ _ _ h => h) (Or.inl ⟨rfl, ?_⟩) hHeld ?_
  rotate_left
  · (intro w hSw; (try dsimp only at hSw); go_simp; try with_reducible rfl)
  try simp only [Act.put, List.setIfInBounds_toArray, List.set_cons_zero, List.set_cons_succ]
  refine wpAnyH_done (by kernel_rfl) ?_ _
  go_wp2_with fail
  go_ret
  exact yesB (by simp) (H0.out.trans hK5)
set_option maxRecDepth 100000 in
set_option maxHeartbeats 2000000 in
theorem fields_6 (k op a b c i op' a' b' c' i' r g20 g16 : Int) (u u' : Bool) (w : World) (hr : U32 r)
    (CF : Hid (∀ w, Calls Try.prog 18 #[.agg #[.int .i64 k, .int .i64 op, .int .i64 a, .int .i64 b, .int .i64 c, .int .i64 i, .bool u]] w fun e w' => e = .returned (.agg #[.int .i64 6, .int .i64 (op'), .int .i64 (a'), .int .i64 (b'), .int .i64 (c'), .int .i64 (i'), .bool (u')]) ∧ Kept w w'))
    (CE : Hid (∀ w, Calls Try.prog 12 #[.agg #[.int .i64 6, .int .i64 (op'), .int .i64 (a'), .int .i64 (b'), .int .i64 (c'), .int .i64 (i'), .bool (u')]] w fun e w' => e = .returned (.tuple #[.int .u32 r, .int .i64 0]) ∧ Kept w w'))
    (G30 : Hid (∀ w, Calls Try.prog 19 #[.int .u32 r, .int .i64 30, .int .i64 2] w fun e w' => e = .returned (.int .u32 3) ∧ Kept w w'))
    (G24 : Hid (∀ w, Calls Try.prog 19 #[.int .u32 r, .int .i64 24, .int .i64 4] w fun e w' => e = .returned (.int .u32 op') ∧ Kept w w'))
    (G20 : Hid (∀ w, Calls Try.prog 19 #[.int .u32 r, .int .i64 20, .int .i64 4] w fun e w' => e = .returned (.int .u32 g20) ∧ Kept w w'))
    (G16 : Hid (∀ w, Calls Try.prog 19 #[.int .u32 r, .int .i64 16, .int .i64 4] w fun e w' => e = .returned (.int .u32 g16) ∧ Kept w w'))
    (G29 : Hid (∀ w, Calls Try.prog 19 #[.int .u32 r, .int .i64 29, .int .i64 1] w fun e w' => e = .returned (.int .u32 0) ∧ Kept w w'))
    (ha0 : 0 ≤ a') (ha1 : a' ≤ 15) (hb0 : 0 ≤ b') (hb1 : b' ≤ 15) (ho0 : 0 ≤ op') (ho1 : op' ≤ 15) (hc0 : 0 ≤ c') (hc1 : c' ≤ 15) (EC : bits .and .u32 r 15 = c') :
    Calls Try.prog 8 #[.agg #[.int .i64 k, .int .i64 op, .int .i64 a, .int .i64 b, .int .i64 c, .int .i64 i, .bool u]] w fun e w' => e = .returned (.bool true) ∧ Below w.heap.size w w' := by
  have X0 := Lib.hid (Box.new k op a b c i u w)
  have H0 := Lib.hid (show Kept w (w.alloc (.cells #[.int .i64 k, .int .i64 op, .int .i64 a, .int .i64 b, .int .i64 c, .int .i64 i, .bool u] 23)) from (Kept.refl w).alloc _ _)
  go_enter Try.func8, Try.ntmps8
  go_wp2_with fail
  refine (shown_any _).mono ?_; rintro e w1 ⟨rfl, hK1⟩
  obtain ⟨j0, j1, j2, j3, j4, j5, j6⟩ := (X0.out.kept hK1).cells
  replace H0 := Lib.hid (H0.out.trans hK1)
  clear hK1
  go_wp2_with fail
  refine (CF.out _).mono ?_; rintro e w2 ⟨rfl, hK2⟩
  clear j0 j1 j2 j3 j4 j5 j6 X0
  replace H0 := Lib.hid ((H0.out.trans hK2).alloc #[.int .i64 6, .int .i64 (op'), .int .i64 (a'), .int .i64 (b'), .int .i64 (c'), .int .i64 (i'), .bool (u')] 23)
  have X1 := Lib.hid (Box.new (6) (op') (a') (b') (c') (i') (u') w2)
  clear hK2
  go_wp2_with fail
  refine (CE.out _).mono ?_; rintro e w3 ⟨rfl, hK3⟩
  replace H0 := Lib.hid (H0.out.trans hK3)
  replace X1 := Lib.hid (X1.out.kept hK3)
  clear hK3
  go_wp2_with fail
  refine (G30.out _).mono ?_; rintro e w4 ⟨rfl, hK4⟩
  go_wp2_with fail
  refine (G24.out _).mono ?_; rintro e w5 ⟨rfl, hK5⟩
  go_wp2_with fail
  refine (G20.out _).mono ?_; rintro e w6 ⟨rfl, hK6⟩
  go_wp2_with fail
  refine (G16.out _).mono ?_; rintro e w7 ⟨rfl, hK7⟩
  replace H0 := Lib.hid ((((H0.out.trans hK4).trans hK5).trans hK6).trans hK7)
  replace X1 := Lib.hid ((((X1.out.kept hK4).kept hK5).kept hK6).kept hK7)
  clear hK4 hK5 hK6 hK7
  obtain ⟨j0, j1, j2, j3, j4, j5, j6⟩ := X1.out.cells
  go_wp2_with fail
  refine (G29.out _).mono ?_; rintro e w8 ⟨rfl, hK8⟩
  clear j0 j1 j2 j3 j4 j5 j6
  go_wp2_with fail
  go_ret
  exact yesB (by simp) (H0.out.trans hK8)
set_option maxRecDepth 100000 in
set_option maxHeartbeats 2000000 in
theorem fields_7 (k op a b c i op' a' b' c' i' r g20 g16 : Int) (u u' : Bool) (w : World) (hr : U32 r)
    (CF : Hid (∀ w, Calls Try.prog 18 #[.agg #[.int .i64 k, .int .i64 op, .int .i64 a, .int .i64 b, .int .i64 c, .int .i64 i, .bool u]] w fun e w' => e = .returned (.agg #[.int .i64 7, .int .i64 (op'), .int .i64 (a'), .int .i64 (b'), .int .i64 (c'), .int .i64 (i'), .bool (u')]) ∧ Kept w w'))
    (CE : Hid (∀ w, Calls Try.prog 12 #[.agg #[.int .i64 7, .int .i64 (op'), .int .i64 (a'), .int .i64 (b'), .int .i64 (c'), .int .i64 (i'), .bool (u')]] w fun e w' => e = .returned (.tuple #[.int .u32 r, .int .i64 0]) ∧ Kept w w'))
    (G30 : Hid (∀ w, Calls Try.prog 19 #[.int .u32 r, .int .i64 30, .int .i64 2] w fun e w' => e = .returned (.int .u32 3) ∧ Kept w w'))
    (G24 : Hid (∀ w, Calls Try.prog 19 #[.int .u32 r, .int .i64 24, .int .i64 4] w fun e w' => e = .returned (.int .u32 op') ∧ Kept w w'))
    (G20 : Hid (∀ w, Calls Try.prog 19 #[.int .u32 r, .int .i64 20, .int .i64 4] w fun e w' => e = .returned (.int .u32 g20) ∧ Kept w w'))
    (G16 : Hid (∀ w, Calls Try.prog 19 #[.int .u32 r, .int .i64 16, .int .i64 4] w fun e w' => e = .returned (.int .u32 g16) ∧ Kept w w'))
    (G29 : Hid (∀ w, Calls Try.prog 19 #[.int .u32 r, .int .i64 29, .int .i64 1] w fun e w' => e = .returned (.int .u32 1) ∧ Kept w w'))
    (QS : Hid (∀ w, Calls Try.prog 20 #[.int .u32 r, .int .i64 24] w fun e w' => e = .returned (.int .i64 i') ∧ w = w'))
    (ha0 : 0 ≤ a') (ha1 : a' ≤ 15) (hb0 : 0 ≤ b') (hb1 : b' ≤ 15) (ho0 : 0 ≤ op') (ho1 : op' ≤ 15) (hc0 : 0 ≤ c') (hc1 : c' ≤ 15) :
    Calls Try.prog 8 #[.agg #[.int .i64 k, .int .i64 op, .int .i64 a, .int .i64 b, .int .i64 c, .int .i64 i, .bool u]] w fun e w' => e = .returned (.bool true) ∧ Below w.heap.size w w' := by
  have X0 := Lib.hid (Box.new k op a b c i u w)
  have H0 := Lib.hid (show Kept w (w.alloc (.cells #[.int .i64 k, .int .i64 op, .int .i64 a, .int .i64 b, .int .i64 c, .int .i64 i, .bool u] 23)) from (Kept.refl w).alloc _ _)
  go_enter Try.func8, Try.ntmps8
  go_wp2_with fail
  refine (shown_any _).mono ?_; rintro e w1 ⟨rfl, hK1⟩
  obtain ⟨j0, j1, j2, j3, j4, j5, j6⟩ := (X0.out.kept hK1).cells
  replace H0 := Lib.hid (H0.out.trans hK1)
  clear hK1
  go_wp2_with fail
  refine (CF.out _).mono ?_; rintro e w2 ⟨rfl, hK2⟩
  clear j0 j1 j2 j3 j4 j5 j6 X0
  replace H0 := Lib.hid ((H0.out.trans hK2).alloc #[.int .i64 7, .int .i64 (op'), .int .i64 (a'), .int .i64 (b'), .int .i64 (c'), .int .i64 (i'), .bool (u')] 23)
  have X1 := Lib.hid (Box.new (7) (op') (a') (b') (c') (i') (u') w2)
  clear hK2
  go_wp2_with fail
  refine (CE.out _).mono ?_; rintro e w3 ⟨rfl, hK3⟩
  replace H0 := Lib.hid (H0.out.trans hK3)
  replace X1 := Lib.hid (X1.out.kept hK3)
  clear hK3
  go_wp2_with fail
  refine (G30.out _).mono ?_; rintro e w4 ⟨rfl, hK4⟩
  go_wp2_with fail
  refine (G24.out _).mono ?_; rintro e w5 ⟨rfl, hK5⟩
  go_wp2_with fail
  refine (G20.out _).mono ?_; rintro e w6 ⟨rfl, hK6⟩
  go_wp2_with fail
  refine (G16.out _).mono ?_; rintro e w7 ⟨rfl, hK7⟩
  replace H0 := Lib.hid ((((H0.out.trans hK4).trans hK5).trans hK6).trans hK7)
  replace X1 := Lib.hid ((((X1.out.kept hK4).kept hK5).kept hK6).kept hK7)
  clear hK4 hK5 hK6 hK7
  obtain ⟨j0, j1, j2, j3, j4, j5, j6⟩ := X1.out.cells
  clear j0 j1 j2 j3 j4 j5 j6
  obtain ⟨j0, j1, j2, j3, j4, j5, j6⟩ := X1.out.cells
  go_wp2_with fail
  clear j0 j1 j2 j3 j4 j5 j6
  have hK5 := (Kept.refl w7).drew
  refine wp_region_held_drew (S := fun w' => w'.cell? ⟨w2.heap.size, 0, none⟩ = some (.int .i64 7) ∧ w'.cell? ⟨w2.heap.size, 1, none⟩ = some (.int .i64 (op')) ∧ w'.cell? ⟨w2.heap.size, 2, none⟩ = some (.int .i64 (a')) ∧ w'.cell? ⟨w2.heap.size, 3, none⟩ = some (.int .i64 (b')) ∧ w'.cell? ⟨w2.heap.size, 4, none⟩ = some (.int .i64 (c')) ∧ w'.cell? ⟨w2.heap.size, 5, none⟩ = some (.int .i64 (i')) ∧ w'.cell? ⟨w2.heap.size, 6, none⟩ = some (.bool (u'))) (by kernel_rfl) ?_ (fun hHeld => ?_)
  · exact (X1.out.kept hK5).cells
  refine wpAnyH_take (i := 0) (oi := { dst := some 147, op := Op.move (Operand.tmp 7), type := 24, pos := "more.go:32", after := #[], guard := none }) (v := ?_) rfl (by kernel_rfl) (by kernel_rfl) (by kernel_rfl) (fun _ _ _ h => h) (Or.inl ⟨rfl, ?_⟩) hHeld ?_
  rotate_left
  · (intro w hSw; (try dsimp only at hSw); go_simp; try with_reducible rfl)
  try simp only [Act.put, List.setIfInBounds_toArray, List.set_cons_zero, List.set_cons_succ]
  refine wpAnyH_take (i := 1) (oi := { dst := some 148, op := Op.binOp BinOp.eql 24 (Operand.tmp 147) (Operand.const (Value.int IntKind.u32 3)) 24, type := 4, pos := "more.go:32", after := #[{ on := 0, ground := Ground.data }], guard := none }) (v := ?_) rfl (by kernel_rfl) (by kernel_rfl) (by kernel_rfl) (fun _ _ _ h => h) (Or.inl ⟨rfl, ?_⟩) hHeld ?_
  rotate_left
  · (intro w hSw; (try dsimp only at hSw); go_simp; try with_reducible rfl)
  try simp only [Act.put, List.setIfInBounds_toArray, List.set_cons_zero, List.set_cons_succ]
  refine wpAnyH_take (i := 2) (oi := { dst := some 149, op := Op.move (Operand.tmp 148), type := 4, pos := "more.go:32", after := #[{ on := 1, ground := Ground.data }], guard := none }) (v := ?_) rfl (by kernel_rfl) (by kernel_rfl) (by kernel_rfl) (fun _ _ _ h => h) (Or.inl ⟨rfl, ?_⟩) hHeld ?_
  rotate_left
  · (intro w hSw; (try dsimp only at hSw); go_simp; try with_reducible rfl)
  try simp only [Act.put, List.setIfInBounds_toArray, List.set_cons_zero, List.set_cons_succ]
  refine wpAnyH_take (i := 3) (oi := { dst := some 150, op := Op.move (Operand.tmp 8), type := 3, pos := "more.go:32", after := #[{ on := 2, ground := Ground.guard }], guard := some (2, true) }) (v := ?_) rfl (by kernel_rfl) (by kernel_rfl) (by kernel_rfl) (fun _ _ _ h => h) (Or.inl ⟨rfl, ?_⟩) hHeld ?_
  rotate_left
  · (intro w hSw; (try dsimp only at hSw); go_simp; try with_reducible rfl)
  try simp only [Act.put, List.setIfInBounds_toArray, List.set_cons_zero, List.set_cons_succ]
  refine wpAnyH_take (i := 4) (oi := { dst := some 151, op := Op.fieldAddr 23 (Operand.tmp 4) 1, type := 0, pos := "more.go:32", after := #[{ on := 2, ground := Ground.guard }], guard := some (2, true) }) (v := ?_) rfl (by kernel_rfl) (by kernel_rfl) (by kernel_rfl) (fun _ _ _ h => h) (Or.inl ⟨rfl, ?_⟩) hHeld ?_
  rotate_left
  · (intro w hSw; (try dsimp only at hSw); go_simp; try with_reducible rfl)
  try simp only [Act.put, List.setIfInBounds_toArray, List.set_cons_zero, List.set_cons_succ]
  refine wpAnyH_take (i := 5) (oi := { dst := some 152, op := Op.load 3 (Operand.tmp 151), type := 3, pos := "more.go:32", after := #[{ on := 4, ground := Ground.data }, { on := 2, ground := Ground.guard }], guard := some (2, true) }) (v := ?_) rfl (by kernel_rfl) (by kernel_rfl) (by kernel_rfl) (fun _ _ _ h => h) (Or.inl ⟨rfl, ?_⟩) hHeld ?_
  rotate_left
  · (intro w hSw; (try dsimp only at hSw); go_simp; try with_reducible rfl)
  try simp only [Act.put, List.setIfInBounds_toArray, List.set_cons_zero, List.set_cons_succ]
  refine wpAnyH_take (i := 6) (oi := { dst := some 153, op := Op.binOp BinOp.eql 3 (Operand.tmp 150) (Operand.tmp 152) 3, type := 4, pos := "more.go:32", after := #[{ on := 3, ground := Ground.data }, { on := 5, ground := Ground.data }, { on := 2, ground := Ground.guard }], guard := some (2, true) }) (v := ?_) rfl (by kernel_rfl) (by kernel_rfl) (by kernel_rfl) (fun _ _ _ h => h) (Or.inl ⟨rfl, ?_⟩) hHeld ?_
  rotate_left
  · (intro w hSw; (try dsimp only at hSw); go_simp; try with_reducible rfl)
  try simp only [Act.put, List.setIfInBounds_toArray, List.set_cons_zero, List.set_cons_succ]
  refine wpAnyH_take (i := 7) (oi := { dst := some 154, op := Op.pick (Operand.tmp 149) (Operand.tmp 153) (Operand.const (Value.bool false)), type := 4, pos := "more.go:32", after := #[{ on := 2, ground := Ground.data }, { on := 6, ground := Ground.data }], guard := none }) (v := ?_) rfl (by kernel_rfl) (by kernel_rfl) (by kernel_rfl) (fun _ _ _ h => h) (Or.inl ⟨rfl, ?_⟩) hHeld ?_
  rotate_left
  · (intro w hSw; (try dsimp only at hSw); go_simp; try with_reducible rfl)
  try simp only [Act.put, List.setIfInBounds_toArray, List.set_cons_zero, List.set_cons_succ]
  refine wpAnyH_take (i := 8) (oi := { dst := some 155, op := Op.move (Operand.tmp 154), type := 4, pos := "more.go:32", after := #[{ on := 7, ground := Ground.data }, { on := 2, ground := Ground.chain }], guard := none }) (v := ?_) rfl (by kernel_rfl) (by kernel_rfl) (by kernel_rfl) (fun _ _ _ h => h) (Or.inl ⟨rfl, ?_⟩) hHeld ?_
  rotate_left
  · (intro w hSw; (try dsimp only at hSw); go_simp; try with_reducible rfl)
  try simp only [Act.put, List.setIfInBounds_toArray, List.set_cons_zero, List.set_cons_succ]
  refine wpAnyH_take (i := 9) (oi := { dst := some 156, op := Op.move (Operand.tmp 5), type := 24, pos := "more.go:32", after := #[{ on := 8, ground := Ground.guard }], guard := some (8, true) }) (v := ?_) rfl (by kernel_rfl) (by kernel_rfl) (by kernel_rfl) (fun _ _ _ h => h) (Or.inl ⟨rfl, ?_⟩) hHeld ?_
  rotate_left
  · (intro w hSw; (try dsimp only at hSw); go_simp; try with_reducible rfl)
  try simp only [Act.put, List.setIfInBounds_toArray, List.set_cons_zero, List.set_cons_succ]
  refine wpAnyH_take (i := 11) (oi := { dst := some 158, op := Op.fieldAddr 23 (Operand.tmp 4) 5, type := 0, pos := "more.go:32", after := #[{ on := 8, ground := Ground.guard }], guard := some (8, true) }) (v := ?_) rfl (by kernel_rfl) (by kernel_rfl) (by kernel_rfl) (fun _ _ _ h => h) (Or.inl ⟨rfl, ?_⟩) hHeld ?_
  rotate_left
  · (intro w hSw; (try dsimp only at hSw); go_simp; try with_reducible rfl)
  try simp only [Act.put, List.setIfInBounds_toArray, List.set_cons_zero, List.set_cons_succ]
  refine wpAnyH_take (i := 12) (oi := { dst := some 159, op := Op.load 3 (Operand.tmp 158), type := 3, pos := "more.go:32", after := #[{ on := 11, ground := Ground.data }, { on := 8, ground := Ground.guard }], guard := some (8, true) }) (v := ?_) rfl (by kernel_rfl) (by kernel_rfl) (by kernel_rfl) (fun _ _ _ h => h) (Or.inl ⟨rfl, ?_⟩) hHeld ?_
  rotate_left
  · (intro w hSw; (try dsimp only at hSw); go_simp; try with_reducible rfl)
  try simp only [Act.put, List.setIfInBounds_toArray, List.set_cons_zero, List.set_cons_succ]
  refine wpAnyH_ready (rs := [10]) (by kernel_rfl) (by simp) ?_
  refine AllReadyH.cons (o := { dst := some 157, op := Op.call { callee := Callee.value (Operand.func 20), args := #[Operand.tmp 156, Operand.const (Value.int IntKind.i64 24)], argTypes := #[24, 3] }, type := 3, pos := "more.go:32", after := #[{ on := 9, ground := Ground.data }, { on := 8, ground := Ground.chain }, { on := 8, ground := Ground.guard }], guard := some (8, true) }) rfl (fun K hK => ?_) AllReadyH.nil
  go_simp
  go_at_call 20
  refine (QS.out _).mono ?_
  rintro e w9 ⟨rfl, rfl⟩
  clear hHeld
  refine hK.out _ _ ?_ (fun hHeld => ?_)
  · exact (X1.out.kept hK5).cells
  clear hK K
  try simp only [Act.put, List.setIfInBounds_toArray, List.set_cons_zero, List.set_cons_succ]
  refine wpAnyH_take (i := 13) (oi := { dst := some 160, op := Op.binOp BinOp.eql 3 (Operand.tmp 157) (Operand.tmp 159) 3, type := 4, pos := "more.go:32", after := #[{ on := 10, ground := Ground.data }, { on := 12, ground := Ground.data }, { on := 8, ground := Ground.guard }], guard := some (8, true) }) (v := ?_) rfl (by kernel_rfl) (by kernel_rfl) (by kernel_rfl) (fun _ _ _ h => h) (Or.inl ⟨rfl, ?_⟩) hHeld ?_
  rotate_left
  · (intro w hSw; (try dsimp only at hSw); go_simp; try with_reducible rfl)
  try simp only [Act.put, List.setIfInBounds_toArray, List.set_cons_zero, List.set_cons_succ]
  refine wpAnyH_take (i := 14) (oi := { dst := some 161, op := Op.pick (Operand.tmp 155) (Operand.tmp 160) (Operand.const (Value.bool false)), type := 4, pos := "more.go:32", after := #[{ on := 8, ground := Ground.data }, { on := 13, ground := Ground.data }], guard := none }) (v := ?_) rfl (by kernel_rfl) (by kernel_rfl) (by kernel_rfl) (fun _ _ _ h => h) (Or.inl ⟨rfl, ?_⟩) hHeld ?_
  rotate_left
  · (intro w hSw; (try dsimp only at hSw); go_simp; try with_reducible rfl)
  try simp only [Act.put, List.setIfInBounds_toArray, List.set_cons_zero, List.set_cons_succ]
  refine wpAnyH_take (i := 15) (oi := { dst := some 162, op := Op.move (Operand.tmp 161), type := 4, pos := "more.go:32", after := #[{ on := 14, ground := Ground.data }, { on := 10, ground := Ground.chain }], guard := none }) (v := ?_) rfl (by kernel_rfl) (by kernel_rfl) (by kernel_rfl) (fun _ _ _ h => h) (Or.inl ⟨rfl, ?_⟩) hHeld ?_
  rotate_left
  · (intro w hSw; (try dsimp only at hSw); go_simp; try with_reducible rfl)
  try simp only [Act.put, List.setIfInBounds_toArray, List.set_cons_zero, List.set_cons_succ]
  refine wpAnyH_take (i := 16) (oi := { dst := some 163, op := Op.move (Operand.tmp 5), type := 24, pos := "more.go:32", after := #[{ on := 15, ground := Ground.guard }], guard := some (15, true) }) (v := ?_) rfl (by kernel_rfl) (by kernel_rfl) (by kernel_rfl) (fun _ _ _ h => h) (Or.inl ⟨rfl, ?_⟩) hHeld ?_
  rotate_left
  · (intro w hSw; (try dsimp only at hSw); go_simp; try with_reducible rfl)
  try simp only [Act.put, List.setIfInBounds_toArray, List.set_cons_zero, List.set_cons_succ]
  refine wpAnyH_ready (rs := [17]) (by kernel_rfl) (by simp) ?_
  refine AllReadyH.cons (o := { dst := some 164, op := Op.call { callee := Callee.value (Operand.func 19), args := #[Operand.tmp 163, Operand.const (Value.int IntKind.i64 29), Operand.const (Value.int IntKind.i64 1)], argTypes := #[24, 3, 3] }, type := 24, pos := "more.go:32", after := #[{ on := 16, ground := Ground.data }, { on := 15, ground := Ground.chain }, { on := 15, ground := Ground.guard }], guard := some (15, true) }) rfl (fun K hK => ?_) AllReadyH.nil
  go_simp
  go_at_call 19
  refine (G29.out _).mono ?_
  rintro e w9 ⟨rfl, hK9⟩
  replace hK9 := hK5.trans hK9
  clear hK5
  have hK5 := hK9
  clear hK9
  clear hHeld
  refine hK.out _ _ ?_ (fun hHeld => ?_)
  · exact (X1.out.kept hK5).cells
  clear hK K
  try simp only [Act.put, List.setIfInBounds_toArray, List.set_cons_zero, List.set_cons_succ]
  refine wpAnyH_take (i := 18) (oi := { dst := some 165, op := Op.binOp BinOp.eql 24 (Operand.tmp 164) (Operand.const (Value.int IntKind.u32 1)) 24, type := 4, pos := "more.go:32", after := #[{ on := 17, ground := Ground.data }, { on := 15, ground := Ground.guard }], guard := some (15, true) }) (v := ?_) rfl (by kernel_rfl) (by kernel_rfl) (by kernel_rfl) (fun _ _ _ h => h) (Or.inl ⟨rfl, ?_⟩) hHeld ?_
  rotate_left
  · (intro w hSw; (try dsimp only at hSw); go_simp; try with_reducible rfl)
  try simp only [Act.put, List.setIfInBounds_toArray, List.set_cons_zero, List.set_cons_succ]
  refine wpAnyH_take (i := 19) (oi := { dst := some 166, op := Op.pick (Operand.tmp 162) (Operand.tmp 165) (Operand.const (Value.bool false)), type := 4, pos := "more.go:32", after := #[{ on := 15, ground := Ground.data }, { on := 18, ground := Ground.data }], guard := none }) (v := ?_) rfl (by kernel_rfl) (by kernel_rfl) (by kernel_rfl) (fun _ _ _ h => h) (Or.inl ⟨rfl, ?_⟩) hHeld ?_
  rotate_left
  · (intro w hSw; (try dsimp only at hSw); go_simp; try with_reducible rfl)
  try simp only [Act.put, List.setIfInBounds_toArray, List.set_cons_zero, List.set_cons_succ]
  refine wpAnyH_take (i := 20) (oi := { dst := some 2, op := Op.assign (Operand.tmp 166), type := 4, pos := "more.go:32", after := #[{ on := 19, ground := Ground.data }, { on := 17, ground := Ground.chain }, { on := 0, ground := Ground.phase }, { on := 1, ground := Ground.phase }, { on := 2, ground := Ground.phase }, { on := 3, ground := Ground.phase }, { on := 4, ground := Ground.phase }, { on := 5, ground := Ground.phase }, { on := 6, ground := Ground.phase }, { on := 7, ground := Ground.phase }, { on := 8, ground := Ground.phase }, { on := 9, ground := Ground.phase }, { on := 10, ground := Ground.phase }, { on := 11, ground := Ground.phase }, { on := 12, ground := Ground.phase }, { on := 13, ground := Ground.phase }, { on := 14, ground := Ground.phase }, { on := 15, ground := Ground.phase }, { on := 16, ground := Ground.phase }, { on := 17, ground := Ground.phase }, { on := 18, ground := Ground.phase }, { on := 19, ground := Ground.phase }], guard := none }) (v := ?_) rfl (by kernel_rfl) (by kernel_rfl) (by kernel_rfl) (fun _ _ _ h => h) (Or.inl ⟨rfl, ?_⟩) hHeld ?_
  rotate_left
  · (intro w hSw; (try dsimp only at hSw); go_simp; try with_reducible rfl)
  try simp only [Act.put, List.setIfInBounds_toArray, List.set_cons_zero, List.set_cons_succ]
  refine wpAnyH_done (by kernel_rfl) ?_ _
  go_wp2_with fail
  go_ret
  exact yesB (by simp) (H0.out.trans hK5)
end Go.Proofs.Ytliofphhoaopkaa
