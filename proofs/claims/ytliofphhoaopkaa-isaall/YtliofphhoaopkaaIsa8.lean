/-
  The contracts of readReg and read.
-/
import Derived.Test.YtliofphhoaopkaaIsa6
namespace Go.Proofs.Ytliofphhoaopkaa
open Go.RowKit
set_option linter.unusedVariables false
set_option linter.unusedSimpArgs false
set_option maxHeartbeats 2000000 in
theorem readReg_1 (x op a b c : Int) (u : Bool) (w : World) (hz : ¬ op = 0)
    (Cop : Hid (∀ w, Calls Try.prog 37 #[.int .u32 x, .int .i64 16, .int .i64 4] w fun e w' => e = .returned (.int .i64 op) ∧ Kept w w'))
    (Ca : Hid (∀ w, Calls Try.prog 37 #[.int .u32 x, .int .i64 24, .int .i64 4] w fun e w' => e = .returned (.int .i64 a) ∧ Kept w w'))
    (Cb : Hid (∀ w, Calls Try.prog 37 #[.int .u32 x, .int .i64 20, .int .i64 4] w fun e w' => e = .returned (.int .i64 b) ∧ Kept w w'))
    (Cc : Hid (∀ w, Calls Try.prog 37 #[.int .u32 x, .int .i64 0, .int .i64 4] w fun e w' => e = .returned (.int .i64 c) ∧ Kept w w'))
    (Cu : Hid (∀ w, Calls Try.prog 39 #[.int .u32 x, .int .i64 29] w fun e w' => e = .returned (.bool u) ∧ Kept w w')) :
    Calls Try.prog 36 #[.int .u32 x] w fun e w' => e = .returned (.agg #[.int .i64 1, .int .i64 op, .int .i64 a, .int .i64 b, .int .i64 c, .int .i64 0, .bool u]) ∧ Kept w w' := by
  have X1 := Lib.hid (Box.new 0 0 0 0 0 0 false w)
  have HB := Lib.hid (show Kept w (w.alloc (.cells #[.int .i64 0, .int .i64 0, .int .i64 0, .int .i64 0, .int .i64 0, .int .i64 0, .bool false] 23)) from (Kept.refl w).alloc _ _)
  have HL := Lib.hid (show w.heap.size < (w.alloc (.cells #[.int .i64 0, .int .i64 0, .int .i64 0, .int .i64 0, .int .i64 0, .int .i64 0, .bool false] 23)).heap.size from by simp)
  go_enter Try.func36, Try.ntmps36
  go_wp2_with fail
  refine (Cop.out _).mono ?_; rintro e w1 ⟨rfl, hK1⟩
  go_wp2_with fail
  refine (Ca.out _).mono ?_; rintro e w2 ⟨rfl, hK2⟩
  go_wp2_with fail
  refine (Cb.out _).mono ?_; rintro e w3 ⟨rfl, hK3⟩
  go_wp2_with fail
  refine (Cc.out _).mono ?_; rintro e w4 ⟨rfl, hK4⟩
  go_wp2_with fail
  refine (Cu.out _).mono ?_; rintro e w5 ⟨rfl, hK5⟩
  have HK := Lib.hid ((((hK1.trans hK2).trans hK3).trans hK4).trans hK5)
  clear hK1 hK2 hK3 hK4 hK5
  have HN := Lib.hid (show w.heap.size ≠ w5.heap.size from by have := HK.out.size; have := HL.out; omega)
  go_upto_region 2 with (fail)
  have XI := Box.new 1 op a b c 0 u w5
  have XZ := (X1.out.kept HK.out).alloc (.cells #[.int .i64 1, .int .i64 op, .int .i64 a, .int .i64 b, .int .i64 c, .int .i64 0, .bool u] 23)
  have KK := (HB.out.trans HK.out).alloc #[.int .i64 1, .int .i64 op, .int .i64 a, .int .i64 b, .int .i64 c, .int .i64 0, .bool u] 23
  generalize (w5.alloc (.cells #[.int .i64 1, .int .i64 op, .int .i64 a, .int .i64 b, .int .i64 c, .int .i64 0, .bool u] 23)) = w6 at XI XZ KK ⊢
  generalize w5.heap.size = B2 at HN XI ⊢
  have HI := Lib.hid XI
  have HZ := Lib.hid XZ
  have HKK := Lib.hid KK
  clear HK X1 HB HL XI XZ KK
  obtain ⟨i0, i1, i2, i3, i4, i5, i6⟩ := HI.out.cells
  obtain ⟨z0, z1, z2, z3, z4, z5, z6⟩ := (HZ.out).cells
  obtain ⟨f0, f1, f2, f3, f4, f5, f6⟩ := (HZ.out).free
  have R := Lib.hid ((HZ.out).stored (k' := 1) (op' := op) (a' := a) (b' := b) (c' := c) (i' := 0) (u' := u))
  have RK := Lib.hid ((HKK.out).store7 (B' := w.heap.size) (by omega) (1) (op) (a) (b) (c) (0) (u))
  go_wp2_with fail
  clear z0 z1 z2 z3 z4 z5 z6 f0 f1 f2 f3 f4 f5 f6
  have R := R.out
  have RK := RK.out
  unfold store7 at R RK
  generalize (((((((w6.setCell ⟨w.heap.size, 0, none⟩ (.int .i64 (1))).setCell ⟨w.heap.size, 1, none⟩ (.int .i64 (op))).setCell ⟨w.heap.size, 2, none⟩ (.int .i64 (a))).setCell ⟨w.heap.size, 3, none⟩ (.int .i64 (b))).setCell ⟨w.heap.size, 4, none⟩ (.int .i64 (c))).setCell ⟨w.heap.size, 5, none⟩ (.int .i64 (0))).setCell ⟨w.heap.size, 6, none⟩ (.bool (u))) = w9 at R RK ⊢
  obtain ⟨r0, r1, r2, r3, r4, r5, r6⟩ := R.cells
  exact bodyPost_ret (v := .agg #[.int .i64 1, .int .i64 op, .int .i64 a, .int .i64 b, .int .i64 c, .int .i64 0, .bool u]) (by simp [results, Try.results36, go_sem, r0, r1, r2, r3, r4, r5, r6]) rfl ⟨rfl, RK⟩
set_option maxHeartbeats 2000000 in
theorem readReg_2 (x a b c : Int) (w : World)
    (Cop : Hid (∀ w, Calls Try.prog 37 #[.int .u32 x, .int .i64 16, .int .i64 4] w fun e w' => e = .returned (.int .i64 0) ∧ Kept w w'))
    (Ca : Hid (∀ w, Calls Try.prog 37 #[.int .u32 x, .int .i64 24, .int .i64 4] w fun e w' => e = .returned (.int .i64 a) ∧ Kept w w'))
    (Cb : Hid (∀ w, Calls Try.prog 37 #[.int .u32 x, .int .i64 20, .int .i64 4] w fun e w' => e = .returned (.int .i64 b) ∧ Kept w w'))
    (Cc : Hid (∀ w, Calls Try.prog 37 #[.int .u32 x, .int .i64 0, .int .i64 4] w fun e w' => e = .returned (.int .i64 c) ∧ Kept w w'))
    (Cu : Hid (∀ w, Calls Try.prog 39 #[.int .u32 x, .int .i64 29] w fun e w' => e = .returned (.bool false) ∧ Kept w w')) :
    Calls Try.prog 36 #[.int .u32 x] w fun e w' => e = .returned (.agg #[.int .i64 1, .int .i64 0, .int .i64 a, .int .i64 b, .int .i64 c, .int .i64 0, .bool false]) ∧ Kept w w' := by
  have X1 := Lib.hid (Box.new 0 0 0 0 0 0 false w)
  have HB := Lib.hid (show Kept w (w.alloc (.cells #[.int .i64 0, .int .i64 0, .int .i64 0, .int .i64 0, .int .i64 0, .int .i64 0, .bool false] 23)) from (Kept.refl w).alloc _ _)
  have HL := Lib.hid (show w.heap.size < (w.alloc (.cells #[.int .i64 0, .int .i64 0, .int .i64 0, .int .i64 0, .int .i64 0, .int .i64 0, .bool false] 23)).heap.size from by simp)
  go_enter Try.func36, Try.ntmps36
  go_wp2_with fail
  refine (Cop.out _).mono ?_; rintro e w1 ⟨rfl, hK1⟩
  go_wp2_with fail
  refine (Ca.out _).mono ?_; rintro e w2 ⟨rfl, hK2⟩
  go_wp2_with fail
  refine (Cb.out _).mono ?_; rintro e w3 ⟨rfl, hK3⟩
  go_wp2_with fail
  refine (Cc.out _).mono ?_; rintro e w4 ⟨rfl, hK4⟩
  go_wp2_with fail
  refine (Cu.out _).mono ?_; rintro e w5 ⟨rfl, hK5⟩
  have HK := Lib.hid ((((hK1.trans hK2).trans hK3).trans hK4).trans hK5)
  clear hK1 hK2 hK3 hK4 hK5
  have HN := Lib.hid (show w.heap.size ≠ w5.heap.size from by have := HK.out.size; have := HL.out; omega)
  go_upto_region 2 with (fail)
  have XI := Box.new 1 0 a b c 0 false w5
  have XZ := (X1.out.kept HK.out).alloc (.cells #[.int .i64 1, .int .i64 0, .int .i64 a, .int .i64 b, .int .i64 c, .int .i64 0, .bool false] 23)
  have KK := (HB.out.trans HK.out).alloc #[.int .i64 1, .int .i64 0, .int .i64 a, .int .i64 b, .int .i64 c, .int .i64 0, .bool false] 23
  generalize (w5.alloc (.cells #[.int .i64 1, .int .i64 0, .int .i64 a, .int .i64 b, .int .i64 c, .int .i64 0, .bool false] 23)) = w6 at XI XZ KK ⊢
  generalize w5.heap.size = B2 at HN XI ⊢
  have HI := Lib.hid XI
  have HZ := Lib.hid XZ
  have HKK := Lib.hid KK
  clear HK X1 HB HL XI XZ KK
  obtain ⟨i0, i1, i2, i3, i4, i5, i6⟩ := HI.out.cells
  obtain ⟨z0, z1, z2, z3, z4, z5, z6⟩ := (HZ.out).cells
  obtain ⟨f0, f1, f2, f3, f4, f5, f6⟩ := (HZ.out).free
  have R := Lib.hid ((HZ.out).stored (k' := 1) (op' := 0) (a' := a) (b' := b) (c' := c) (i' := 0) (u' := false))
  have RK := Lib.hid ((HKK.out).store7 (B' := w.heap.size) (by omega) (1) (0) (a) (b) (c) (0) (false))
  go_wp2_with fail
  clear z0 z1 z2 z3 z4 z5 z6 f0 f1 f2 f3 f4 f5 f6
  have R := R.out
  have RK := RK.out
  unfold store7 at R RK
  generalize (((((((w6.setCell ⟨w.heap.size, 0, none⟩ (.int .i64 (1))).setCell ⟨w.heap.size, 1, none⟩ (.int .i64 (0))).setCell ⟨w.heap.size, 2, none⟩ (.int .i64 (a))).setCell ⟨w.heap.size, 3, none⟩ (.int .i64 (b))).setCell ⟨w.heap.size, 4, none⟩ (.int .i64 (c))).setCell ⟨w.heap.size, 5, none⟩ (.int .i64 (0))).setCell ⟨w.heap.size, 6, none⟩ (.bool (false))) = w9 at R RK ⊢
  obtain ⟨r0, r1, r2, r3, r4, r5, r6⟩ := R.cells
  exact bodyPost_ret (v := .agg #[.int .i64 1, .int .i64 0, .int .i64 a, .int .i64 b, .int .i64 c, .int .i64 0, .bool false]) (by simp [results, Try.results36, go_sem, r0, r1, r2, r3, r4, r5, r6]) rfl ⟨rfl, RK⟩
set_option maxHeartbeats 2000000 in
theorem readReg_3 (x a b c : Int) (w : World)
    (Cop : Hid (∀ w, Calls Try.prog 37 #[.int .u32 x, .int .i64 16, .int .i64 4] w fun e w' => e = .returned (.int .i64 0) ∧ Kept w w'))
    (Ca : Hid (∀ w, Calls Try.prog 37 #[.int .u32 x, .int .i64 24, .int .i64 4] w fun e w' => e = .returned (.int .i64 a) ∧ Kept w w'))
    (Cb : Hid (∀ w, Calls Try.prog 37 #[.int .u32 x, .int .i64 20, .int .i64 4] w fun e w' => e = .returned (.int .i64 b) ∧ Kept w w'))
    (Cc : Hid (∀ w, Calls Try.prog 37 #[.int .u32 x, .int .i64 0, .int .i64 4] w fun e w' => e = .returned (.int .i64 c) ∧ Kept w w'))
    (Cu : Hid (∀ w, Calls Try.prog 39 #[.int .u32 x, .int .i64 29] w fun e w' => e = .returned (.bool true) ∧ Kept w w'))
    (Cv : Hid (∀ w, Calls Try.prog 39 #[.int .u32 x, .int .i64 28] w fun e w' => e = .returned (.bool false) ∧ Kept w w')) :
    Calls Try.prog 36 #[.int .u32 x] w fun e w' => e = .returned (.agg #[.int .i64 3, .int .i64 0, .int .i64 a, .int .i64 0, .int .i64 0, .int .i64 0, .bool false]) ∧ Kept w w' := by
  have X1 := Lib.hid (Box.new 0 0 0 0 0 0 false w)
  have HB := Lib.hid (show Kept w (w.alloc (.cells #[.int .i64 0, .int .i64 0, .int .i64 0, .int .i64 0, .int .i64 0, .int .i64 0, .bool false] 23)) from (Kept.refl w).alloc _ _)
  have HL := Lib.hid (show w.heap.size < (w.alloc (.cells #[.int .i64 0, .int .i64 0, .int .i64 0, .int .i64 0, .int .i64 0, .int .i64 0, .bool false] 23)).heap.size from by simp)
  go_enter Try.func36, Try.ntmps36
  go_wp2_with fail
  refine (Cop.out _).mono ?_; rintro e w1 ⟨rfl, hK1⟩
  go_wp2_with fail
  refine (Ca.out _).mono ?_; rintro e w2 ⟨rfl, hK2⟩
  go_wp2_with fail
  refine (Cb.out _).mono ?_; rintro e w3 ⟨rfl, hK3⟩
  go_wp2_with fail
  refine (Cc.out _).mono ?_; rintro e w4 ⟨rfl, hK4⟩
  go_wp2_with fail
  refine (Cu.out _).mono ?_; rintro e w5 ⟨rfl, hK5⟩
  have HK := Lib.hid ((((hK1.trans hK2).trans hK3).trans hK4).trans hK5)
  clear hK1 hK2 hK3 hK4 hK5
  have HN := Lib.hid (show w.heap.size ≠ w5.heap.size from by have := HK.out.size; have := HL.out; omega)
  go_upto_region 2 with (fail)
  have XI := Box.new 1 0 a b c 0 true w5
  have XZ := (X1.out.kept HK.out).alloc (.cells #[.int .i64 1, .int .i64 0, .int .i64 a, .int .i64 b, .int .i64 c, .int .i64 0, .bool true] 23)
  have KK := (HB.out.trans HK.out).alloc #[.int .i64 1, .int .i64 0, .int .i64 a, .int .i64 b, .int .i64 c, .int .i64 0, .bool true] 23
  generalize (w5.alloc (.cells #[.int .i64 1, .int .i64 0, .int .i64 a, .int .i64 b, .int .i64 c, .int .i64 0, .bool true] 23)) = w6 at XI XZ KK ⊢
  generalize w5.heap.size = B2 at HN XI ⊢
  have HI := Lib.hid XI
  have HZ := Lib.hid XZ
  have HKK := Lib.hid KK
  clear HK X1 HB HL XI XZ KK
  obtain ⟨i0, i1, i2, i3, i4, i5, i6⟩ := HI.out.cells
  go_wp2_with fail
  refine (Cv.out _).mono ?_; rintro e w7 ⟨rfl, hK6⟩
  clear i0 i1 i2 i3 i4 i5 i6
  obtain ⟨i0, i1, i2, i3, i4, i5, i6⟩ := (HI.out.kept hK6).cells
  obtain ⟨z0, z1, z2, z3, z4, z5, z6⟩ := (HZ.out.kept hK6).cells
  obtain ⟨f0, f1, f2, f3, f4, f5, f6⟩ := (HZ.out.kept hK6).free
  have R := Lib.hid ((HZ.out.kept hK6).stored (k' := 3) (op' := 0) (a' := a) (b' := 0) (c' := 0) (i' := 0) (u' := false))
  have RK := Lib.hid ((HKK.out.trans hK6).store7 (B' := w.heap.size) (by omega) (3) (0) (a) (0) (0) (0) (false))
  go_wp2_with fail
  clear z0 z1 z2 z3 z4 z5 z6 f0 f1 f2 f3 f4 f5 f6
  have R := R.out
  have RK := RK.out
  unfold store7 at R RK
  generalize (((((((w7.setCell ⟨w.heap.size, 0, none⟩ (.int .i64 (3))).setCell ⟨w.heap.size, 1, none⟩ (.int .i64 (0))).setCell ⟨w.heap.size, 2, none⟩ (.int .i64 (a))).setCell ⟨w.heap.size, 3, none⟩ (.int .i64 (0))).setCell ⟨w.heap.size, 4, none⟩ (.int .i64 (0))).setCell ⟨w.heap.size, 5, none⟩ (.int .i64 (0))).setCell ⟨w.heap.size, 6, none⟩ (.bool (false))) = w9 at R RK ⊢
  obtain ⟨r0, r1, r2, r3, r4, r5, r6⟩ := R.cells
  exact bodyPost_ret (v := .agg #[.int .i64 3, .int .i64 0, .int .i64 a, .int .i64 0, .int .i64 0, .int .i64 0, .bool false]) (by simp [results, Try.results36, go_sem, r0, r1, r2, r3, r4, r5, r6]) rfl ⟨rfl, RK⟩
set_option maxHeartbeats 2000000 in
theorem readReg_4 (x a b c : Int) (w : World)
    (Cop : Hid (∀ w, Calls Try.prog 37 #[.int .u32 x, .int .i64 16, .int .i64 4] w fun e w' => e = .returned (.int .i64 0) ∧ Kept w w'))
    (Ca : Hid (∀ w, Calls Try.prog 37 #[.int .u32 x, .int .i64 24, .int .i64 4] w fun e w' => e = .returned (.int .i64 a) ∧ Kept w w'))
    (Cb : Hid (∀ w, Calls Try.prog 37 #[.int .u32 x, .int .i64 20, .int .i64 4] w fun e w' => e = .returned (.int .i64 b) ∧ Kept w w'))
    (Cc : Hid (∀ w, Calls Try.prog 37 #[.int .u32 x, .int .i64 0, .int .i64 4] w fun e w' => e = .returned (.int .i64 c) ∧ Kept w w'))
    (Cu : Hid (∀ w, Calls Try.prog 39 #[.int .u32 x, .int .i64 29] w fun e w' => e = .returned (.bool true) ∧ Kept w w'))
    (Cv : Hid (∀ w, Calls Try.prog 39 #[.int .u32 x, .int .i64 28] w fun e w' => e = .returned (.bool true) ∧ Kept w w')) :
    Calls Try.prog 36 #[.int .u32 x] w fun e w' => e = .returned (.agg #[.int .i64 4, .int .i64 0, .int .i64 a, .int .i64 0, .int .i64 0, .int .i64 0, .bool false]) ∧ Kept w w' := by
  have X1 := Lib.hid (Box.new 0 0 0 0 0 0 false w)
  have HB := Lib.hid (show Kept w (w.alloc (.cells #[.int .i64 0, .int .i64 0, .int .i64 0, .int .i64 0, .int .i64 0, .int .i64 0, .bool false] 23)) from (Kept.refl w).alloc _ _)
  have HL := Lib.hid (show w.heap.size < (w.alloc (.cells #[.int .i64 0, .int .i64 0, .int .i64 0, .int .i64 0, .int .i64 0, .int .i64 0, .bool false] 23)).heap.size from by simp)
  go_enter Try.func36, Try.ntmps36
  go_wp2_with fail
  refine (Cop.out _).mono ?_; rintro e w1 ⟨rfl, hK1⟩
  go_wp2_with fail
  refine (Ca.out _).mono ?_; rintro e w2 ⟨rfl, hK2⟩
  go_wp2_with fail
  refine (Cb.out _).mono ?_; rintro e w3 ⟨rfl, hK3⟩
  go_wp2_with fail
  refine (Cc.out _).mono ?_; rintro e w4 ⟨rfl, hK4⟩
  go_wp2_with fail
  refine (Cu.out _).mono ?_; rintro e w5 ⟨rfl, hK5⟩
  have HK := Lib.hid ((((hK1.trans hK2).trans hK3).trans hK4).trans hK5)
  clear hK1 hK2 hK3 hK4 hK5
  have HN := Lib.hid (show w.heap.size ≠ w5.heap.size from by have := HK.out.size; have := HL.out; omega)
  go_upto_region 2 with (fail)
  have XI := Box.new 1 0 a b c 0 true w5
  have XZ := (X1.out.kept HK.out).alloc (.cells #[.int .i64 1, .int .i64 0, .int .i64 a, .int .i64 b, .int .i64 c, .int .i64 0, .bool true] 23)
  have KK := (HB.out.trans HK.out).alloc #[.int .i64 1, .int .i64 0, .int .i64 a, .int .i64 b, .int .i64 c, .int .i64 0, .bool true] 23
  generalize (w5.alloc (.cells #[.int .i64 1, .int .i64 0, .int .i64 a, .int .i64 b, .int .i64 c, .int .i64 0, .bool true] 23)) = w6 at XI XZ KK ⊢
  generalize w5.heap.size = B2 at HN XI ⊢
  have HI := Lib.hid XI
  have HZ := Lib.hid XZ
  have HKK := Lib.hid KK
  clear HK X1 HB HL XI XZ KK
  obtain ⟨i0, i1, i2, i3, i4, i5, i6⟩ := HI.out.cells
  go_wp2_with fail
  refine (Cv.out _).mono ?_; rintro e w7 ⟨rfl, hK6⟩
  clear i0 i1 i2 i3 i4 i5 i6
  obtain ⟨i0, i1, i2, i3, i4, i5, i6⟩ := (HI.out.kept hK6).cells
  obtain ⟨z0, z1, z2, z3, z4, z5, z6⟩ := (HZ.out.kept hK6).cells
  obtain ⟨f0, f1, f2, f3, f4, f5, f6⟩ := (HZ.out.kept hK6).free
  have R := Lib.hid ((HZ.out.kept hK6).stored (k' := 4) (op' := 0) (a' := a) (b' := 0) (c' := 0) (i' := 0) (u' := false))
  have RK := Lib.hid ((HKK.out.trans hK6).store7 (B' := w.heap.size) (by omega) (4) (0) (a) (0) (0) (0) (false))
  go_wp2_with fail
  clear z0 z1 z2 z3 z4 z5 z6 f0 f1 f2 f3 f4 f5 f6
  have R := R.out
  have RK := RK.out
  unfold store7 at R RK
  generalize (((((((w7.setCell ⟨w.heap.size, 0, none⟩ (.int .i64 (4))).setCell ⟨w.heap.size, 1, none⟩ (.int .i64 (0))).setCell ⟨w.heap.size, 2, none⟩ (.int .i64 (a))).setCell ⟨w.heap.size, 3, none⟩ (.int .i64 (0))).setCell ⟨w.heap.size, 4, none⟩ (.int .i64 (0))).setCell ⟨w.heap.size, 5, none⟩ (.int .i64 (0))).setCell ⟨w.heap.size, 6, none⟩ (.bool (false))) = w9 at R RK ⊢
  obtain ⟨r0, r1, r2, r3, r4, r5, r6⟩ := R.cells
  exact bodyPost_ret (v := .agg #[.int .i64 4, .int .i64 0, .int .i64 a, .int .i64 0, .int .i64 0, .int .i64 0, .bool false]) (by simp [results, Try.results36, go_sem, r0, r1, r2, r3, r4, r5, r6]) rfl ⟨rfl, RK⟩
set_option maxHeartbeats 2000000 in
theorem read_0 (x k op a b c i : Int) (u : Bool) (w : World)
    (C0 : Hid (∀ w, Calls Try.prog 19 #[.int .u32 x, .int .i64 30, .int .i64 2] w fun e w' => e = .returned (.int .u32 0) ∧ Kept w w'))
    (CR : Hid (∀ w, Calls Try.prog 36 #[.int .u32 x] w fun e w' => e = .returned (.agg #[.int .i64 k, .int .i64 op, .int .i64 a, .int .i64 b, .int .i64 c, .int .i64 i, .bool u]) ∧ Kept w w')) :
    Calls Try.prog 23 #[.int .u32 x] w fun e w' => e = .returned (.agg #[.int .i64 k, .int .i64 op, .int .i64 a, .int .i64 b, .int .i64 c, .int .i64 i, .bool u]) ∧ Kept w w' := by
  have X1 := Lib.hid (Box.new 0 0 0 0 0 0 false w)
  have HB := Lib.hid (show Kept w (w.alloc (.cells #[.int .i64 0, .int .i64 0, .int .i64 0, .int .i64 0, .int .i64 0, .int .i64 0, .bool false] 23)) from (Kept.refl w).alloc _ _)
  go_enter Try.func23, Try.ntmps23
  go_wp2_with fail
  refine (C0.out _).mono ?_; rintro e w0 ⟨rfl, hK0⟩
  have HK := Lib.hid hK0
  clear hK0
  go_wp2_with fail
  refine (CR.out _).mono ?_; rintro e w1 ⟨rfl, hK1⟩
  replace HK := Lib.hid (HK.out.trans hK1)
  clear hK1
  obtain ⟨z0, z1, z2, z3, z4, z5, z6⟩ := (X1.out.kept HK.out).cells
  obtain ⟨f0, f1, f2, f3, f4, f5, f6⟩ := (X1.out.kept HK.out).free
  have R := Lib.hid ((X1.out.kept HK.out).stored (k' := k) (op' := op) (a' := a) (b' := b) (c' := c) (i' := i) (u' := u))
  have RK := Lib.hid ((HB.out.trans HK.out).store7 (B' := w.heap.size) (by omega) (k) (op) (a) (b) (c) (i) (u))
  go_wp2_with fail
  clear z0 z1 z2 z3 z4 z5 z6 f0 f1 f2 f3 f4 f5 f6
  have R := R.out
  have RK := RK.out
  unfold store7 at R RK
  generalize (((((((w1.setCell ⟨w.heap.size, 0, none⟩ (.int .i64 (k))).setCell ⟨w.heap.size, 1, none⟩ (.int .i64 (op))).setCell ⟨w.heap.size, 2, none⟩ (.int .i64 (a))).setCell ⟨w.heap.size, 3, none⟩ (.int .i64 (b))).setCell ⟨w.heap.size, 4, none⟩ (.int .i64 (c))).setCell ⟨w.heap.size, 5, none⟩ (.int .i64 (i))).setCell ⟨w.heap.size, 6, none⟩ (.bool (u))) = w9 at R RK ⊢
  obtain ⟨r0, r1, r2, r3, r4, r5, r6⟩ := R.cells
  exact bodyPost_ret (v := .agg #[.int .i64 k, .int .i64 op, .int .i64 a, .int .i64 b, .int .i64 c, .int .i64 i, .bool u]) (by simp [results, Try.results23, go_sem, r0, r1, r2, r3, r4, r5, r6]) rfl ⟨rfl, RK⟩
set_option maxHeartbeats 2000000 in
theorem read_1 (x op a b i : Int) (u : Bool) (w : World)
    (C0 : Hid (∀ w, Calls Try.prog 19 #[.int .u32 x, .int .i64 30, .int .i64 2] w fun e w' => e = .returned (.int .u32 1) ∧ Kept w w'))
    (Cop : Hid (∀ w, Calls Try.prog 37 #[.int .u32 x, .int .i64 16, .int .i64 4] w fun e w' => e = .returned (.int .i64 op) ∧ Kept w w'))
    (Ca : Hid (∀ w, Calls Try.prog 37 #[.int .u32 x, .int .i64 24, .int .i64 4] w fun e w' => e = .returned (.int .i64 a) ∧ Kept w w'))
    (Cb : Hid (∀ w, Calls Try.prog 37 #[.int .u32 x, .int .i64 20, .int .i64 4] w fun e w' => e = .returned (.int .i64 b) ∧ Kept w w'))
    (Ci : Hid (∀ w, Calls Try.prog 38 #[.int .u32 x] w fun e w' => e = .returned (.int .i64 i) ∧ Kept w w'))
    (Cu : Hid (∀ w, Calls Try.prog 39 #[.int .u32 x, .int .i64 29] w fun e w' => e = .returned (.bool u) ∧ Kept w w')) :
    Calls Try.prog 23 #[.int .u32 x] w fun e w' => e = .returned (.agg #[.int .i64 2, .int .i64 op, .int .i64 a, .int .i64 b, .int .i64 0, .int .i64 i, .bool u]) ∧ Kept w w' := by
  have X1 := Lib.hid (Box.new 0 0 0 0 0 0 false w)
  have HB := Lib.hid (show Kept w (w.alloc (.cells #[.int .i64 0, .int .i64 0, .int .i64 0, .int .i64 0, .int .i64 0, .int .i64 0, .bool false] 23)) from (Kept.refl w).alloc _ _)
  go_enter Try.func23, Try.ntmps23
  go_wp2_with fail
  refine (C0.out _).mono ?_; rintro e w0 ⟨rfl, hK0⟩
  have HK := Lib.hid hK0
  clear hK0
  go_wp2_with fail
  refine (Cop.out _).mono ?_; rintro e w1 ⟨rfl, hK1⟩
  replace HK := Lib.hid (HK.out.trans hK1)
  clear hK1
  go_wp2_with fail
  refine (Ca.out _).mono ?_; rintro e w2 ⟨rfl, hK1⟩
  replace HK := Lib.hid (HK.out.trans hK1)
  clear hK1
  go_wp2_with fail
  refine (Cb.out _).mono ?_; rintro e w3 ⟨rfl, hK1⟩
  replace HK := Lib.hid (HK.out.trans hK1)
  clear hK1
  go_wp2_with fail
  refine (Ci.out _).mono ?_; rintro e w4 ⟨rfl, hK1⟩
  replace HK := Lib.hid (HK.out.trans hK1)
  clear hK1
  go_wp2_with fail
  refine (Cu.out _).mono ?_; rintro e w5 ⟨rfl, hK1⟩
  replace HK := Lib.hid (HK.out.trans hK1)
  clear hK1
  obtain ⟨z0, z1, z2, z3, z4, z5, z6⟩ := (X1.out.kept HK.out).cells
  obtain ⟨f0, f1, f2, f3, f4, f5, f6⟩ := (X1.out.kept HK.out).free
  have R := Lib.hid ((X1.out.kept HK.out).stored (k' := 2) (op' := op) (a' := a) (b' := b) (c' := 0) (i' := i) (u' := u))
  have RK := Lib.hid ((HB.out.trans HK.out).store7 (B' := w.heap.size) (by omega) (2) (op) (a) (b) (0) (i) (u))
  go_wp2_with fail
  clear z0 z1 z2 z3 z4 z5 z6 f0 f1 f2 f3 f4 f5 f6
  have R := R.out
  have RK := RK.out
  unfold store7 at R RK
  generalize (((((((w5.setCell ⟨w.heap.size, 0, none⟩ (.int .i64 (2))).setCell ⟨w.heap.size, 1, none⟩ (.int .i64 (op))).setCell ⟨w.heap.size, 2, none⟩ (.int .i64 (a))).setCell ⟨w.heap.size, 3, none⟩ (.int .i64 (b))).setCell ⟨w.heap.size, 4, none⟩ (.int .i64 (0))).setCell ⟨w.heap.size, 5, none⟩ (.int .i64 (i))).setCell ⟨w.heap.size, 6, none⟩ (.bool (u))) = w9 at R RK ⊢
  obtain ⟨r0, r1, r2, r3, r4, r5, r6⟩ := R.cells
  exact bodyPost_ret (v := .agg #[.int .i64 2, .int .i64 op, .int .i64 a, .int .i64 b, .int .i64 0, .int .i64 i, .bool u]) (by simp [results, Try.results23, go_sem, r0, r1, r2, r3, r4, r5, r6]) rfl ⟨rfl, RK⟩
set_option maxHeartbeats 2000000 in
theorem read_2 (x op a b i : Int) (w : World)
    (C0 : Hid (∀ w, Calls Try.prog 19 #[.int .u32 x, .int .i64 30, .int .i64 2] w fun e w' => e = .returned (.int .u32 2) ∧ Kept w w'))
    (Cop : Hid (∀ w, Calls Try.prog 37 #[.int .u32 x, .int .i64 28, .int .i64 2] w fun e w' => e = .returned (.int .i64 op) ∧ Kept w w'))
    (Ca : Hid (∀ w, Calls Try.prog 37 #[.int .u32 x, .int .i64 24, .int .i64 4] w fun e w' => e = .returned (.int .i64 a) ∧ Kept w w'))
    (Cb : Hid (∀ w, Calls Try.prog 37 #[.int .u32 x, .int .i64 20, .int .i64 4] w fun e w' => e = .returned (.int .i64 b) ∧ Kept w w'))
    (Ci : Hid (∀ w, Calls Try.prog 20 #[.int .u32 x, .int .i64 20] w fun e w' => e = .returned (.int .i64 i) ∧ w = w')) :
    Calls Try.prog 23 #[.int .u32 x] w fun e w' => e = .returned (.agg #[.int .i64 5, .int .i64 op, .int .i64 a, .int .i64 b, .int .i64 0, .int .i64 i, .bool false]) ∧ Kept w w' := by
  have X1 := Lib.hid (Box.new 0 0 0 0 0 0 false w)
  have HB := Lib.hid (show Kept w (w.alloc (.cells #[.int .i64 0, .int .i64 0, .int .i64 0, .int .i64 0, .int .i64 0, .int .i64 0, .bool false] 23)) from (Kept.refl w).alloc _ _)
  go_enter Try.func23, Try.ntmps23
  go_wp2_with fail
  refine (C0.out _).mono ?_; rintro e w0 ⟨rfl, hK0⟩
  have HK := Lib.hid hK0
  clear hK0
  go_wp2_with fail
  refine (Cop.out _).mono ?_; rintro e w1 ⟨rfl, hK1⟩
  replace HK := Lib.hid (HK.out.trans hK1)
  clear hK1
  go_wp2_with fail
  refine (Ca.out _).mono ?_; rintro e w2 ⟨rfl, hK1⟩
  replace HK := Lib.hid (HK.out.trans hK1)
  clear hK1
  go_wp2_with fail
  refine (Cb.out _).mono ?_; rintro e w3 ⟨rfl, hK1⟩
  replace HK := Lib.hid (HK.out.trans hK1)
  clear hK1
  go_wp2_with fail
  refine (Ci.out _).mono ?_; rintro e w' ⟨rfl, rfl⟩
  obtain ⟨z0, z1, z2, z3, z4, z5, z6⟩ := (X1.out.kept HK.out).cells
  obtain ⟨f0, f1, f2, f3, f4, f5, f6⟩ := (X1.out.kept HK.out).free
  have R := Lib.hid ((X1.out.kept HK.out).stored (k' := 5) (op' := op) (a' := a) (b' := b) (c' := 0) (i' := i) (u' := false))
  have RK := Lib.hid ((HB.out.trans HK.out).store7 (B' := w.heap.size) (by omega) (5) (op) (a) (b) (0) (i) (false))
  go_wp2_with fail
  clear z0 z1 z2 z3 z4 z5 z6 f0 f1 f2 f3 f4 f5 f6
  have R := R.out
  have RK := RK.out
  unfold store7 at R RK
  generalize (((((((w3.setCell ⟨w.heap.size, 0, none⟩ (.int .i64 (5))).setCell ⟨w.heap.size, 1, none⟩ (.int .i64 (op))).setCell ⟨w.heap.size, 2, none⟩ (.int .i64 (a))).setCell ⟨w.heap.size, 3, none⟩ (.int .i64 (b))).setCell ⟨w.heap.size, 4, none⟩ (.int .i64 (0))).setCell ⟨w.heap.size, 5, none⟩ (.int .i64 (i))).setCell ⟨w.heap.size, 6, none⟩ (.bool (false))) = w9 at R RK ⊢
  obtain ⟨r0, r1, r2, r3, r4, r5, r6⟩ := R.cells
  exact bodyPost_ret (v := .agg #[.int .i64 5, .int .i64 op, .int .i64 a, .int .i64 b, .int .i64 0, .int .i64 i, .bool false]) (by simp [results, Try.results23, go_sem, r0, r1, r2, r3, r4, r5, r6]) rfl ⟨rfl, RK⟩
set_option maxHeartbeats 2000000 in
theorem read_3j (x op i : Int) (v : Bool) (w : World)
    (C0 : Hid (∀ w, Calls Try.prog 19 #[.int .u32 x, .int .i64 30, .int .i64 2] w fun e w' => e = .returned (.int .u32 3) ∧ Kept w w'))
    (Cu : Hid (∀ w, Calls Try.prog 39 #[.int .u32 x, .int .i64 29] w fun e w' => e = .returned (.bool true) ∧ Kept w w'))
    (Cop : Hid (∀ w, Calls Try.prog 37 #[.int .u32 x, .int .i64 24, .int .i64 4] w fun e w' => e = .returned (.int .i64 op) ∧ Kept w w'))
    (Ci : Hid (∀ w, Calls Try.prog 20 #[.int .u32 x, .int .i64 24] w fun e w' => e = .returned (.int .i64 i) ∧ w = w'))
    (Cv : Hid (∀ w, Calls Try.prog 39 #[.int .u32 x, .int .i64 28] w fun e w' => e = .returned (.bool v) ∧ Kept w w')) :
    Calls Try.prog 23 #[.int .u32 x] w fun e w' => e = .returned (.agg #[.int .i64 7, .int .i64 op, .int .i64 0, .int .i64 0, .int .i64 0, .int .i64 i, .bool v]) ∧ Kept w w' := by
  have X1 := Lib.hid (Box.new 0 0 0 0 0 0 false w)
  have HB := Lib.hid (show Kept w (w.alloc (.cells #[.int .i64 0, .int .i64 0, .int .i64 0, .int .i64 0, .int .i64 0, .int .i64 0, .bool false] 23)) from (Kept.refl w).alloc _ _)
  go_enter Try.func23, Try.ntmps23
  go_wp2_with fail
  refine (C0.out _).mono ?_; rintro e w0 ⟨rfl, hK0⟩
  have HK := Lib.hid hK0
  clear hK0
  go_wp2_with fail
  refine (Cu.out _).mono ?_; rintro e w1 ⟨rfl, hK1⟩
  replace HK := Lib.hid (HK.out.trans hK1)
  clear hK1
  go_wp2_with fail
  refine (Cop.out _).mono ?_; rintro e w2 ⟨rfl, hK1⟩
  replace HK := Lib.hid (HK.out.trans hK1)
  clear hK1
  go_wp2_with fail
  refine (Ci.out _).mono ?_; rintro e w' ⟨rfl, rfl⟩
  go_wp2_with fail
  refine (Cv.out _).mono ?_; rintro e w4 ⟨rfl, hK1⟩
  replace HK := Lib.hid (HK.out.trans hK1)
  clear hK1
  obtain ⟨z0, z1, z2, z3, z4, z5, z6⟩ := (X1.out.kept HK.out).cells
  obtain ⟨f0, f1, f2, f3, f4, f5, f6⟩ := (X1.out.kept HK.out).free
  have R := Lib.hid ((X1.out.kept HK.out).stored (k' := 7) (op' := op) (a' := 0) (b' := 0) (c' := 0) (i' := i) (u' := v))
  have RK := Lib.hid ((HB.out.trans HK.out).store7 (B' := w.heap.size) (by omega) (7) (op) (0) (0) (0) (i) (v))
  go_wp2_with fail
  clear z0 z1 z2 z3 z4 z5 z6 f0 f1 f2 f3 f4 f5 f6
  have R := R.out
  have RK := RK.out
  unfold store7 at R RK
  generalize (((((((w4.setCell ⟨w.heap.size, 0, none⟩ (.int .i64 (7))).setCell ⟨w.heap.size, 1, none⟩ (.int .i64 (op))).setCell ⟨w.heap.size, 2, none⟩ (.int .i64 (0))).setCell ⟨w.heap.size, 3, none⟩ (.int .i64 (0))).setCell ⟨w.heap.size, 4, none⟩ (.int .i64 (0))).setCell ⟨w.heap.size, 5, none⟩ (.int .i64 (i))).setCell ⟨w.heap.size, 6, none⟩ (.bool (v))) = w9 at R RK ⊢
  obtain ⟨r0, r1, r2, r3, r4, r5, r6⟩ := R.cells
  exact bodyPost_ret (v := .agg #[.int .i64 7, .int .i64 op, .int .i64 0, .int .i64 0, .int .i64 0, .int .i64 i, .bool v]) (by simp [results, Try.results23, go_sem, r0, r1, r2, r3, r4, r5, r6]) rfl ⟨rfl, RK⟩
set_option maxHeartbeats 2000000 in
theorem read_3b (x op c : Int) (v : Bool) (w : World)
    (C0 : Hid (∀ w, Calls Try.prog 19 #[.int .u32 x, .int .i64 30, .int .i64 2] w fun e w' => e = .returned (.int .u32 3) ∧ Kept w w'))
    (Cu : Hid (∀ w, Calls Try.prog 39 #[.int .u32 x, .int .i64 29] w fun e w' => e = .returned (.bool false) ∧ Kept w w'))
    (Cop : Hid (∀ w, Calls Try.prog 37 #[.int .u32 x, .int .i64 24, .int .i64 4] w fun e w' => e = .returned (.int .i64 op) ∧ Kept w w'))
    (Cc : Hid (∀ w, Calls Try.prog 37 #[.int .u32 x, .int .i64 0, .int .i64 4] w fun e w' => e = .returned (.int .i64 c) ∧ Kept w w'))
    (Cv : Hid (∀ w, Calls Try.prog 39 #[.int .u32 x, .int .i64 28] w fun e w' => e = .returned (.bool v) ∧ Kept w w')) :
    Calls Try.prog 23 #[.int .u32 x] w fun e w' => e = .returned (.agg #[.int .i64 6, .int .i64 op, .int .i64 0, .int .i64 0, .int .i64 c, .int .i64 0, .bool v]) ∧ Kept w w' := by
  have X1 := Lib.hid (Box.new 0 0 0 0 0 0 false w)
  have HB := Lib.hid (show Kept w (w.alloc (.cells #[.int .i64 0, .int .i64 0, .int .i64 0, .int .i64 0, .int .i64 0, .int .i64 0, .bool false] 23)) from (Kept.refl w).alloc _ _)
  go_enter Try.func23, Try.ntmps23
  go_wp2_with fail
  refine (C0.out _).mono ?_; rintro e w0 ⟨rfl, hK0⟩
  have HK := Lib.hid hK0
  clear hK0
  go_wp2_with fail
  refine (Cu.out _).mono ?_; rintro e w1 ⟨rfl, hK1⟩
  replace HK := Lib.hid (HK.out.trans hK1)
  clear hK1
  go_wp2_with fail
  refine (Cop.out _).mono ?_; rintro e w2 ⟨rfl, hK1⟩
  replace HK := Lib.hid (HK.out.trans hK1)
  clear hK1
  go_wp2_with fail
  refine (Cc.out _).mono ?_; rintro e w3 ⟨rfl, hK1⟩
  replace HK := Lib.hid (HK.out.trans hK1)
  clear hK1
  go_wp2_with fail
  refine (Cv.out _).mono ?_; rintro e w4 ⟨rfl, hK1⟩
  replace HK := Lib.hid (HK.out.trans hK1)
  clear hK1
  obtain ⟨z0, z1, z2, z3, z4, z5, z6⟩ := (X1.out.kept HK.out).cells
  obtain ⟨f0, f1, f2, f3, f4, f5, f6⟩ := (X1.out.kept HK.out).free
  have R := Lib.hid ((X1.out.kept HK.out).stored (k' := 6) (op' := op) (a' := 0) (b' := 0) (c' := c) (i' := 0) (u' := v))
  have RK := Lib.hid ((HB.out.trans HK.out).store7 (B' := w.heap.size) (by omega) (6) (op) (0) (0) (c) (0) (v))
  go_wp2_with fail
  clear z0 z1 z2 z3 z4 z5 z6 f0 f1 f2 f3 f4 f5 f6
  have R := R.out
  have RK := RK.out
  unfold store7 at R RK
  generalize (((((((w4.setCell ⟨w.heap.size, 0, none⟩ (.int .i64 (6))).setCell ⟨w.heap.size, 1, none⟩ (.int .i64 (op))).setCell ⟨w.heap.size, 2, none⟩ (.int .i64 (0))).setCell ⟨w.heap.size, 3, none⟩ (.int .i64 (0))).setCell ⟨w.heap.size, 4, none⟩ (.int .i64 (c))).setCell ⟨w.heap.size, 5, none⟩ (.int .i64 (0))).setCell ⟨w.heap.size, 6, none⟩ (.bool (v))) = w9 at R RK ⊢
  obtain ⟨r0, r1, r2, r3, r4, r5, r6⟩ := R.cells
  exact bodyPost_ret (v := .agg #[.int .i64 6, .int .i64 op, .int .i64 0, .int .i64 0, .int .i64 c, .int .i64 0, .bool v]) (by simp [results, Try.results23, go_sem, r0, r1, r2, r3, r4, r5, r6]) rfl ⟨rfl, RK⟩
end Go.Proofs.Ytliofphhoaopkaa
