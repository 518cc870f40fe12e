import Derived.Deep.Cut
import Derived.Laws.Bits128
import Derived.Test.YtlmddkciamdldaaGreatPc
/-
  The contracts of readReg and read.
-/
namespace Go.Proofs.YtlmddkciamdldaaGreat
open Go.RowKit
set_option linter.unusedVariables false
set_option linter.unusedSimpArgs false
set_option maxRecDepth 100000
set_option maxHeartbeats 2000000 in
theorem readReg_1 (x op a b c : Int) (u : Bool) (w : World) (hz : ¬ op = 0)
    (Cop : Hid (∀ w, Calls Tryz.prog 74 #[.int .u32 x, .int .i64 16, .int .i64 4] w fun e w' => e = .returned (.int .i64 op) ∧ Kept w w'))
    (Ca : Hid (∀ w, Calls Tryz.prog 74 #[.int .u32 x, .int .i64 24, .int .i64 4] w fun e w' => e = .returned (.int .i64 a) ∧ Kept w w'))
    (Cb : Hid (∀ w, Calls Tryz.prog 74 #[.int .u32 x, .int .i64 20, .int .i64 4] w fun e w' => e = .returned (.int .i64 b) ∧ Kept w w'))
    (Cc : Hid (∀ w, Calls Tryz.prog 74 #[.int .u32 x, .int .i64 0, .int .i64 4] w fun e w' => e = .returned (.int .i64 c) ∧ Kept w w'))
    (Cu : Hid (∀ w, Calls Tryz.prog 76 #[.int .u32 x, .int .i64 29] w fun e w' => e = .returned (.bool u) ∧ Kept w w')) :
    Calls Tryz.prog 73 #[.int .u32 x] w fun e w' => e = .returned (.agg #[.int .i64 1, .int .i64 op, .int .i64 a, .int .i64 b, .int .i64 c, .int .i64 0, .bool u]) ∧ Kept w w' := by
  have X1 := Lib.hid (Box.new 0 0 0 0 0 0 false w)
  have HB := Lib.hid (show Kept w (w.alloc (.cells #[.int .i64 0, .int .i64 0, .int .i64 0, .int .i64 0, .int .i64 0, .int .i64 0, .bool false] 57)) from (Kept.refl w).alloc _ _)
  have HL := Lib.hid (show w.heap.size < (w.alloc (.cells #[.int .i64 0, .int .i64 0, .int .i64 0, .int .i64 0, .int .i64 0, .int .i64 0, .bool false] 57)).heap.size from by simp)
  go_enter Tryz.func73, Tryz.ntmps73
  go_wp2_with fail
  refine (Cop.out _).mono ?_; rintro e w1 ⟨rfl, hK1⟩
  go_wp2_with fail
  refine (Ca.out _).mono ?_; rintro e w2 ⟨rfl, hK2⟩
  go_wp2_with fail
  refine (Cb.out _).mono ?_; rintro e w3 ⟨rfl, hK3⟩
  go_wp2_with fail
  refine (Cc.out _).mono ?_; rintro e w4 ⟨rfl, hK4⟩
  go_wp2_with fail
  refine (Cu.out _).mono ?_; rintro e w5 ⟨rfl, hK5⟩
  have HK := Lib.hid ((((hK1.trans hK2).trans hK3).trans hK4).trans hK5)
  clear hK1 hK2 hK3 hK4 hK5
  have HN := Lib.hid (show w.heap.size ≠ w5.heap.size from by have := HK.out.size; have := HL.out; omega)
  go_upto_region 2 with (fail)
  have XI := Box.new 1 op a b c 0 u w5
  have XZ := (X1.out.kept HK.out).alloc (.cells #[.int .i64 1, .int .i64 op, .int .i64 a, .int .i64 b, .int .i64 c, .int .i64 0, .bool u] 57)
  have KK := (HB.out.trans HK.out).alloc #[.int .i64 1, .int .i64 op, .int .i64 a, .int .i64 b, .int .i64 c, .int .i64 0, .bool u] 57
  generalize (w5.alloc (.cells #[.int .i64 1, .int .i64 op, .int .i64 a, .int .i64 b, .int .i64 c, .int .i64 0, .bool u] 57)) = w6 at XI XZ KK ⊢
  generalize w5.heap.size = B2 at HN XI ⊢
  have HI := Lib.hid XI
  have HZ := Lib.hid XZ
  have HKK := Lib.hid KK
  clear HK X1 HB HL XI XZ KK
  obtain ⟨i0, i1, i2, i3, i4, i5, i6⟩ := HI.out.cells
  obtain ⟨z0, z1, z2, z3, z4, z5, z6⟩ := (HZ.out).cells
  obtain ⟨f0, f1, f2, f3, f4, f5, f6⟩ := (HZ.out).free
  have R := Lib.hid ((HZ.out).stored (k' := 1) (op' := op) (a' := a) (b' := b) (c' := c) (i' := 0) (u' := u))
  have RK := Lib.hid ((HKK.out).store7 (B' := w.heap.size) (by omega) (1) (op) (a) (b) (c) (0) (u))
  go_wp2_with fail
  clear z0 z1 z2 z3 z4 z5 z6 f0 f1 f2 f3 f4 f5 f6
  have R := R.out
  have RK := RK.out
  unfold store7 at R RK
  generalize (((((((w6.setCell ⟨w.heap.size, 0, none⟩ (.int .i64 (1))).setCell ⟨w.heap.size, 1, none⟩ (.int .i64 (op))).setCell ⟨w.heap.size, 2, none⟩ (.int .i64 (a))).setCell ⟨w.heap.size, 3, none⟩ (.int .i64 (b))).setCell ⟨w.heap.size, 4, none⟩ (.int .i64 (c))).setCell ⟨w.heap.size, 5, none⟩ (.int .i64 (0))).setCell ⟨w.heap.size, 6, none⟩ (.bool (u))) = w9 at R RK ⊢
  obtain ⟨r0, r1, r2, r3, r4, r5, r6⟩ := R.cells
  exact bodyPost_ret (v := .agg #[.int .i64 1, .int .i64 op, .int .i64 a, .int .i64 b, .int .i64 c, .int .i64 0, .bool u]) (by simp [results, Tryz.results73, go_sem, r0, r1, r2, r3, r4, r5, r6]) rfl ⟨rfl, RK⟩
set_option maxHeartbeats 2000000 in
theorem readReg_2 (x a b c : Int) (w : World)
    (Cop : Hid (∀ w, Calls Tryz.prog 74 #[.int .u32 x, .int .i64 16, .int .i64 4] w fun e w' => e = .returned (.int .i64 0) ∧ Kept w w'))
    (Ca : Hid (∀ w, Calls Tryz.prog 74 #[.int .u32 x, .int .i64 24, .int .i64 4] w fun e w' => e = .returned (.int .i64 a) ∧ Kept w w'))
    (Cb : Hid (∀ w, Calls Tryz.prog 74 #[.int .u32 x, .int .i64 20, .int .i64 4] w fun e w' => e = .returned (.int .i64 b) ∧ Kept w w'))
    (Cc : Hid (∀ w, Calls Tryz.prog 74 #[.int .u32 x, .int .i64 0, .int .i64 4] w fun e w' => e = .returned (.int .i64 c) ∧ Kept w w'))
    (Cu : Hid (∀ w, Calls Tryz.prog 76 #[.int .u32 x, .int .i64 29] w fun e w' => e = .returned (.bool false) ∧ Kept w w')) :
    Calls Tryz.prog 73 #[.int .u32 x] w fun e w' => e = .returned (.agg #[.int .i64 1, .int .i64 0, .int .i64 a, .int .i64 b, .int .i64 c, .int .i64 0, .bool false]) ∧ Kept w w' := by
  have X1 := Lib.hid (Box.new 0 0 0 0 0 0 false w)
  have HB := Lib.hid (show Kept w (w.alloc (.cells #[.int .i64 0, .int .i64 0, .int .i64 0, .int .i64 0, .int .i64 0, .int .i64 0, .bool false] 57)) from (Kept.refl w).alloc _ _)
  have HL := Lib.hid (show w.heap.size < (w.alloc (.cells #[.int .i64 0, .int .i64 0, .int .i64 0, .int .i64 0, .int .i64 0, .int .i64 0, .bool false] 57)).heap.size from by simp)
  go_enter Tryz.func73, Tryz.ntmps73
  go_wp2_with fail
  refine (Cop.out _).mono ?_; rintro e w1 ⟨rfl, hK1⟩
  go_wp2_with fail
  refine (Ca.out _).mono ?_; rintro e w2 ⟨rfl, hK2⟩
  go_wp2_with fail
  refine (Cb.out _).mono ?_; rintro e w3 ⟨rfl, hK3⟩
  go_wp2_with fail
  refine (Cc.out _).mono ?_; rintro e w4 ⟨rfl, hK4⟩
  go_wp2_with fail
  refine (Cu.out _).mono ?_; rintro e w5 ⟨rfl, hK5⟩
  have HK := Lib.hid ((((hK1.trans hK2).trans hK3).trans hK4).trans hK5)
  clear hK1 hK2 hK3 hK4 hK5
  have HN := Lib.hid (show w.heap.size ≠ w5.heap.size from by have := HK.out.size; have := HL.out; omega)
  go_upto_region 2 with (fail)
  have XI := Box.new 1 0 a b c 0 false w5
  have XZ := (X1.out.kept HK.out).alloc (.cells #[.int .i64 1, .int .i64 0, .int .i64 a, .int .i64 b, .int .i64 c, .int .i64 0, .bool false] 57)
  have KK := (HB.out.trans HK.out).alloc #[.int .i64 1, .int .i64 0, .int .i64 a, .int .i64 b, .int .i64 c, .int .i64 0, .bool false] 57
  generalize (w5.alloc (.cells #[.int .i64 1, .int .i64 0, .int .i64 a, .int .i64 b, .int .i64 c, .int .i64 0, .bool false] 57)) = w6 at XI XZ KK ⊢
  generalize w5.heap.size = B2 at HN XI ⊢
  have HI := Lib.hid XI
  have HZ := Lib.hid XZ
  have HKK := Lib.hid KK
  clear HK X1 HB HL XI XZ KK
  obtain ⟨i0, i1, i2, i3, i4, i5, i6⟩ := HI.out.cells
  obtain ⟨z0, z1, z2, z3, z4, z5, z6⟩ := (HZ.out).cells
  obtain ⟨f0, f1, f2, f3, f4, f5, f6⟩ := (HZ.out).free
  have R := Lib.hid ((HZ.out).stored (k' := 1) (op' := 0) (a' := a) (b' := b) (c' := c) (i' := 0) (u' := false))
  have RK := Lib.hid ((HKK.out).store7 (B' := w.heap.size) (by omega) (1) (0) (a) (b) (c) (0) (false))
  go_wp2_with fail
  clear z0 z1 z2 z3 z4 z5 z6 f0 f1 f2 f3 f4 f5 f6
  have R := R.out
  have RK := RK.out
  unfold store7 at R RK
  generalize (((((((w6.setCell ⟨w.heap.size, 0, none⟩ (.int .i64 (1))).setCell ⟨w.heap.size, 1, none⟩ (.int .i64 (0))).setCell ⟨w.heap.size, 2, none⟩ (.int .i64 (a))).setCell ⟨w.heap.size, 3, none⟩ (.int .i64 (b))).setCell ⟨w.heap.size, 4, none⟩ (.int .i64 (c))).setCell ⟨w.heap.size, 5, none⟩ (.int .i64 (0))).setCell ⟨w.heap.size, 6, none⟩ (.bool (false))) = w9 at R RK ⊢
  obtain ⟨r0, r1, r2, r3, r4, r5, r6⟩ := R.cells
  exact bodyPost_ret (v := .agg #[.int .i64 1, .int .i64 0, .int .i64 a, .int .i64 b, .int .i64 c, .int .i64 0, .bool false]) (by simp [results, Tryz.results73, go_sem, r0, r1, r2, r3, r4, r5, r6]) rfl ⟨rfl, RK⟩
set_option maxHeartbeats 2000000 in
theorem readReg_3 (x a b c : Int) (w : World)
    (Cop : Hid (∀ w, Calls Tryz.prog 74 #[.int .u32 x, .int .i64 16, .int .i64 4] w fun e w' => e = .returned (.int .i64 0) ∧ Kept w w'))
    (Ca : Hid (∀ w, Calls Tryz.prog 74 #[.int .u32 x, .int .i64 24, .int .i64 4] w fun e w' => e = .returned (.int .i64 a) ∧ Kept w w'))
    (Cb : Hid (∀ w, Calls Tryz.prog 74 #[.int .u32 x, .int .i64 20, .int .i64 4] w fun e w' => e = .returned (.int .i64 b) ∧ Kept w w'))
    (Cc : Hid (∀ w, Calls Tryz.prog 74 #[.int .u32 x, .int .i64 0, .int .i64 4] w fun e w' => e = .returned (.int .i64 c) ∧ Kept w w'))
    (Cu : Hid (∀ w, Calls Tryz.prog 76 #[.int .u32 x, .int .i64 29] w fun e w' => e = .returned (.bool true) ∧ Kept w w'))
    (Cv : Hid (∀ w, Calls Tryz.prog 76 #[.int .u32 x, .int .i64 28] w fun e w' => e = .returned (.bool false) ∧ Kept w w')) :
    Calls Tryz.prog 73 #[.int .u32 x] w fun e w' => e = .returned (.agg #[.int .i64 3, .int .i64 0, .int .i64 a, .int .i64 0, .int .i64 0, .int .i64 0, .bool false]) ∧ Kept w w' := by
  have X1 := Lib.hid (Box.new 0 0 0 0 0 0 false w)
  have HB := Lib.hid (show Kept w (w.alloc (.cells #[.int .i64 0, .int .i64 0, .int .i64 0, .int .i64 0, .int .i64 0, .int .i64 0, .bool false] 57)) from (Kept.refl w).alloc _ _)
  have HL := Lib.hid (show w.heap.size < (w.alloc (.cells #[.int .i64 0, .int .i64 0, .int .i64 0, .int .i64 0, .int .i64 0, .int .i64 0, .bool false] 57)).heap.size from by simp)
  go_enter Tryz.func73, Tryz.ntmps73
  go_wp2_with fail
  refine (Cop.out _).mono ?_; rintro e w1 ⟨rfl, hK1⟩
  go_wp2_with fail
  refine (Ca.out _).mono ?_; rintro e w2 ⟨rfl, hK2⟩
  go_wp2_with fail
  refine (Cb.out _).mono ?_; rintro e w3 ⟨rfl, hK3⟩
  go_wp2_with fail
  refine (Cc.out _).mono ?_; rintro e w4 ⟨rfl, hK4⟩
  go_wp2_with fail
  refine (Cu.out _).mono ?_; rintro e w5 ⟨rfl, hK5⟩
  have HK := Lib.hid ((((hK1.trans hK2).trans hK3).trans hK4).trans hK5)
  clear hK1 hK2 hK3 hK4 hK5
  have HN := Lib.hid (show w.heap.size ≠ w5.heap.size from by have := HK.out.size; have := HL.out; omega)
  go_upto_region 2 with (fail)
  have XI := Box.new 1 0 a b c 0 true w5
  have XZ := (X1.out.kept HK.out).alloc (.cells #[.int .i64 1, .int .i64 0, .int .i64 a, .int .i64 b, .int .i64 c, .int .i64 0, .bool true] 57)
  have KK := (HB.out.trans HK.out).alloc #[.int .i64 1, .int .i64 0, .int .i64 a, .int .i64 b, .int .i64 c, .int .i64 0, .bool true] 57
  generalize (w5.alloc (.cells #[.int .i64 1, .int .i64 0, .int .i64 a, .int .i64 b, .int .i64 c, .int .i64 0, .bool true] 57)) = w6 at XI XZ KK ⊢
  generalize w5.heap.size = B2 at HN XI ⊢
  have HI := Lib.hid XI
  have HZ := Lib.hid XZ
  have HKK := Lib.hid KK
  clear HK X1 HB HL XI XZ KK
  obtain ⟨i0, i1, i2, i3, i4, i5, i6⟩ := HI.out.cells
  go_wp2_with fail
  refine (Cv.out _).mono ?_; rintro e w7 ⟨rfl, hK6⟩
  clear i0 i1 i2 i3 i4 i5 i6
  obtain ⟨i0, i1, i2, i3, i4, i5, i6⟩ := (HI.out.kept hK6).cells
  obtain ⟨z0, z1, z2, z3, z4, z5, z6⟩ := (HZ.out.kept hK6).cells
  obtain ⟨f0, f1, f2, f3, f4, f5, f6⟩ := (HZ.out.kept hK6).free
  have R := Lib.hid ((HZ.out.kept hK6).stored (k' := 3) (op' := 0) (a' := a) (b' := 0) (c' := 0) (i' := 0) (u' := false))
  have RK := Lib.hid ((HKK.out.trans hK6).store7 (B' := w.heap.size) (by omega) (3) (0) (a) (0) (0) (0) (false))
  go_wp2_with fail
  clear z0 z1 z2 z3 z4 z5 z6 f0 f1 f2 f3 f4 f5 f6
  have R := R.out
  have RK := RK.out
  unfold store7 at R RK
  generalize (((((((w7.setCell ⟨w.heap.size, 0, none⟩ (.int .i64 (3))).setCell ⟨w.heap.size, 1, none⟩ (.int .i64 (0))).setCell ⟨w.heap.size, 2, none⟩ (.int .i64 (a))).setCell ⟨w.heap.size, 3, none⟩ (.int .i64 (0))).setCell ⟨w.heap.size, 4, none⟩ (.int .i64 (0))).setCell ⟨w.heap.size, 5, none⟩ (.int .i64 (0))).setCell ⟨w.heap.size, 6, none⟩ (.bool (false))) = w9 at R RK ⊢
  obtain ⟨r0, r1, r2, r3, r4, r5, r6⟩ := R.cells
  exact bodyPost_ret (v := .agg #[.int .i64 3, .int .i64 0, .int .i64 a, .int .i64 0, .int .i64 0, .int .i64 0, .bool false]) (by simp [results, Tryz.results73, go_sem, r0, r1, r2, r3, r4, r5, r6]) rfl ⟨rfl, RK⟩
set_option maxHeartbeats 2000000 in
theorem readReg_4 (x a b c : Int) (w : World)
    (Cop : Hid (∀ w, Calls Tryz.prog 74 #[.int .u32 x, .int .i64 16, .int .i64 4] w fun e w' => e = .returned (.int .i64 0) ∧ Kept w w'))
    (Ca : Hid (∀ w, Calls Tryz.prog 74 #[.int .u32 x, .int .i64 24, .int .i64 4] w fun e w' => e = .returned (.int .i64 a) ∧ Kept w w'))
    (Cb : Hid (∀ w, Calls Tryz.prog 74 #[.int .u32 x, .int .i64 20, .int .i64 4] w fun e w' => e = .returned (.int .i64 b) ∧ Kept w w'))
    (Cc : Hid (∀ w, Calls Tryz.prog 74 #[.int .u32 x, .int .i64 0, .int .i64 4] w fun e w' => e = .returned (.int .i64 c) ∧ Kept w w'))
    (Cu : Hid (∀ w, Calls Tryz.prog 76 #[.int .u32 x, .int .i64 29] w fun e w' => e = .returned (.bool true) ∧ Kept w w'))
    (Cv : Hid (∀ w, Calls Tryz.prog 76 #[.int .u32 x, .int .i64 28] w fun e w' => e = .returned (.bool true) ∧ Kept w w')) :
    Calls Tryz.prog 73 #[.int .u32 x] w fun e w' => e = .returned (.agg #[.int .i64 4, .int .i64 0, .int .i64 a, .int .i64 0, .int .i64 0, .int .i64 0, .bool false]) ∧ Kept w w' := by
  have X1 := Lib.hid (Box.new 0 0 0 0 0 0 false w)
  have HB := Lib.hid (show Kept w (w.alloc (.cells #[.int .i64 0, .int .i64 0, .int .i64 0, .int .i64 0, .int .i64 0, .int .i64 0, .bool false] 57)) from (Kept.refl w).alloc _ _)
  have HL := Lib.hid (show w.heap.size < (w.alloc (.cells #[.int .i64 0, .int .i64 0, .int .i64 0, .int .i64 0, .int .i64 0, .int .i64 0, .bool false] 57)).heap.size from by simp)
  go_enter Tryz.func73, Tryz.ntmps73
  go_wp2_with fail
  refine (Cop.out _).mono ?_; rintro e w1 ⟨rfl, hK1⟩
  go_wp2_with fail
  refine (Ca.out _).mono ?_; rintro e w2 ⟨rfl, hK2⟩
  go_wp2_with fail
  refine (Cb.out _).mono ?_; rintro e w3 ⟨rfl, hK3⟩
  go_wp2_with fail
  refine (Cc.out _).mono ?_; rintro e w4 ⟨rfl, hK4⟩
  go_wp2_with fail
  refine (Cu.out _).mono ?_; rintro e w5 ⟨rfl, hK5⟩
  have HK := Lib.hid ((((hK1.trans hK2).trans hK3).trans hK4).trans hK5)
  clear hK1 hK2 hK3 hK4 hK5
  have HN := Lib.hid (show w.heap.size ≠ w5.heap.size from by have := HK.out.size; have := HL.out; omega)
  go_upto_region 2 with (fail)
  have XI := Box.new 1 0 a b c 0 true w5
  have XZ := (X1.out.kept HK.out).alloc (.cells #[.int .i64 1, .int .i64 0, .int .i64 a, .int .i64 b, .int .i64 c, .int .i64 0, .bool true] 57)
  have KK := (HB.out.trans HK.out).alloc #[.int .i64 1, .int .i64 0, .int .i64 a, .int .i64 b, .int .i64 c, .int .i64 0, .bool true] 57
  generalize (w5.alloc (.cells #[.int .i64 1, .int .i64 0, .int .i64 a, .int .i64 b, .int .i64 c, .int .i64 0, .bool true] 57)) = w6 at XI XZ KK ⊢
  generalize w5.heap.size = B2 at HN XI ⊢
  have HI := Lib.hid XI
  have HZ := Lib.hid XZ
  have HKK := Lib.hid KK
  clear HK X1 HB HL XI XZ KK
  obtain ⟨i0, i1, i2, i3, i4, i5, i6⟩ := HI.out.cells
  go_wp2_with fail
  refine (Cv.out _).mono ?_; rintro e w7 ⟨rfl, hK6⟩
  clear i0 i1 i2 i3 i4 i5 i6
  obtain ⟨i0, i1, i2, i3, i4, i5, i6⟩ := (HI.out.kept hK6).cells
  obtain ⟨z0, z1, z2, z3, z4, z5, z6⟩ := (HZ.out.kept hK6).cells
  obtain ⟨f0, f1, f2, f3, f4, f5, f6⟩ := (HZ.out.kept hK6).free
  have R := Lib.hid ((HZ.out.kept hK6).stored (k' := 4) (op' := 0) (a' := a) (b' := 0) (c' := 0) (i' := 0) (u' := false))
  have RK := Lib.hid ((HKK.out.trans hK6).store7 (B' := w.heap.size) (by omega) (4) (0) (a) (0) (0) (0) (false))
  go_wp2_with fail
  clear z0 z1 z2 z3 z4 z5 z6 f0 f1 f2 f3 f4 f5 f6
  have R := R.out
  have RK := RK.out
  unfold store7 at R RK
  generalize (((((((w7.setCell ⟨w.heap.size, 0, none⟩ (.int .i64 (4))).setCell ⟨w.heap.size, 1, none⟩ (.int .i64 (0))).setCell ⟨w.heap.size, 2, none⟩ (.int .i64 (a))).setCell ⟨w.heap.size, 3, none⟩ (.int .i64 (0))).setCell ⟨w.heap.size, 4, none⟩ (.int .i64 (0))).setCell ⟨w.heap.size, 5, none⟩ (.int .i64 (0))).setCell ⟨w.heap.size, 6, none⟩ (.bool (false))) = w9 at R RK ⊢
  obtain ⟨r0, r1, r2, r3, r4, r5, r6⟩ := R.cells
  exact bodyPost_ret (v := .agg #[.int .i64 4, .int .i64 0, .int .i64 a, .int .i64 0, .int .i64 0, .int .i64 0, .bool false]) (by simp [results, Tryz.results73, go_sem, r0, r1, r2, r3, r4, r5, r6]) rfl ⟨rfl, RK⟩
set_option maxHeartbeats 2000000 in
theorem read_0 (x k op a b c i : Int) (u : Bool) (w : World)
    (C0 : Hid (∀ w, Calls Tryz.prog 72 #[.int .u32 x, .int .i64 30, .int .i64 2] w fun e w' => e = .returned (.int .u32 0) ∧ Kept w w'))
    (CR : Hid (∀ w, Calls Tryz.prog 73 #[.int .u32 x] w fun e w' => e = .returned (.agg #[.int .i64 k, .int .i64 op, .int .i64 a, .int .i64 b, .int .i64 c, .int .i64 i, .bool u]) ∧ Kept w w')) :
    Calls Tryz.prog 62 #[.int .u32 x] w fun e w' => e = .returned (.agg #[.int .i64 k, .int .i64 op, .int .i64 a, .int .i64 b, .int .i64 c, .int .i64 i, .bool u]) ∧ Kept w w' := by
  have X1 := Lib.hid (Box.new 0 0 0 0 0 0 false w)
  have HB := Lib.hid (show Kept w (w.alloc (.cells #[.int .i64 0, .int .i64 0, .int .i64 0, .int .i64 0, .int .i64 0, .int .i64 0, .bool false] 57)) from (Kept.refl w).alloc _ _)
  go_enter Tryz.func62, Tryz.ntmps62
  go_wp2_with fail
  refine (C0.out _).mono ?_; rintro e w0 ⟨rfl, hK0⟩
  have HK := Lib.hid hK0
  clear hK0
  go_wp2_with fail
  refine (CR.out _).mono ?_; rintro e w1 ⟨rfl, hK1⟩
  replace HK := Lib.hid (HK.out.trans hK1)
  clear hK1
  obtain ⟨z0, z1, z2, z3, z4, z5, z6⟩ := (X1.out.kept HK.out).cells
  obtain ⟨f0, f1, f2, f3, f4, f5, f6⟩ := (X1.out.kept HK.out).free
  have R := Lib.hid ((X1.out.kept HK.out).stored (k' := k) (op' := op) (a' := a) (b' := b) (c' := c) (i' := i) (u' := u))
  have RK := Lib.hid ((HB.out.trans HK.out).store7 (B' := w.heap.size) (by omega) (k) (op) (a) (b) (c) (i) (u))
  go_wp2_with fail
  clear z0 z1 z2 z3 z4 z5 z6 f0 f1 f2 f3 f4 f5 f6
  have R := R.out
  have RK := RK.out
  unfold store7 at R RK
  generalize (((((((w1.setCell ⟨w.heap.size, 0, none⟩ (.int .i64 (k))).setCell ⟨w.heap.size, 1, none⟩ (.int .i64 (op))).setCell ⟨w.heap.size, 2, none⟩ (.int .i64 (a))).setCell ⟨w.heap.size, 3, none⟩ (.int .i64 (b))).setCell ⟨w.heap.size, 4, none⟩ (.int .i64 (c))).setCell ⟨w.heap.size, 5, none⟩ (.int .i64 (i))).setCell ⟨w.heap.size, 6, none⟩ (.bool (u))) = w9 at R RK ⊢
  obtain ⟨r0, r1, r2, r3, r4, r5, r6⟩ := R.cells
  exact bodyPost_ret (v := .agg #[.int .i64 k, .int .i64 op, .int .i64 a, .int .i64 b, .int .i64 c, .int .i64 i, .bool u]) (by simp [results, Tryz.results62, go_sem, r0, r1, r2, r3, r4, r5, r6]) rfl ⟨rfl, RK⟩
set_option maxHeartbeats 2000000 in
theorem read_1 (x op a b i : Int) (u : Bool) (w : World)
    (C0 : Hid (∀ w, Calls Tryz.prog 72 #[.int .u32 x, .int .i64 30, .int .i64 2] w fun e w' => e = .returned (.int .u32 1) ∧ Kept w w'))
    (Cop : Hid (∀ w, Calls Tryz.prog 74 #[.int .u32 x, .int .i64 16, .int .i64 4] w fun e w' => e = .returned (.int .i64 op) ∧ Kept w w'))
    (Ca : Hid (∀ w, Calls Tryz.prog 74 #[.int .u32 x, .int .i64 24, .int .i64 4] w fun e w' => e = .returned (.int .i64 a) ∧ Kept w w'))
    (Cb : Hid (∀ w, Calls Tryz.prog 74 #[.int .u32 x, .int .i64 20, .int .i64 4] w fun e w' => e = .returned (.int .i64 b) ∧ Kept w w'))
    (Ci : Hid (∀ w, Calls Tryz.prog 75 #[.int .u32 x] w fun e w' => e = .returned (.int .i64 i) ∧ Kept w w'))
    (Cu : Hid (∀ w, Calls Tryz.prog 76 #[.int .u32 x, .int .i64 29] w fun e w' => e = .returned (.bool u) ∧ Kept w w')) :
    Calls Tryz.prog 62 #[.int .u32 x] w fun e w' => e = .returned (.agg #[.int .i64 2, .int .i64 op, .int .i64 a, .int .i64 b, .int .i64 0, .int .i64 i, .bool u]) ∧ Kept w w' := by
  have X1 := Lib.hid (Box.new 0 0 0 0 0 0 false w)
  have HB := Lib.hid (show Kept w (w.alloc (.cells #[.int .i64 0, .int .i64 0, .int .i64 0, .int .i64 0, .int .i64 0, .int .i64 0, .bool false] 57)) from (Kept.refl w).alloc _ _)
  go_enter Tryz.func62, Tryz.ntmps62
  go_wp2_with fail
  refine (C0.out _).mono ?_; rintro e w0 ⟨rfl, hK0⟩
  have HK := Lib.hid hK0
  clear hK0
  go_wp2_with fail
  refine (Cop.out _).mono ?_; rintro e w1 ⟨rfl, hK1⟩
  replace HK := Lib.hid (HK.out.trans hK1)
  clear hK1
  go_wp2_with fail
  refine (Ca.out _).mono ?_; rintro e w2 ⟨rfl, hK1⟩
  replace HK := Lib.hid (HK.out.trans hK1)
  clear hK1
  go_wp2_with fail
  refine (Cb.out _).mono ?_; rintro e w3 ⟨rfl, hK1⟩
  replace HK := Lib.hid (HK.out.trans hK1)
  clear hK1
  go_wp2_with fail
  refine (Ci.out _).mono ?_; rintro e w4 ⟨rfl, hK1⟩
  replace HK := Lib.hid (HK.out.trans hK1)
  clear hK1
  go_wp2_with fail
  refine (Cu.out _).mono ?_; rintro e w5 ⟨rfl, hK1⟩
  replace HK := Lib.hid (HK.out.trans hK1)
  clear hK1
  obtain ⟨z0, z1, z2, z3, z4, z5, z6⟩ := (X1.out.kept HK.out).cells
  obtain ⟨f0, f1, f2, f3, f4, f5, f6⟩ := (X1.out.kept HK.out).free
  have R := Lib.hid ((X1.out.kept HK.out).stored (k' := 2) (op' := op) (a' := a) (b' := b) (c' := 0) (i' := i) (u' := u))
  have RK := Lib.hid ((HB.out.trans HK.out).store7 (B' := w.heap.size) (by omega) (2) (op) (a) (b) (0) (i) (u))
  go_wp2_with fail
  clear z0 z1 z2 z3 z4 z5 z6 f0 f1 f2 f3 f4 f5 f6
  have R := R.out
  have RK := RK.out
  unfold store7 at R RK
  generalize (((((((w5.setCell ⟨w.heap.size, 0, none⟩ (.int .i64 (2))).setCell ⟨w.heap.size, 1, none⟩ (.int .i64 (op))).setCell ⟨w.heap.size, 2, none⟩ (.int .i64 (a))).setCell ⟨w.heap.size, 3, none⟩ (.int .i64 (b))).setCell ⟨w.heap.size, 4, none⟩ (.int .i64 (0))).setCell ⟨w.heap.size, 5, none⟩ (.int .i64 (i))).setCell ⟨w.heap.size, 6, none⟩ (.bool (u))) = w9 at R RK ⊢
  obtain ⟨r0, r1, r2, r3, r4, r5, r6⟩ := R.cells
  exact bodyPost_ret (v := .agg #[.int .i64 2, .int .i64 op, .int .i64 a, .int .i64 b, .int .i64 0, .int .i64 i, .bool u]) (by simp [results, Tryz.results62, go_sem, r0, r1, r2, r3, r4, r5, r6]) rfl ⟨rfl, RK⟩
set_option maxHeartbeats 2000000 in
theorem read_2 (x op a b i : Int) (w : World)
    (C0 : Hid (∀ w, Calls Tryz.prog 72 #[.int .u32 x, .int .i64 30, .int .i64 2] w fun e w' => e = .returned (.int .u32 2) ∧ Kept w w'))
    (Cop : Hid (∀ w, Calls Tryz.prog 74 #[.int .u32 x, .int .i64 28, .int .i64 2] w fun e w' => e = .returned (.int .i64 op) ∧ Kept w w'))
    (Ca : Hid (∀ w, Calls Tryz.prog 74 #[.int .u32 x, .int .i64 24, .int .i64 4] w fun e w' => e = .returned (.int .i64 a) ∧ Kept w w'))
    (Cb : Hid (∀ w, Calls Tryz.prog 74 #[.int .u32 x, .int .i64 20, .int .i64 4] w fun e w' => e = .returned (.int .i64 b) ∧ Kept w w'))
    (Ci : Hid (∀ w, Calls Tryz.prog 77 #[.int .u32 x, .int .i64 20] w fun e w' => e = .returned (.int .i64 i) ∧ w = w')) :
    Calls Tryz.prog 62 #[.int .u32 x] w fun e w' => e = .returned (.agg #[.int .i64 5, .int .i64 op, .int .i64 a, .int .i64 b, .int .i64 0, .int .i64 i, .bool false]) ∧ Kept w w' := by
  have X1 := Lib.hid (Box.new 0 0 0 0 0 0 false w)
  have HB := Lib.hid (show Kept w (w.alloc (.cells #[.int .i64 0, .int .i64 0, .int .i64 0, .int .i64 0, .int .i64 0, .int .i64 0, .bool false] 57)) from (Kept.refl w).alloc _ _)
  go_enter Tryz.func62, Tryz.ntmps62
  go_wp2_with fail
  refine (C0.out _).mono ?_; rintro e w0 ⟨rfl, hK0⟩
  have HK := Lib.hid hK0
  clear hK0
  go_wp2_with fail
  refine (Cop.out _).mono ?_; rintro e w1 ⟨rfl, hK1⟩
  replace HK := Lib.hid (HK.out.trans hK1)
  clear hK1
  go_wp2_with fail
  refine (Ca.out _).mono ?_; rintro e w2 ⟨rfl, hK1⟩
  replace HK := Lib.hid (HK.out.trans hK1)
  clear hK1
  go_wp2_with fail
  refine (Cb.out _).mono ?_; rintro e w3 ⟨rfl, hK1⟩
  replace HK := Lib.hid (HK.out.trans hK1)
  clear hK1
  go_wp2_with fail
  refine (Ci.out _).mono ?_; rintro e w' ⟨rfl, rfl⟩
  obtain ⟨z0, z1, z2, z3, z4, z5, z6⟩ := (X1.out.kept HK.out).cells
  obtain ⟨f0, f1, f2, f3, f4, f5, f6⟩ := (X1.out.kept HK.out).free
  have R := Lib.hid ((X1.out.kept HK.out).stored (k' := 5) (op' := op) (a' := a) (b' := b) (c' := 0) (i' := i) (u' := false))
  have RK := Lib.hid ((HB.out.trans HK.out).store7 (B' := w.heap.size) (by omega) (5) (op) (a) (b) (0) (i) (false))
  go_wp2_with fail
  clear z0 z1 z2 z3 z4 z5 z6 f0 f1 f2 f3 f4 f5 f6
  have R := R.out
  have RK := RK.out
  unfold store7 at R RK
  generalize (((((((w3.setCell ⟨w.heap.size, 0, none⟩ (.int .i64 (5))).setCell ⟨w.heap.size, 1, none⟩ (.int .i64 (op))).setCell ⟨w.heap.size, 2, none⟩ (.int .i64 (a))).setCell ⟨w.heap.size, 3, none⟩ (.int .i64 (b))).setCell ⟨w.heap.size, 4, none⟩ (.int .i64 (0))).setCell ⟨w.heap.size, 5, none⟩ (.int .i64 (i))).setCell ⟨w.heap.size, 6, none⟩ (.bool (false))) = w9 at R RK ⊢
  obtain ⟨r0, r1, r2, r3, r4, r5, r6⟩ := R.cells
  exact bodyPost_ret (v := .agg #[.int .i64 5, .int .i64 op, .int .i64 a, .int .i64 b, .int .i64 0, .int .i64 i, .bool false]) (by simp [results, Tryz.results62, go_sem, r0, r1, r2, r3, r4, r5, r6]) rfl ⟨rfl, RK⟩
set_option maxHeartbeats 2000000 in
theorem read_3j (x op i : Int) (v : Bool) (w : World)
    (C0 : Hid (∀ w, Calls Tryz.prog 72 #[.int .u32 x, .int .i64 30, .int .i64 2] w fun e w' => e = .returned (.int .u32 3) ∧ Kept w w'))
    (Cu : Hid (∀ w, Calls Tryz.prog 76 #[.int .u32 x, .int .i64 29] w fun e w' => e = .returned (.bool true) ∧ Kept w w'))
    (Cop : Hid (∀ w, Calls Tryz.prog 74 #[.int .u32 x, .int .i64 24, .int .i64 4] w fun e w' => e = .returned (.int .i64 op) ∧ Kept w w'))
    (Ci : Hid (∀ w, Calls Tryz.prog 77 #[.int .u32 x, .int .i64 24] w fun e w' => e = .returned (.int .i64 i) ∧ w = w'))
    (Cv : Hid (∀ w, Calls Tryz.prog 76 #[.int .u32 x, .int .i64 28] w fun e w' => e = .returned (.bool v) ∧ Kept w w')) :
    Calls Tryz.prog 62 #[.int .u32 x] w fun e w' => e = .returned (.agg #[.int .i64 7, .int .i64 op, .int .i64 0, .int .i64 0, .int .i64 0, .int .i64 i, .bool v]) ∧ Kept w w' := by
  have X1 := Lib.hid (Box.new 0 0 0 0 0 0 false w)
  have HB := Lib.hid (show Kept w (w.alloc (.cells #[.int .i64 0, .int .i64 0, .int .i64 0, .int .i64 0, .int .i64 0, .int .i64 0, .bool false] 57)) from (Kept.refl w).alloc _ _)
  go_enter Tryz.func62, Tryz.ntmps62
  go_wp2_with fail
  refine (C0.out _).mono ?_; rintro e w0 ⟨rfl, hK0⟩
  have HK := Lib.hid hK0
  clear hK0
  go_wp2_with fail
  refine (Cu.out _).mono ?_; rintro e w1 ⟨rfl, hK1⟩
  replace HK := Lib.hid (HK.out.trans hK1)
  clear hK1
  go_wp2_with fail
  refine (Cop.out _).mono ?_; rintro e w2 ⟨rfl, hK1⟩
  replace HK := Lib.hid (HK.out.trans hK1)
  clear hK1
  go_wp2_with fail
  refine (Ci.out _).mono ?_; rintro e w' ⟨rfl, rfl⟩
  go_wp2_with fail
  refine (Cv.out _).mono ?_; rintro e w4 ⟨rfl, hK1⟩
  replace HK := Lib.hid (HK.out.trans hK1)
  clear hK1
  obtain ⟨z0, z1, z2, z3, z4, z5, z6⟩ := (X1.out.kept HK.out).cells
  obtain ⟨f0, f1, f2, f3, f4, f5, f6⟩ := (X1.out.kept HK.out).free
  have R := Lib.hid ((X1.out.kept HK.out).stored (k' := 7) (op' := op) (a' := 0) (b' := 0) (c' := 0) (i' := i) (u' := v))
  have RK := Lib.hid ((HB.out.trans HK.out).store7 (B' := w.heap.size) (by omega) (7) (op) (0) (0) (0) (i) (v))
  go_wp2_with fail
  clear z0 z1 z2 z3 z4 z5 z6 f0 f1 f2 f3 f4 f5 f6
  have R := R.out
  have RK := RK.out
  unfold store7 at R RK
  generalize (((((((w4.setCell ⟨w.heap.size, 0, none⟩ (.int .i64 (7))).setCell ⟨w.heap.size, 1, none⟩ (.int .i64 (op))).setCell ⟨w.heap.size, 2, none⟩ (.int .i64 (0))).setCell ⟨w.heap.size, 3, none⟩ (.int .i64 (0))).setCell ⟨w.heap.size, 4, none⟩ (.int .i64 (0))).setCell ⟨w.heap.size, 5, none⟩ (.int .i64 (i))).setCell ⟨w.heap.size, 6, none⟩ (.bool (v))) = w9 at R RK ⊢
  obtain ⟨r0, r1, r2, r3, r4, r5, r6⟩ := R.cells
  exact bodyPost_ret (v := .agg #[.int .i64 7, .int .i64 op, .int .i64 0, .int .i64 0, .int .i64 0, .int .i64 i, .bool v]) (by simp [results, Tryz.results62, go_sem, r0, r1, r2, r3, r4, r5, r6]) rfl ⟨rfl, RK⟩
set_option maxHeartbeats 2000000 in
theorem read_3b (x op c : Int) (v : Bool) (w : World)
    (C0 : Hid (∀ w, Calls Tryz.prog 72 #[.int .u32 x, .int .i64 30, .int .i64 2] w fun e w' => e = .returned (.int .u32 3) ∧ Kept w w'))
    (Cu : Hid (∀ w, Calls Tryz.prog 76 #[.int .u32 x, .int .i64 29] w fun e w' => e = .returned (.bool false) ∧ Kept w w'))
    (Cop : Hid (∀ w, Calls Tryz.prog 74 #[.int .u32 x, .int .i64 24, .int .i64 4] w fun e w' => e = .returned (.int .i64 op) ∧ Kept w w'))
    (Cc : Hid (∀ w, Calls Tryz.prog 74 #[.int .u32 x, .int .i64 0, .int .i64 4] w fun e w' => e = .returned (.int .i64 c) ∧ Kept w w'))
    (Cv : Hid (∀ w, Calls Tryz.prog 76 #[.int .u32 x, .int .i64 28] w fun e w' => e = .returned (.bool v) ∧ Kept w w')) :
    Calls Tryz.prog 62 #[.int .u32 x] w fun e w' => e = .returned (.agg #[.int .i64 6, .int .i64 op, .int .i64 0, .int .i64 0, .int .i64 c, .int .i64 0, .bool v]) ∧ Kept w w' := by
  have X1 := Lib.hid (Box.new 0 0 0 0 0 0 false w)
  have HB := Lib.hid (show Kept w (w.alloc (.cells #[.int .i64 0, .int .i64 0, .int .i64 0, .int .i64 0, .int .i64 0, .int .i64 0, .bool false] 57)) from (Kept.refl w).alloc _ _)
  go_enter Tryz.func62, Tryz.ntmps62
  go_wp2_with fail
  refine (C0.out _).mono ?_; rintro e w0 ⟨rfl, hK0⟩
  have HK := Lib.hid hK0
  clear hK0
  go_wp2_with fail
  refine (Cu.out _).mono ?_; rintro e w1 ⟨rfl, hK1⟩
  replace HK := Lib.hid (HK.out.trans hK1)
  clear hK1
  go_wp2_with fail
  refine (Cop.out _).mono ?_; rintro e w2 ⟨rfl, hK1⟩
  replace HK := Lib.hid (HK.out.trans hK1)
  clear hK1
  go_wp2_with fail
  refine (Cc.out _).mono ?_; rintro e w3 ⟨rfl, hK1⟩
  replace HK := Lib.hid (HK.out.trans hK1)
  clear hK1
  go_wp2_with fail
  refine (Cv.out _).mono ?_; rintro e w4 ⟨rfl, hK1⟩
  replace HK := Lib.hid (HK.out.trans hK1)
  clear hK1
  obtain ⟨z0, z1, z2, z3, z4, z5, z6⟩ := (X1.out.kept HK.out).cells
  obtain ⟨f0, f1, f2, f3, f4, f5, f6⟩ := (X1.out.kept HK.out).free
  have R := Lib.hid ((X1.out.kept HK.out).stored (k' := 6) (op' := op) (a' := 0) (b' := 0) (c' := c) (i' := 0) (u' := v))
  have RK := Lib.hid ((HB.out.trans HK.out).store7 (B' := w.heap.size) (by omega) (6) (op) (0) (0) (c) (0) (v))
  go_wp2_with fail
  clear z0 z1 z2 z3 z4 z5 z6 f0 f1 f2 f3 f4 f5 f6
  have R := R.out
  have RK := RK.out
  unfold store7 at R RK
  generalize (((((((w4.setCell ⟨w.heap.size, 0, none⟩ (.int .i64 (6))).setCell ⟨w.heap.size, 1, none⟩ (.int .i64 (op))).setCell ⟨w.heap.size, 2, none⟩ (.int .i64 (0))).setCell ⟨w.heap.size, 3, none⟩ (.int .i64 (0))).setCell ⟨w.heap.size, 4, none⟩ (.int .i64 (c))).setCell ⟨w.heap.size, 5, none⟩ (.int .i64 (0))).setCell ⟨w.heap.size, 6, none⟩ (.bool (v))) = w9 at R RK ⊢
  obtain ⟨r0, r1, r2, r3, r4, r5, r6⟩ := R.cells
  exact bodyPost_ret (v := .agg #[.int .i64 6, .int .i64 op, .int .i64 0, .int .i64 0, .int .i64 c, .int .i64 0, .bool v]) (by simp [results, Tryz.results62, go_sem, r0, r1, r2, r3, r4, r5, r6]) rfl ⟨rfl, RK⟩
end Go.Proofs.YtlmddkciamdldaaGreat

/-
  The contract of Decode.
-/
namespace Go.Proofs.YtlmddkciamdldaaGreat
open Go.RowKit
set_option linter.unusedVariables false
set_option linter.unusedSimpArgs false
set_option maxRecDepth 100000
theorem readReg_any (x : Int) (hx : U32 x) (h0 : x / 1073741824 = 0) (w : World) :
    Calls Tryz.prog 73 #[.int .u32 x] w fun e w' => e = .returned (.agg #[.int .i64 (I.guess x).k, .int .i64 (I.guess x).op, .int .i64 (I.guess x).a, .int .i64 (I.guess x).b, .int .i64 (I.guess x).c, .int .i64 (I.guess x).i, .bool (I.guess x).u]) ∧ Kept w w' := by
  have Cop := iget_lit x hx 16 4 65536 16 (by omega) (by omega) (by omega) (by omega) rfl rfl (by omega) (by omega)
  have Ca := iget_lit x hx 24 4 16777216 16 (by omega) (by omega) (by omega) (by omega) rfl rfl (by omega) (by omega)
  have Cb := iget_lit x hx 20 4 1048576 16 (by omega) (by omega) (by omega) (by omega) rfl rfl (by omega) (by omega)
  have Cc := iget_lit x hx 0 4 1 16 (by omega) (by omega) (by omega) (by omega) rfl rfl (by omega) (by omega)
  have Cu := isSet_lit x hx 29 536870912 (by omega) (by omega) rfl
  have Cv := isSet_lit x hx 28 268435456 (by omega) (by omega) rfl
  rw [Int.ediv_one] at Cc
  by_cases hz : x / 65536 % 16 = 0
  · rw [hz] at Cop
    by_cases hu : x / 536870912 % 2 = 1
    · rw [decide_eq_true hu] at Cu
      by_cases hv : x / 268435456 % 2 = 1
      · rw [decide_eq_true hv] at Cv
        have e : I.guess x = ⟨4, 0, x / 16777216 % 16, 0, 0, 0, false⟩ := by unfold I.guess; rw [if_pos h0, if_pos ⟨hu, hz⟩, if_pos hv]
        rw [e]
        exact readReg_4 x _ _ _ w (Lib.hid Cop) (Lib.hid Ca) (Lib.hid Cb) (Lib.hid Cc) (Lib.hid Cu) (Lib.hid Cv)
      · rw [decide_eq_false hv] at Cv
        have e : I.guess x = ⟨3, 0, x / 16777216 % 16, 0, 0, 0, false⟩ := by unfold I.guess; rw [if_pos h0, if_pos ⟨hu, hz⟩, if_neg hv]
        rw [e]
        exact readReg_3 x _ _ _ w (Lib.hid Cop) (Lib.hid Ca) (Lib.hid Cb) (Lib.hid Cc) (Lib.hid Cu) (Lib.hid Cv)
    · rw [decide_eq_false hu] at Cu
      have e : I.guess x = ⟨1, 0, x / 16777216 % 16, x / 1048576 % 16, x % 16, 0, false⟩ := by unfold I.guess; rw [if_pos h0, if_neg (fun h => hu h.1), hz, decide_eq_false hu]
      rw [e]
      exact readReg_2 x _ _ _ w (Lib.hid Cop) (Lib.hid Ca) (Lib.hid Cb) (Lib.hid Cc) (Lib.hid Cu)
  · have e : I.guess x = ⟨1, x / 65536 % 16, x / 16777216 % 16, x / 1048576 % 16, x % 16, 0, decide (x / 536870912 % 2 = 1)⟩ := by unfold I.guess; rw [if_pos h0, if_neg (fun h => hz h.2)]
    rw [e]
    exact readReg_1 x _ _ _ _ _ w hz (Lib.hid Cop) (Lib.hid Ca) (Lib.hid Cb) (Lib.hid Cc) (Lib.hid Cu)
theorem read_any (x : Int) (hx : U32 x) (w : World) :
    Calls Tryz.prog 62 #[.int .u32 x] w fun e w' => e = .returned (.agg #[.int .i64 (I.guess x).k, .int .i64 (I.guess x).op, .int .i64 (I.guess x).a, .int .i64 (I.guess x).b, .int .i64 (I.guess x).c, .int .i64 (I.guess x).i, .bool (I.guess x).u]) ∧ Kept w w' := by
  have C0 := get_lit x hx 30 2 1073741824 4 (by omega) (by omega) (by omega) (by omega) rfl rfl
  have Ca := iget_lit x hx 24 4 16777216 16 (by omega) (by omega) (by omega) (by omega) rfl rfl (by omega) (by omega)
  have Cb := iget_lit x hx 20 4 1048576 16 (by omega) (by omega) (by omega) (by omega) rfl rfl (by omega) (by omega)
  have Cu := isSet_lit x hx 29 536870912 (by omega) (by omega) rfl
  have Cv := isSet_lit x hx 28 268435456 (by omega) (by omega) rfl
  have hf : x / 1073741824 = 0 ∨ x / 1073741824 = 1 ∨ x / 1073741824 = 2 ∨ x / 1073741824 = 3 := by have := hx.1; have := hx.2; omega
  rcases hf with h | h | h | h
  · rw [h] at C0
    exact read_0 x _ _ _ _ _ _ _ w (Lib.hid C0) (Lib.hid (readReg_any x hx h))
  · rw [h] at C0
    have Cop := iget_lit x hx 16 4 65536 16 (by omega) (by omega) (by omega) (by omega) rfl rfl (by omega) (by omega)
    have e : I.guess x = ⟨2, x / 65536 % 16, x / 16777216 % 16, x / 1048576 % 16, 0, if x / 268435456 % 2 = 1 then x % 65536 - 65536 else x % 65536, decide (x / 536870912 % 2 = 1)⟩ := by unfold I.guess; rw [if_neg (by omega), if_pos h]
    rw [e]
    exact read_1 x _ _ _ _ _ w (Lib.hid C0) (Lib.hid Cop) (Lib.hid Ca) (Lib.hid Cb) (Lib.hid (readImm_any x hx)) (Lib.hid Cu)
  · rw [h] at C0
    have Cop := iget_lit x hx 28 2 268435456 4 (by omega) (by omega) (by omega) (by omega) rfl rfl (by omega) (by omega)
    have e : I.guess x = ⟨5, x / 268435456 % 4, x / 16777216 % 16, x / 1048576 % 16, 0, I.sx 524288 (x % 1048576), false⟩ := by unfold I.guess; rw [if_neg (by omega), if_neg (by omega), if_pos h]
    rw [e]
    exact read_2 x _ _ _ _ w (Lib.hid C0) (Lib.hid Cop) (Lib.hid Ca) (Lib.hid Cb) (Lib.hid (sgn_lit x hx 20 _ (I.sx20 x)))
  · rw [h] at C0
    by_cases hu : x / 536870912 % 2 = 1
    · rw [decide_eq_true hu] at Cu
      have e : I.guess x = ⟨7, x / 16777216 % 16, 0, 0, 0, I.sx 8388608 (x % 16777216), decide (x / 268435456 % 2 = 1)⟩ := by unfold I.guess; rw [if_neg (by omega), if_neg (by omega), if_neg (by omega), if_pos hu]
      rw [e]
      exact read_3j x _ _ _ w (Lib.hid C0) (Lib.hid Cu) (Lib.hid Ca) (Lib.hid (sgn_lit x hx 24 _ (I.sx24 x))) (Lib.hid Cv)
    · rw [decide_eq_false hu] at Cu
      have Cc := iget_lit x hx 0 4 1 16 (by omega) (by omega) (by omega) (by omega) rfl rfl (by omega) (by omega)
      rw [Int.ediv_one] at Cc
      have e : I.guess x = ⟨6, x / 16777216 % 16, 0, 0, x % 16, 0, decide (x / 268435456 % 2 = 1)⟩ := by unfold I.guess; rw [if_neg (by omega), if_neg (by omega), if_neg (by omega), if_neg hu]
      rw [e]
      exact read_3b x _ _ _ w (Lib.hid C0) (Lib.hid Cu) (Lib.hid Ca) (Lib.hid Cc) (Lib.hid Cv)
set_option maxHeartbeats 2000000 in
theorem dec_1 (x k op a b c i : Int) (u : Bool) (w : World)
    (CR : Hid (∀ w, Calls Tryz.prog 62 #[.int .u32 x] w fun e w' => e = .returned (.agg #[.int .i64 k, .int .i64 op, .int .i64 a, .int .i64 b, .int .i64 c, .int .i64 i, .bool u]) ∧ Kept w w'))
    (CE : Hid (∀ w, Calls Tryz.prog 63 #[.agg #[.int .i64 k, .int .i64 op, .int .i64 a, .int .i64 b, .int .i64 c, .int .i64 i, .bool u]] w fun e w' => e = .returned (.tuple #[.int .u32 0, .int .i64 1]) ∧ Kept w w')) :
    Calls Tryz.prog 44 #[.int .u32 x] w fun e w' => e = .returned (.tuple #[.agg #[.int .i64 0, .int .i64 0, .int .i64 0, .int .i64 0, .int .i64 0, .int .i64 0, .bool false], .bool false]) ∧ Kept w w' := by
  have X1 := Lib.hid (Box.new 0 0 0 0 0 0 false w)
  have HB := Lib.hid (show Kept w (w.alloc (.cells #[.int .i64 0, .int .i64 0, .int .i64 0, .int .i64 0, .int .i64 0, .int .i64 0, .bool false] 57)) from (Kept.refl w).alloc _ _)
  have HL := Lib.hid (show w.heap.size < (w.alloc (.cells #[.int .i64 0, .int .i64 0, .int .i64 0, .int .i64 0, .int .i64 0, .int .i64 0, .bool false] 57)).heap.size from by simp)
  go_enter Tryz.func44, Tryz.ntmps44
  go_wp2_with fail
  refine (CR.out _).mono ?_; rintro e w5 ⟨rfl, hK1⟩
  have HK := Lib.hid hK1
  have HN := Lib.hid (show w.heap.size ≠ w5.heap.size from by have := HK.out.size; have := HL.out; omega)
  clear hK1
  go_upto_region 2 with (fail)
  have XI := Box.new k op a b c i u w5
  have XZ := (X1.out.kept HK.out).alloc (.cells #[.int .i64 k, .int .i64 op, .int .i64 a, .int .i64 b, .int .i64 c, .int .i64 i, .bool u] 57)
  have KK := (HB.out.trans HK.out).alloc #[.int .i64 k, .int .i64 op, .int .i64 a, .int .i64 b, .int .i64 c, .int .i64 i, .bool u] 57
  generalize (w5.alloc (.cells #[.int .i64 k, .int .i64 op, .int .i64 a, .int .i64 b, .int .i64 c, .int .i64 i, .bool u] 57)) = w6 at XI XZ KK ⊢
  generalize w5.heap.size = B2 at HN XI ⊢
  have HI := Lib.hid XI
  have HZ := Lib.hid XZ
  have HKK := Lib.hid KK
  clear HK X1 HB HL XI XZ KK
  obtain ⟨i0, i1, i2, i3, i4, i5, i6⟩ := HI.out.cells
  go_wp2_with fail
  refine (CE.out _).mono ?_; rintro e w7 ⟨rfl, hK6⟩
  clear i0 i1 i2 i3 i4 i5 i6
  obtain ⟨i0, i1, i2, i3, i4, i5, i6⟩ := (HI.out.kept hK6).cells
  obtain ⟨z0, z1, z2, z3, z4, z5, z6⟩ := (HZ.out.kept hK6).cells
  obtain ⟨f0, f1, f2, f3, f4, f5, f6⟩ := (HZ.out.kept hK6).free
  have R := Lib.hid ((HZ.out.kept hK6).stored (k' := 0) (op' := 0) (a' := 0) (b' := 0) (c' := 0) (i' := 0) (u' := false))
  have RK := Lib.hid ((HKK.out.trans hK6).store7 (B' := w.heap.size) (by omega) (0) (0) (0) (0) (0) (0) (false))
  go_wp2_with fail
  clear z0 z1 z2 z3 z4 z5 z6 f0 f1 f2 f3 f4 f5 f6
  have R := R.out
  have RK := RK.out
  unfold store7 at R RK
  generalize (((((((w7.setCell ⟨w.heap.size, 0, none⟩ (.int .i64 (0))).setCell ⟨w.heap.size, 1, none⟩ (.int .i64 (0))).setCell ⟨w.heap.size, 2, none⟩ (.int .i64 (0))).setCell ⟨w.heap.size, 3, none⟩ (.int .i64 (0))).setCell ⟨w.heap.size, 4, none⟩ (.int .i64 (0))).setCell ⟨w.heap.size, 5, none⟩ (.int .i64 (0))).setCell ⟨w.heap.size, 6, none⟩ (.bool (false))) = w9 at R RK ⊢
  obtain ⟨r0, r1, r2, r3, r4, r5, r6⟩ := R.cells
  exact bodyPost_ret (v := .tuple #[.agg #[.int .i64 0, .int .i64 0, .int .i64 0, .int .i64 0, .int .i64 0, .int .i64 0, .bool false], .bool false]) (by simp [results, Tryz.results44, go_sem, r0, r1, r2, r3, r4, r5, r6]) rfl ⟨rfl, RK⟩
set_option maxHeartbeats 2000000 in
theorem dec_2 (x k op a b c i own : Int) (u : Bool) (hne : ¬ own = x) (hn1 : (own == x) = false) (hn2 : (own != x) = true) (w : World)
    (CR : Hid (∀ w, Calls Tryz.prog 62 #[.int .u32 x] w fun e w' => e = .returned (.agg #[.int .i64 k, .int .i64 op, .int .i64 a, .int .i64 b, .int .i64 c, .int .i64 i, .bool u]) ∧ Kept w w'))
    (CE : Hid (∀ w, Calls Tryz.prog 63 #[.agg #[.int .i64 k, .int .i64 op, .int .i64 a, .int .i64 b, .int .i64 c, .int .i64 i, .bool u]] w fun e w' => e = .returned (.tuple #[.int .u32 own, .int .i64 0]) ∧ Kept w w')) :
    Calls Tryz.prog 44 #[.int .u32 x] w fun e w' => e = .returned (.tuple #[.agg #[.int .i64 0, .int .i64 0, .int .i64 0, .int .i64 0, .int .i64 0, .int .i64 0, .bool false], .bool false]) ∧ Kept w w' := by
  have X1 := Lib.hid (Box.new 0 0 0 0 0 0 false w)
  have HB := Lib.hid (show Kept w (w.alloc (.cells #[.int .i64 0, .int .i64 0, .int .i64 0, .int .i64 0, .int .i64 0, .int .i64 0, .bool false] 57)) from (Kept.refl w).alloc _ _)
  have HL := Lib.hid (show w.heap.size < (w.alloc (.cells #[.int .i64 0, .int .i64 0, .int .i64 0, .int .i64 0, .int .i64 0, .int .i64 0, .bool false] 57)).heap.size from by simp)
  go_enter Tryz.func44, Tryz.ntmps44
  go_wp2_with fail
  refine (CR.out _).mono ?_; rintro e w5 ⟨rfl, hK1⟩
  have HK := Lib.hid hK1
  have HN := Lib.hid (show w.heap.size ≠ w5.heap.size from by have := HK.out.size; have := HL.out; omega)
  clear hK1
  go_upto_region 2 with (fail)
  have XI := Box.new k op a b c i u w5
  have XZ := (X1.out.kept HK.out).alloc (.cells #[.int .i64 k, .int .i64 op, .int .i64 a, .int .i64 b, .int .i64 c, .int .i64 i, .bool u] 57)
  have KK := (HB.out.trans HK.out).alloc #[.int .i64 k, .int .i64 op, .int .i64 a, .int .i64 b, .int .i64 c, .int .i64 i, .bool u] 57
  generalize (w5.alloc (.cells #[.int .i64 k, .int .i64 op, .int .i64 a, .int .i64 b, .int .i64 c, .int .i64 i, .bool u] 57)) = w6 at XI XZ KK ⊢
  generalize w5.heap.size = B2 at HN XI ⊢
  have HI := Lib.hid XI
  have HZ := Lib.hid XZ
  have HKK := Lib.hid KK
  clear HK X1 HB HL XI XZ KK
  obtain ⟨i0, i1, i2, i3, i4, i5, i6⟩ := HI.out.cells
  go_wp2_with fail
  refine (CE.out _).mono ?_; rintro e w7 ⟨rfl, hK6⟩
  clear i0 i1 i2 i3 i4 i5 i6
  obtain ⟨i0, i1, i2, i3, i4, i5, i6⟩ := (HI.out.kept hK6).cells
  obtain ⟨z0, z1, z2, z3, z4, z5, z6⟩ := (HZ.out.kept hK6).cells
  obtain ⟨f0, f1, f2, f3, f4, f5, f6⟩ := (HZ.out.kept hK6).free
  have R := Lib.hid ((HZ.out.kept hK6).stored (k' := 0) (op' := 0) (a' := 0) (b' := 0) (c' := 0) (i' := 0) (u' := false))
  have RK := Lib.hid ((HKK.out.trans hK6).store7 (B' := w.heap.size) (by omega) (0) (0) (0) (0) (0) (0) (false))
  go_wp2_with fail
  clear z0 z1 z2 z3 z4 z5 z6 f0 f1 f2 f3 f4 f5 f6
  have R := R.out
  have RK := RK.out
  unfold store7 at R RK
  generalize (((((((w7.setCell ⟨w.heap.size, 0, none⟩ (.int .i64 (0))).setCell ⟨w.heap.size, 1, none⟩ (.int .i64 (0))).setCell ⟨w.heap.size, 2, none⟩ (.int .i64 (0))).setCell ⟨w.heap.size, 3, none⟩ (.int .i64 (0))).setCell ⟨w.heap.size, 4, none⟩ (.int .i64 (0))).setCell ⟨w.heap.size, 5, none⟩ (.int .i64 (0))).setCell ⟨w.heap.size, 6, none⟩ (.bool (false))) = w9 at R RK ⊢
  obtain ⟨r0, r1, r2, r3, r4, r5, r6⟩ := R.cells
  exact bodyPost_ret (v := .tuple #[.agg #[.int .i64 0, .int .i64 0, .int .i64 0, .int .i64 0, .int .i64 0, .int .i64 0, .bool false], .bool false]) (by simp [results, Tryz.results44, go_sem, r0, r1, r2, r3, r4, r5, r6]) rfl ⟨rfl, RK⟩
set_option maxHeartbeats 2000000 in
theorem dec_3 (x k op a b c i : Int) (u : Bool) (w : World)
    (CR : Hid (∀ w, Calls Tryz.prog 62 #[.int .u32 x] w fun e w' => e = .returned (.agg #[.int .i64 k, .int .i64 op, .int .i64 a, .int .i64 b, .int .i64 c, .int .i64 i, .bool u]) ∧ Kept w w'))
    (CE : Hid (∀ w, Calls Tryz.prog 63 #[.agg #[.int .i64 k, .int .i64 op, .int .i64 a, .int .i64 b, .int .i64 c, .int .i64 i, .bool u]] w fun e w' => e = .returned (.tuple #[.int .u32 x, .int .i64 0]) ∧ Kept w w')) :
    Calls Tryz.prog 44 #[.int .u32 x] w fun e w' => e = .returned (.tuple #[.agg #[.int .i64 k, .int .i64 op, .int .i64 a, .int .i64 b, .int .i64 c, .int .i64 i, .bool u], .bool true]) ∧ Kept w w' := by
  have X1 := Lib.hid (Box.new 0 0 0 0 0 0 false w)
  have HB := Lib.hid (show Kept w (w.alloc (.cells #[.int .i64 0, .int .i64 0, .int .i64 0, .int .i64 0, .int .i64 0, .int .i64 0, .bool false] 57)) from (Kept.refl w).alloc _ _)
  have HL := Lib.hid (show w.heap.size < (w.alloc (.cells #[.int .i64 0, .int .i64 0, .int .i64 0, .int .i64 0, .int .i64 0, .int .i64 0, .bool false] 57)).heap.size from by simp)
  go_enter Tryz.func44, Tryz.ntmps44
  go_wp2_with fail
  refine (CR.out _).mono ?_; rintro e w5 ⟨rfl, hK1⟩
  have HK := Lib.hid hK1
  have HN := Lib.hid (show w.heap.size ≠ w5.heap.size from by have := HK.out.size; have := HL.out; omega)
  clear hK1
  go_upto_region 2 with (fail)
  have XI := Box.new k op a b c i u w5
  have XZ := (X1.out.kept HK.out).alloc (.cells #[.int .i64 k, .int .i64 op, .int .i64 a, .int .i64 b, .int .i64 c, .int .i64 i, .bool u] 57)
  have KK := (HB.out.trans HK.out).alloc #[.int .i64 k, .int .i64 op, .int .i64 a, .int .i64 b, .int .i64 c, .int .i64 i, .bool u] 57
  generalize (w5.alloc (.cells #[.int .i64 k, .int .i64 op, .int .i64 a, .int .i64 b, .int .i64 c, .int .i64 i, .bool u] 57)) = w6 at XI XZ KK ⊢
  generalize w5.heap.size = B2 at HN XI ⊢
  have HI := Lib.hid XI
  have HZ := Lib.hid XZ
  have HKK := Lib.hid KK
  clear HK X1 HB HL XI XZ KK
  obtain ⟨i0, i1, i2, i3, i4, i5, i6⟩ := HI.out.cells
  go_wp2_with fail
  refine (CE.out _).mono ?_; rintro e w7 ⟨rfl, hK6⟩
  clear i0 i1 i2 i3 i4 i5 i6
  obtain ⟨i0, i1, i2, i3, i4, i5, i6⟩ := (HI.out.kept hK6).cells
  obtain ⟨z0, z1, z2, z3, z4, z5, z6⟩ := (HZ.out.kept hK6).cells
  obtain ⟨f0, f1, f2, f3, f4, f5, f6⟩ := (HZ.out.kept hK6).free
  have R := Lib.hid ((HZ.out.kept hK6).stored (k' := k) (op' := op) (a' := a) (b' := b) (c' := c) (i' := i) (u' := u))
  have RK := Lib.hid ((HKK.out.trans hK6).store7 (B' := w.heap.size) (by omega) (k) (op) (a) (b) (c) (i) (u))
  go_wp2_with fail
  clear z0 z1 z2 z3 z4 z5 z6 f0 f1 f2 f3 f4 f5 f6
  have R := R.out
  have RK := RK.out
  unfold store7 at R RK
  generalize (((((((w7.setCell ⟨w.heap.size, 0, none⟩ (.int .i64 (k))).setCell ⟨w.heap.size, 1, none⟩ (.int .i64 (op))).setCell ⟨w.heap.size, 2, none⟩ (.int .i64 (a))).setCell ⟨w.heap.size, 3, none⟩ (.int .i64 (b))).setCell ⟨w.heap.size, 4, none⟩ (.int .i64 (c))).setCell ⟨w.heap.size, 5, none⟩ (.int .i64 (i))).setCell ⟨w.heap.size, 6, none⟩ (.bool (u))) = w9 at R RK ⊢
  obtain ⟨r0, r1, r2, r3, r4, r5, r6⟩ := R.cells
  exact bodyPost_ret (v := .tuple #[.agg #[.int .i64 k, .int .i64 op, .int .i64 a, .int .i64 b, .int .i64 c, .int .i64 i, .bool u], .bool true]) (by simp [results, Tryz.results44, go_sem, r0, r1, r2, r3, r4, r5, r6]) rfl ⟨rfl, RK⟩
theorem dec_any (x : Int) (hx : U32 x) (w : World) :
    Calls Tryz.prog 44 #[.int .u32 x] w fun e w' => e = .returned (.tuple #[.agg #[.int .i64 (I.dec x).k, .int .i64 (I.dec x).op, .int .i64 (I.dec x).a, .int .i64 (I.dec x).b, .int .i64 (I.dec x).c, .int .i64 (I.dec x).i, .bool (I.dec x).u], .bool (I.is x)]) ∧ Kept w w' := by
  have CR := read_any x hx
  have CE := enc_any (I.guess x).k (I.guess x).op (I.guess x).a (I.guess x).b (I.guess x).c (I.guess x).i (I.guess x).u
  by_cases hm : I.may (I.guess x) = true
  · have e1 : I.err (I.guess x) = 0 := by simp [I.err, hm]
    have e2 : I.enc (I.guess x) = I.word (I.guess x) := by simp [I.enc, hm]
    have CE : ∀ w, Calls Tryz.prog 63 #[.agg #[.int .i64 (I.guess x).k, .int .i64 (I.guess x).op, .int .i64 (I.guess x).a, .int .i64 (I.guess x).b, .int .i64 (I.guess x).c, .int .i64 (I.guess x).i, .bool (I.guess x).u]] w fun e w' => e = .returned (.tuple #[.int .u32 (I.enc (I.guess x)), .int .i64 (I.err (I.guess x))]) ∧ Kept w w' := CE
    rw [e1, e2] at CE
    by_cases ho : I.word (I.guess x) = x
    · have e3 : I.is x = true := by simp [I.is, hm, ho]
      rw [ho] at CE
      rw [show I.dec x = I.guess x by simp [I.dec, e3], e3]
      exact dec_3 x _ _ _ _ _ _ _ w (Lib.hid CR) (Lib.hid CE)
    · have e3 : I.is x = false := by simp [I.is, ho]
      rw [show I.dec x = ⟨0, 0, 0, 0, 0, 0, false⟩ by simp [I.dec, e3], e3]
      exact dec_2 x _ _ _ _ _ _ _ _ ho (by simpa using ho) (by simpa using ho) w (Lib.hid CR) (Lib.hid CE)
  · have hm : I.may (I.guess x) = false := by simpa using hm
    have e1 : I.err (I.guess x) = 1 := by simp [I.err, hm]
    have e2 : I.enc (I.guess x) = 0 := by simp [I.enc, hm]
    have CE : ∀ w, Calls Tryz.prog 63 #[.agg #[.int .i64 (I.guess x).k, .int .i64 (I.guess x).op, .int .i64 (I.guess x).a, .int .i64 (I.guess x).b, .int .i64 (I.guess x).c, .int .i64 (I.guess x).i, .bool (I.guess x).u]] w fun e w' => e = .returned (.tuple #[.int .u32 (I.enc (I.guess x)), .int .i64 (I.err (I.guess x))]) ∧ Kept w w' := CE
    rw [e1, e2] at CE
    have e3 : I.is x = false := by simp [I.is, hm]
    rw [show I.dec x = ⟨0, 0, 0, 0, 0, 0, false⟩ by simp [I.dec, e3], e3]
    exact dec_1 x _ _ _ _ _ _ _ w (Lib.hid CR) (Lib.hid CE)
end Go.Proofs.YtlmddkciamdldaaGreat

/-
  A step of a machine, plainly; the contract of do.
-/
namespace Go.Proofs.YtlmddkciamdldaaGreat
open Go.RowKit
set_option linter.unusedVariables false
set_option linter.unusedSimpArgs false
set_option maxRecDepth 100000
namespace X
def beh (x : St) : Int := (x.pc + 4) % 4294967296
def adr (x : St) (j : I.Ins) : Int := (x.s.r j.b.toNat + j.i % 4294967296) % 4294967296
noncomputable def doS (x : St) (j : I.Ins) : A.Regs :=
  if j.k = 5 then (if j.op = 0 then A.show' (A.set x.s j.a.toNat (ldV x (adr x j))) (ldV x (adr x j)) else if j.op = 1 then A.show' (A.set x.s j.a.toNat (M.byte x.ws (adr x j))) (M.byte x.ws (adr x j)) else x.s)
  else if j.k = 6 ∨ j.k = 7 then brS x.s (beh x) j.op j.u else (A.run x.s j).1
def doP (x : St) (j : I.Ins) : Int := if j.k = 6 ∨ j.k = 7 then brP x.s (beh x) j.k j.op j.c j.i else beh x
noncomputable def doT (x : St) (j : I.Ins) : Int :=
  if j.k = 5 then (if j.op = 0 then ldT x (adr x j) else if j.op = 1 then M.bt x.ws (adr x j) else if j.op = 2 then swT x (adr x j) else M.bt x.ws (adr x j))
  else if j.k = 6 ∨ j.k = 7 then 0 else (A.run x.s j).2
def doX (x : St) (j : I.Ins) : St :=
  if j.k = 5 then (if j.op = 0 then ⟨x.ws, x.s, x.pc, x.st, ldI x (adr x j), x.outs⟩ else if j.op = 1 then x else if j.op = 2 then ⟨swW x (adr x j) (x.s.r j.a.toNat), x.s, x.pc, x.st, x.ins, swO x (adr x j) (x.s.r j.a.toNat)⟩ else ⟨M.setB x.ws (adr x j) (x.s.r j.a.toNat % 256), x.s, x.pc, x.st, x.ins, x.outs⟩)
  else x
noncomputable def nextT (x : St) : Int := if M.wt x.ws x.pc = 0 then (if I.is (M.word x.ws x.pc) = true then doT x (I.dec (M.word x.ws x.pc)) else 2) else M.wt x.ws x.pc
noncomputable def nextX (x : St) : St :=
  if M.wt x.ws x.pc = 0 ∧ I.is (M.word x.ws x.pc) = true then
    (if doT x (I.dec (M.word x.ws x.pc)) = 0 ∨ doT x (I.dec (M.word x.ws x.pc)) = 1 then ⟨(doX x (I.dec (M.word x.ws x.pc))).ws, doS x (I.dec (M.word x.ws x.pc)), doP x (I.dec (M.word x.ws x.pc)), x.st, (doX x (I.dec (M.word x.ws x.pc))).ins, (doX x (I.dec (M.word x.ws x.pc))).outs⟩
    else doX x (I.dec (M.word x.ws x.pc)))
  else x
noncomputable def step (x : St) : St := if x.st = 0 then ⟨(nextX x).ws, (nextX x).s, (nextX x).pc, nextT x, (nextX x).ins, (nextX x).outs⟩ else x
theorem beh_ok (x : St) : 0 ≤ beh x ∧ beh x < 4294967296 := by unfold beh; omega
theorem adr_ok (x : St) (j : I.Ins) : 0 ≤ adr x j ∧ adr x j < 4294967296 := by unfold adr; omega
theorem doX_eq (x : St) (j : I.Ins) : (doX x j).s = x.s ∧ (doX x j).pc = x.pc ∧ (doX x j).st = x.st := by
  unfold doX
  split
  · split
    · exact ⟨rfl, rfl, rfl⟩
    · split
      · exact ⟨rfl, rfl, rfl⟩
      · split <;> exact ⟨rfl, rfl, rfl⟩
  · exact ⟨rfl, rfl, rfl⟩
theorem swO_len (x : St) (a v : Int) : (swO x a v).length ≤ x.outs.length + 1 := by
  unfold swO
  split
  · simp
  · omega
theorem doX_outs (x : St) (j : I.Ins) : (doX x j).outs.length ≤ x.outs.length + 1 := by
  unfold doX
  split
  · split
    · simp
    · split
      · omega
      · split
        · exact swO_len _ _ _
        · simp
  · omega
theorem step_outs (x : St) : (step x).outs.length ≤ x.outs.length + 1 := by
  unfold step
  split
  · show (nextX x).outs.length ≤ _
    unfold nextX
    split
    · split <;> exact doX_outs _ _
    · omega
  · omega
theorem word_ok (ws : List Int) (a : Int) (h : ∀ y ∈ ws, 0 ≤ y ∧ y < 4294967296) : 0 ≤ M.word ws a ∧ M.word ws a < 4294967296 := by
  unfold M.word
  split
  · by_cases c : (a / 4).toNat < ws.length
    · rw [show ws.getD (a / 4).toNat 0 = ws[(a / 4).toNat] by simp [c]]
      exact h _ (List.getElem_mem c)
    · rw [show ws.getD (a / 4).toNat 0 = 0 by simp [List.getElem?_eq_none (by omega : ws.length ≤ (a / 4).toNat)]]
      omega
  · omega
theorem byte_ok (ws : List Int) (a : Int) : 0 ≤ M.byte ws a ∧ M.byte ws a < 256 := by
  unfold M.byte
  split <;> omega
theorem head_ok (l : List Int) (h : ∀ y ∈ l, 0 ≤ y ∧ y < 4294967296) : 0 ≤ l.headD 0 ∧ l.headD 0 < 4294967296 := by
  cases l with
  | nil => simp
  | cons y r => exact h y (by simp)
theorem ldV_ok (x : St) (a : Int) (h1 : ∀ y ∈ x.ws, 0 ≤ y ∧ y < 4294967296) (h2 : ∀ y ∈ x.ins, 0 ≤ y ∧ y < 4294967296) : 0 ≤ ldV x a ∧ ldV x a < 4294967296 := by
  unfold ldV
  split
  · exact head_ok _ h2
  · exact word_ok _ _ h1
theorem brS_ok (s : A.Regs) (y op : Int) (u : Bool) (hs : A.Ok s) (h0 : 0 ≤ y) (h1 : y < 4294967296) : A.Ok (brS s y op u) := by
  unfold brS
  split
  · exact A.ok_set s 15 y hs h0 h1
  · exact hs
theorem brP_ok (s : A.Regs) (y k op c i : Int) (hs : A.Ok s) (h0 : 0 ≤ y) (h1 : y < 4294967296) (c1 : c < 16) : 0 ≤ brP s y k op c i ∧ brP s y k op c i < 4294967296 := by
  unfold brP
  split
  · split
    · exact hs.1 _ (by omega)
    · omega
  · exact ⟨h0, h1⟩
theorem doS_ok (x : St) (j : I.Ins) (hs : A.Ok x.s) (h1 : ∀ y ∈ x.ws, 0 ≤ y ∧ y < 4294967296) (h2 : ∀ y ∈ x.ins, 0 ≤ y ∧ y < 4294967296) : A.Ok (doS x j) := by
  unfold doS
  split
  · split
    · have := ldV_ok x (adr x j) h1 h2
      exact A.ok_show _ _ (A.ok_set _ _ _ hs this.1 this.2)
    · split
      · have := byte_ok x.ws (adr x j)
        exact A.ok_show _ _ (A.ok_set _ _ _ hs this.1 (by omega))
      · exact hs
  · split
    · exact brS_ok _ _ _ _ hs (beh_ok x).1 (beh_ok x).2
    · exact A.run_ok _ _ hs
theorem doP_ok (x : St) (j : I.Ins) (hs : A.Ok x.s) (hc : j.c < 16) : 0 ≤ doP x j ∧ doP x j < 4294967296 := by
  unfold doP
  split
  · exact brP_ok _ _ _ _ _ _ hs (beh_ok x).1 (beh_ok x).2 hc
  · exact beh_ok x
end X
theorem move_any {F : Nat → Prop} {B : Nat} {x : X.St} {w : World} (h : Mac F B x w) (op a b c i : Int) (u : Bool) (hm : I.May ⟨5, op, a, b, c, i, u⟩) (hn : x.outs.length < 1000000) :
    Calls Tryz.prog 64 #[.pointer (some ⟨B, 0, none⟩), .agg #[.int .i64 5, .int .i64 op, .int .i64 a, .int .i64 b, .int .i64 c, .int .i64 i, .bool u]] w fun e w' => e = .returned (.tuple #[.agg (A.cells (X.doS x ⟨5, op, a, b, c, i, u⟩)), .int .i64 (X.doT x ⟨5, op, a, b, c, i, u⟩)]) ∧ ∃ F', Mac F' B (X.doX x ⟨5, op, a, b, c, i, u⟩) w' ∧ Turn F w w' ∧ ∀ k, F' k → F k ∨ w.heap.size ≤ k := by
  obtain ⟨⟨a0, a1, b0, b1, c0, c1⟩, hm2⟩ := hm
  simp only at a0 a1 b0 b1 c0 c1 hm2
  have ho : op = 0 ∨ op = 1 ∨ op = 2 ∨ op = 3 := by omega
  obtain ⟨ai, ni, ci, ao, no, co, hA⟩ := h
  have hws := hA.mem.rng
  have hin := hA.ins.rng
  have hadr := X.adr_ok x ⟨5, op, a, b, c, i, u⟩
  rcases ho with rfl | rfl | rfl | rfl
  · have hv := X.ldV_ok x (X.adr x ⟨5, 0, a, b, c, i, u⟩) hws hin
    refine (move_0 hA 5 a b c i _ _ _ u a0 (by omega) b0 (by omega) hadr.1 hadr.2 rfl hv.1 hv.2 fun w' h' => busLoad_any h' _ hadr.1 hadr.2).mono ?_
    rintro e w' ⟨he, hB, ai', ni', ci', h3⟩
    exact ⟨he, F, ⟨_, _, _, _, _, _, h3⟩, hB.turn hA.inB, fun k hk => Or.inl hk⟩
  · have hv := X.byte_ok x.ws (X.adr x ⟨5, 1, a, b, c, i, u⟩)
    refine (move_1 hA 5 a b c i _ _ _ u a0 (by omega) b0 (by omega) hadr.1 hadr.2 rfl hv.1 hv.2 fun w' h' => M.byte_any h'.mem _ hadr.1 hadr.2).mono ?_
    rintro e w' ⟨he, hK⟩
    exact ⟨he, F, ⟨_, _, _, _, _, _, hA.kept hK⟩, hK.turn F, fun k hk => Or.inl hk⟩
  · have hr := hA.ok.1 a.toNat (by omega)
    refine (move_2 hA 5 a b c i _ _ _ u a0 (by omega) b0 (by omega) hadr.1 hadr.2 rfl rfl _ _ fun w' h' => busStore_any h' _ _ hadr.1 hadr.2 hr.1 hr.2 hn).mono ?_
    rintro e w' ⟨he, F', ao', no', co', h3, h4, h5⟩
    exact ⟨he, F', ⟨_, _, _, _, _, _, h3⟩, h4, h5⟩
  · refine (move_3 hA 5 a b c i (X.adr x ⟨5, 3, a, b, c, i, u⟩) (M.bt x.ws (X.adr x ⟨5, 3, a, b, c, i, u⟩)) (x.s.r a.toNat % 256) u a0 (by omega) b0 (by omega) hadr.1 hadr.2 rfl rfl (M.setB x.ws (X.adr x ⟨5, 3, a, b, c, i, u⟩) (x.s.r a.toNat % 256)) fun w' h' => (M.setB_any h'.mem _ _ hadr.1 hadr.2 (by omega) (by omega)).mono ?_).mono ?_
    · rintro e w2 ⟨he, h3, hB⟩
      exact ⟨he, hB, h'.own hB _ _ _ _ h3 h'.ok h'.pc0 h'.pc1⟩
    · rintro e w' ⟨he, hB, h3⟩
      exact ⟨he, F, ⟨_, _, _, _, _, _, h3⟩, hB.turn hA.inB, fun k hk => Or.inl hk⟩
theorem do_any {F : Nat → Prop} {B : Nat} {x : X.St} {w : World} (h : Mac F B x w) (k op a b c i : Int) (u : Bool) (hm : I.May ⟨k, op, a, b, c, i, u⟩) (hn : x.outs.length < 1000000) :
    Calls Tryz.prog 45 #[.pointer (some ⟨B, 0, none⟩), .agg #[.int .i64 k, .int .i64 op, .int .i64 a, .int .i64 b, .int .i64 c, .int .i64 i, .bool u]] w fun e w' => e = .returned (.tuple #[.agg (A.cells (X.doS x ⟨k, op, a, b, c, i, u⟩)), .int .u32 (X.doP x ⟨k, op, a, b, c, i, u⟩), .int .i64 (X.doT x ⟨k, op, a, b, c, i, u⟩)]) ∧ ∃ F', Mac F' B (X.doX x ⟨k, op, a, b, c, i, u⟩) w' ∧ Turn F w w' ∧ ∀ k, F' k → F k ∨ w.heap.size ≤ k := by
  have hok := h.bounds.1
  have hb := X.beh_ok x
  by_cases k5 : k = 5
  · subst k5
    exact do_5 h op a b c i _ _ _ u rfl fun w' h' => move_any h' op a b c i u hm hn
  · have hX : X.doX x ⟨k, op, a, b, c, i, u⟩ = x := if_neg k5
    rw [hX]
    obtain ⟨⟨a0, a1, b0, b1, c0, c1⟩, hm2⟩ := hm
    simp only at a0 a1 b0 b1 c0 c1 hm2
    have fin : ∀ (e : Ending) (w' : World) (v : Value), (e = .returned v ∧ Kept w w') → e = .returned v ∧ ∃ F', Mac F' B x w' ∧ Turn F w w' ∧ ∀ k, F' k → F k ∨ w.heap.size ≤ k := fun e w' v hh => ⟨hh.1, F, h.kept hh.2, hh.2.turn F, fun k hk => Or.inl hk⟩
    by_cases k67 : k = 6 ∨ k = 7
    · have e1 : X.doS x ⟨k, op, a, b, c, i, u⟩ = X.brS x.s (X.beh x) op u := by unfold X.doS; rw [if_neg k5, if_pos k67]
      have e2 : X.doP x ⟨k, op, a, b, c, i, u⟩ = X.brP x.s (X.beh x) k op c i := by unfold X.doP; rw [if_pos k67]
      have e3 : X.doT x ⟨k, op, a, b, c, i, u⟩ = 0 := by unfold X.doT; rw [if_neg k5, if_pos k67]
      rw [e1, e2, e3]
      have L := fun w' => branch_any x.s (X.beh x) k op a b c i u hb.1 hb.2 c0 (by omega) (by omega) (by omega) k67 w'
      rcases k67 with rfl | rfl
      · exact (do_6 h op a b c i _ _ _ u rfl L).mono fun e w' hh => fin e w' _ hh
      · exact (do_7 h op a b c i _ _ _ u rfl L).mono fun e w' hh => fin e w' _ hh
    · have e1 : X.doS x ⟨k, op, a, b, c, i, u⟩ = (A.run x.s ⟨k, op, a, b, c, i, u⟩).1 := by unfold X.doS; rw [if_neg k5, if_neg k67]
      have e2 : X.doP x ⟨k, op, a, b, c, i, u⟩ = X.beh x := by unfold X.doP; rw [if_neg k67]
      have e3 : X.doT x ⟨k, op, a, b, c, i, u⟩ = (A.run x.s ⟨k, op, a, b, c, i, u⟩).2 := by unfold X.doT; rw [if_neg k5, if_neg k67]
      rw [e1, e2, e3]
      exact (do_0 h k op a b c i _ _ _ u k5 (by omega) (by omega) rfl fun w' => do_run x.s k op a b c i u hok w').mono fun e w' hh => fin e w' _ hh
end Go.Proofs.YtlmddkciamdldaaGreat

/-
  The contracts of package machine: next, Step, Run; what it tells.
-/
namespace Go.Proofs.YtlmddkciamdldaaGreat
open Go.RowKit
set_option linter.unusedVariables false
set_option linter.unusedSimpArgs false
set_option maxRecDepth 100000
theorem Mac.rngs {F : Nat → Prop} {B : Nat} {x : X.St} {w : World} (h : Mac F B x w) : (∀ y ∈ x.ws, 0 ≤ y ∧ y < 4294967296) ∧ (∀ y ∈ x.ins, 0 ≤ y ∧ y < 4294967296) ∧ (∀ y ∈ x.outs, 0 ≤ y ∧ y < 4294967296) ∧ x.ws.length ≤ 4096 := by
  obtain ⟨_, _, _, _, _, _, h⟩ := h; exact ⟨h.mem.rng, h.ins.rng, h.rng, h.mem.len⟩
theorem Mac.word_any {F : Nat → Prop} {B : Nat} {x : X.St} {w : World} (h : Mac F B x w) (a : Int) (h0 : 0 ≤ a) (h1 : a < 4294967296) :
    Calls Tryz.prog 43 #[.pointer (some ⟨B, 0, none⟩), .int .u32 a] w fun e w' => e = .returned (.tuple #[.int .u32 (M.word x.ws a), .int .i64 (M.wt x.ws a)]) ∧ w = w' := by
  obtain ⟨_, _, _, _, _, _, h⟩ := h; exact M.word_any h.mem a h0 h1
/-- the registers and the place are set -/
theorem Mac.put {F : Nat → Prop} {B : Nat} {x : X.St} {w : World} (h : Mac F B x w) (s : A.Regs) (pc : Int) (ok : A.Ok s) (p0 : 0 ≤ pc) (p1 : pc < 4294967296) :
    Mac F B ⟨x.ws, s, pc, x.st, x.ins, x.outs⟩ ((w.setCells B 4099 (A.cells s).toList).setCell ⟨B, 4120, none⟩ (.int .u32 pc)) ∧ But B w ((w.setCells B 4099 (A.cells s).toList).setCell ⟨B, 4120, none⟩ (.int .u32 pc)) := by
  obtain ⟨ai, ni, ci, ao, no, co, h⟩ := h
  have hB : But B w ((w.setCells B 4099 (A.cells s).toList).setCell ⟨B, 4120, none⟩ (.int .u32 pc)) := (but_setCells _ _ _ _ (But.refl B w)).setCell _ _
  have h1 := h.mem.setN (A.cells s).toList 2
  rw [X.tl_regs] at h1
  have h2 := h1.set1 23 (.int .u32 pc)
  rw [X.tl_pc] at h2
  exact ⟨⟨ai, ni, ci, ao, no, co, h.own hB _ _ _ _ h2 ok p0 p1⟩, hB⟩
theorem Mac.there {F : Nat → Prop} {B : Nat} {x : X.St} {w : World} (h : Mac F B x w) : w.there B 4099 21 := by
  obtain ⟨ai, ni, ci, ao, no, co, h⟩ := h
  exact h.mem.there 4099 21 (by rw [X.tl_len]; omega)
theorem Mac.setSt {F : Nat → Prop} {B : Nat} {x : X.St} {w : World} (h : Mac F B x w) (t : Int) : Mac F B ⟨x.ws, x.s, x.pc, t, x.ins, x.outs⟩ (w.setCell ⟨B, 4121, none⟩ (.int .i64 t)) ∧ But B w (w.setCell ⟨B, 4121, none⟩ (.int .i64 t)) := by
  obtain ⟨ai, ni, ci, ao, no, co, h⟩ := h
  have hB : But B w (w.setCell ⟨B, 4121, none⟩ (.int .i64 t)) := (But.refl B w).setCell _ _
  have h2 := h.mem.set1 24 (.int .i64 t)
  rw [X.tl_st] at h2
  exact ⟨⟨ai, ni, ci, ao, no, co, h.own hB _ _ _ _ h2 h.ok h.pc0 h.pc1⟩, hB⟩
/-- the place of the instruction traps -/
theorem next_trap {F : Nat → Prop} {B : Nat} {x : X.St} {w : World} (h : Mac F B x w) (v t : Int) (ht : ¬ t = 0)
    (L : ∀ w, Mac F B x w → Calls Tryz.prog 43 #[.pointer (some ⟨B, 0, none⟩), .int .u32 x.pc] w fun e w' => e = .returned (.tuple #[.int .u32 v, .int .i64 t]) ∧ w = w') :
    Calls Tryz.prog 28 #[.pointer (some ⟨B, 0, none⟩)] w fun e w' => e = .returned (.int .i64 t) ∧ Kept w w' := by
  have cp := h.pc
  have C := L w h
  have L' := fun n => L _ (h.kept ((Kept.refl w).drewN n))
  have t2 : (t == 0) = false := by simpa using ht
  have t3 : (t != 0) = true := by simpa using ht
  go_enter Tryz.func28, Tryz.ntmps28
  go_upto_region 1 with (fail)
  go_quiet ((go_at_call 43; exact Calls.quiet_of_same ((L' _).mono fun _ _ h => ⟨h.1, h.2.symm⟩)))
  go_wp2
  go_ret
  exact ⟨rfl, (Kept.refl w).drewN nq⟩
/-- no instruction -/
theorem next_ill {F : Nat → Prop} {B : Nat} {x : X.St} {w : World} (h : Mac F B x w) (v k op a b c i : Int) (u : Bool)
    (L : ∀ w, Mac F B x w → Calls Tryz.prog 43 #[.pointer (some ⟨B, 0, none⟩), .int .u32 x.pc] w fun e w' => e = .returned (.tuple #[.int .u32 v, .int .i64 0]) ∧ w = w')
    (D : ∀ w, Calls Tryz.prog 44 #[.int .u32 v] w fun e w' => e = .returned (.tuple #[.agg #[.int .i64 k, .int .i64 op, .int .i64 a, .int .i64 b, .int .i64 c, .int .i64 i, .bool u], .bool false]) ∧ Kept w w') :
    Calls Tryz.prog 28 #[.pointer (some ⟨B, 0, none⟩)] w fun e w' => e = .returned (.int .i64 2) ∧ Kept w w' := by
  have cp := h.pc
  have L' := fun n => L _ (h.kept ((Kept.refl w).drewN n))
  go_enter Tryz.func28, Tryz.ntmps28
  go_upto_region 1 with (fail)
  go_quiet ((go_at_call 43; exact Calls.quiet_of_same ((L' _).mono fun _ _ h => ⟨h.1, h.2.symm⟩)))
  go_wp2_with (fail)
  refine (D _).mono ?_; rintro e w2 ⟨rfl, hK2⟩
  have hK := Lib.hid (((Kept.refl w).drewN nq).trans hK2)
  clear hK2 cp L L' D h
  go_wp2
  go_ret
  exact ⟨rfl, hK.out.alloc _ _⟩
theorem next_do {F : Nat → Prop} {B : Nat} {x x' : X.St} {w : World} (h : Mac F B x w) (v k op a b c i y t : Int) (S' : A.Regs) (u : Bool) (hx : x'.s = x.s ∧ x'.pc = x.pc ∧ x'.st = x.st) (hS : A.Ok S') (y0 : 0 ≤ y) (y1 : y < 4294967296)
    (L : ∀ w, Mac F B x w → Calls Tryz.prog 43 #[.pointer (some ⟨B, 0, none⟩), .int .u32 x.pc] w fun e w' => e = .returned (.tuple #[.int .u32 v, .int .i64 0]) ∧ w = w')
    (D : ∀ w, Calls Tryz.prog 44 #[.int .u32 v] w fun e w' => e = .returned (.tuple #[.agg #[.int .i64 k, .int .i64 op, .int .i64 a, .int .i64 b, .int .i64 c, .int .i64 i, .bool u], .bool true]) ∧ Kept w w')
    (O : ∀ w, Mac F B x w → Calls Tryz.prog 45 #[.pointer (some ⟨B, 0, none⟩), .agg #[.int .i64 k, .int .i64 op, .int .i64 a, .int .i64 b, .int .i64 c, .int .i64 i, .bool u]] w fun e w' => e = .returned (.tuple #[.agg (A.cells S'), .int .u32 y, .int .i64 t]) ∧ ∃ F', Mac F' B x' w' ∧ Turn F w w' ∧ ∀ k, F' k → F k ∨ w.heap.size ≤ k) :
    Calls Tryz.prog 28 #[.pointer (some ⟨B, 0, none⟩)] w fun e w' => e = .returned (.int .i64 t) ∧ ∃ F', Mac F' B (if t = 0 ∨ t = 1 then ⟨x'.ws, S', y, x.st, x'.ins, x'.outs⟩ else x') w' ∧ Turn F w w' ∧ ∀ k, F' k → F k ∨ w.heap.size ≤ k := by
  have cp := h.pc
  have L' := fun n => L _ (h.kept ((Kept.refl w).drewN n))
  have hh := Lib.hid h
  generalize hX : (if t = 0 ∨ t = 1 then (⟨x'.ws, S', y, x.st, x'.ins, x'.outs⟩ : X.St) else x') = x''
  go_enter Tryz.func28, Tryz.ntmps28
  go_upto_region 1 with (fail)
  go_quiet ((go_at_call 43; exact Calls.quiet_of_same ((L' _).mono fun _ _ h => ⟨h.1, h.2.symm⟩)))
  go_wp2_with (fail)
  refine (D _).mono ?_; rintro e w2 ⟨rfl, hK2⟩
  have hK := Lib.hid ((((Kept.refl w).drewN nq).trans hK2).alloc #[.int .i64 k, .int .i64 op, .int .i64 a, .int .i64 b, .int .i64 c, .int .i64 i, .bool u] 57)
  have hI := Lib.hid (Has.new #[.int .i64 k, .int .i64 op, .int .i64 a, .int .i64 b, .int .i64 c, .int .i64 i, .bool u] 57 w2)
  have hM := Lib.hid (hh.out.kept hK.out)
  clear hK2 cp L L' D h
  go_wp2_with (with_reducible refine load_has rfl 57 _ rfl _ rfl hI.out Tryz.underlying57 rfl (by kernel_rfl) ?_)
  refine (O _ hM.out).mono ?_; rintro e w3 ⟨rfl, F', p1, p2, p3⟩
  have hA := (Kept.refl w3).alloc (A.cells S') 26
  have hT := Lib.hid (((hK.out.turn F).trans p2).trans (hA.turn F))
  have hP := Lib.hid (p1.kept hA)
  have hN := Lib.hid (Has.new (A.cells S') 26 w3)
  have hF : ∀ k, F' k → F k ∨ w.heap.size ≤ k := fun k hk => by
    rcases p3 k hk with h1 | h1
    · exact Or.inl h1
    · exact Or.inr (Nat.le_trans hK.out.size h1)
  have hth := hP.out.there
  have hfr := hP.out.free 4120
  clear O hM hI hK p1 p2 p3 hA hh
  by_cases t01 : t = 0 ∨ t = 1
  · have hput := hP.out.put S' y hS y0 y1
    rw [hx.2.2] at hput
    rw [if_pos t01] at hX
    subst hX
    have hput := Lib.hid hput
    have hcp : ((w3.alloc (Obj.cells (A.cells S') 26)).setCells B 4099 (A.cells S').toList).cell? ⟨B, 4120, none⟩ = some (.int .u32 x'.pc) := by
      obtain ⟨ai, ni, ci, ao, no, co, hp⟩ := hP.out
      have h1 := hp.mem.setN (A.cells S').toList 2
      rw [X.tl_regs] at h1
      exact h1.tail 23 _ rfl
    have hff : ((w3.alloc (Obj.cells (A.cells S') 26)).setCells B 4099 (A.cells S').toList).frozen? ⟨B, 4120, none⟩ = false := by
      obtain ⟨ai, ni, ci, ao, no, co, hp⟩ := hP.out
      have h1 := hp.mem.setN (A.cells S').toList 2
      exact h1.free 4120
    have hFB := hP.out.inB
    rcases t01 with rfl | rfl
    all_goals
      go_upto_region 10 with (first
        | (with_reducible refine store_last rfl 26 _ _ rfl _ _ rfl rfl rfl (A.info25 _) (by kernel_rfl) (A.one_cells _) ?_))
      go_wp2_with (first
        | (with_reducible refine load_has rfl 26 _ rfl _ rfl hN.out Tryz.underlying26 rfl (A.info25 _) ?_)
        | (with_reducible refine wpList_store_mid rfl 26 _ _ rfl _ _ (A.cells S') rfl rfl hth (A.info25 _) (A.one_cells _) ?_; generalize World.setCells _ _ _ _ = ws5 at *))
      clear hcp hff
      generalize World.setCell ws5 _ _ = wf at *
      have hq := hT.out.then (hput.out.2.turn (F := F') hFB) hF
      go_ret
      exact ⟨rfl, F', hput.out.1, hq, hF⟩
  · rw [if_neg t01] at hX
    subst hX
    have t0 : ¬ t = 0 := fun e => t01 (Or.inl e)
    have t1 : ¬ t = 1 := fun e => t01 (Or.inr e)
    have e1 : (t == 0) = false := by simpa using t0
    have e2 : (t != 0) = true := by simpa using t0
    have e3 : (t == 1) = false := by simpa using t1
    have e4 : (t != 1) = true := by simpa using t1
    go_wp2_with (first
        | (with_reducible refine store_last rfl 26 _ _ rfl _ _ rfl rfl rfl (A.info25 _) (by kernel_rfl) (A.one_cells _) ?_))
    go_ret
    exact ⟨rfl, F', hP.out, hT.out, hF⟩
end Go.Proofs.YtlmddkciamdldaaGreat

/-
  The contracts of package machine: Step, Run; what it tells.
-/
namespace Go.Proofs.YtlmddkciamdldaaGreat
open Go.RowKit
set_option linter.unusedVariables false
set_option linter.unusedSimpArgs false
set_option maxRecDepth 100000
theorem I.dec_may (v : Int) (h : I.is v = true) : I.May (I.dec v) := by
  have e : I.dec v = I.guess v := by unfold I.dec; rw [if_pos h]
  rw [e]
  unfold I.is at h
  rw [Bool.and_eq_true] at h
  exact of_decide_eq_true h.1
theorem next_any {F : Nat → Prop} {B : Nat} {x : X.St} {w : World} (h : Mac F B x w) (hn : x.outs.length < 1000000) :
    Calls Tryz.prog 28 #[.pointer (some ⟨B, 0, none⟩)] w fun e w' => e = .returned (.int .i64 (X.nextT x)) ∧ ∃ F', Mac F' B (X.nextX x) w' ∧ Turn F w w' ∧ ∀ k, F' k → F k ∨ w.heap.size ≤ k := by
  have hb := h.bounds
  have hr := h.rngs
  have hW := X.word_ok x.ws x.pc hr.1
  have L := fun w' (h' : Mac F B x w') => h'.word_any x.pc hb.2.1 hb.2.2
  by_cases ht : M.wt x.ws x.pc = 0
  · rw [ht] at L
    by_cases hi : I.is (M.word x.ws x.pc) = true
    · have e1 : X.nextT x = X.doT x (I.dec (M.word x.ws x.pc)) := by unfold X.nextT; rw [if_pos ht, if_pos hi]
      have e2 : X.nextX x = if X.doT x (I.dec (M.word x.ws x.pc)) = 0 ∨ X.doT x (I.dec (M.word x.ws x.pc)) = 1 then ⟨(X.doX x (I.dec (M.word x.ws x.pc))).ws, X.doS x (I.dec (M.word x.ws x.pc)), X.doP x (I.dec (M.word x.ws x.pc)), x.st, (X.doX x (I.dec (M.word x.ws x.pc))).ins, (X.doX x (I.dec (M.word x.ws x.pc))).outs⟩ else X.doX x (I.dec (M.word x.ws x.pc)) := by unfold X.nextX; rw [if_pos ⟨ht, hi⟩]
      rw [e1, e2]
      have hm := I.dec_may _ hi
      have D := dec_any (M.word x.ws x.pc) hW
      rw [hi] at D
      generalize I.dec (M.word x.ws x.pc) = j at *
      obtain ⟨k, op, a, b, c, i, u⟩ := j
      have hp := X.doP_ok x ⟨k, op, a, b, c, i, u⟩ hb.1 (by have := hm.1.2.2.2.2.2; simp only at this ⊢; omega)
      exact next_do h _ k op a b c i _ _ _ u (X.doX_eq x _) (X.doS_ok x _ hb.1 hr.1 hr.2.1) hp.1 hp.2 L D fun w' h' => do_any h' k op a b c i u hm hn
    · have hi : I.is (M.word x.ws x.pc) = false := by simpa using hi
      have e1 : X.nextT x = 2 := by unfold X.nextT; rw [if_pos ht, if_neg (by rw [hi]; simp)]
      have e2 : X.nextX x = x := by unfold X.nextX; rw [if_neg (by rw [hi]; simp)]
      rw [e1, e2]
      have D := dec_any (M.word x.ws x.pc) hW
      rw [hi] at D
      exact (next_ill h _ _ _ _ _ _ _ _ L D).mono fun e w' hh => ⟨hh.1, F, h.kept hh.2, hh.2.turn F, fun k hk => Or.inl hk⟩
  · have e1 : X.nextT x = M.wt x.ws x.pc := by unfold X.nextT; rw [if_neg ht]
    have e2 : X.nextX x = x := by unfold X.nextX; rw [if_neg (fun h => ht h.1)]
    rw [e1, e2]
    exact (next_trap h _ _ ht L).mono fun e w' hh => ⟨hh.1, F, h.kept hh.2, hh.2.turn F, fun k hk => Or.inl hk⟩
theorem step_at {F : Nat → Prop} {B : Nat} {x x' : X.St} {w : World} (h : Mac F B x w) (t : Int) (h0 : x.st = 0)
    (C : ∀ w, Mac F B x w → Calls Tryz.prog 28 #[.pointer (some ⟨B, 0, none⟩)] w fun e w' => e = .returned (.int .i64 t) ∧ ∃ F', Mac F' B x' w' ∧ Turn F w w' ∧ ∀ k, F' k → F k ∨ w.heap.size ≤ k) :
    Calls Tryz.prog 10 #[.pointer (some ⟨B, 0, none⟩)] w fun e w' => e = .returned (.int .i64 t) ∧ ∃ F', Mac F' B ⟨x'.ws, x'.s, x'.pc, t, x'.ins, x'.outs⟩ w' ∧ Turn F w w' ∧ ∀ k, F' k → F k ∨ w.heap.size ≤ k := by
  have cs := h.st
  rw [h0] at cs
  have hh := Lib.hid h
  clear h
  go_enter Tryz.func10, Tryz.ntmps10
  go_wp2_with (fail)
  refine (C _ hh.out).mono ?_; rintro e w2 ⟨rfl, F', p1, p2, p3⟩
  have c2 := p1.st
  have f2 := p1.free 4121
  have hS := Lib.hid (p1.setSt t)
  have hT := Lib.hid (p2.then ((p1.setSt t).2.turn (F := F') p1.inB) p3)
  clear p1 p2 cs hh C
  go_wp2
  go_ret
  exact ⟨rfl, F', hS.out.1, hT.out, p3⟩
theorem step_no {F : Nat → Prop} {B : Nat} {x : X.St} {w : World} (h : Mac F B x w) (h0 : ¬ x.st = 0) :
    Calls Tryz.prog 10 #[.pointer (some ⟨B, 0, none⟩)] w fun e w' => e = .returned (.int .i64 x.st) ∧ w = w' := by
  have cs := h.st
  have e0 : (x.st == 0) = false := by simpa using h0
  go_enter Tryz.func10, Tryz.ntmps10
  go_wp2
  go_ret
  exact ⟨rfl, rfl⟩
theorem step_any {F : Nat → Prop} {B : Nat} {x : X.St} {w : World} (h : Mac F B x w) (hn : x.outs.length < 1000000) :
    Calls Tryz.prog 10 #[.pointer (some ⟨B, 0, none⟩)] w fun e w' => e = .returned (.int .i64 (X.step x).st) ∧ ∃ F', Mac F' B (X.step x) w' ∧ Turn F w w' ∧ ∀ k, F' k → F k ∨ w.heap.size ≤ k := by
  by_cases h0 : x.st = 0
  · have e : X.step x = ⟨(X.nextX x).ws, (X.nextX x).s, (X.nextX x).pc, X.nextT x, (X.nextX x).ins, (X.nextX x).outs⟩ := by unfold X.step; rw [if_pos h0]
    rw [e]
    exact step_at h _ h0 fun w' h' => next_any h' hn
  · have e : X.step x = x := by unfold X.step; rw [if_neg h0]
    rw [e]
    refine (step_no h h0).mono ?_
    rintro e w' ⟨he, rfl⟩
    exact ⟨he, F, h, Turn.refl F w, fun k hk => Or.inl hk⟩
theorem status_any {F : Nat → Prop} {B : Nat} {x : X.St} {w : World} (h : Mac F B x w) :
    Calls Tryz.prog 14 #[.pointer (some ⟨B, 0, none⟩)] w fun e w' => e = .returned (.int .i64 x.st) ∧ w = w' := by
  have cs := h.st
  go_enter Tryz.func14, Tryz.ntmps14
  go_wp2
  go_ret
  exact ⟨rfl, rfl⟩
theorem pc_any {F : Nat → Prop} {B : Nat} {x : X.St} {w : World} (h : Mac F B x w) :
    Calls Tryz.prog 15 #[.pointer (some ⟨B, 0, none⟩)] w fun e w' => e = .returned (.int .u32 x.pc) ∧ w = w' := by
  have cs := h.pc
  go_enter Tryz.func15, Tryz.ntmps15
  go_wp2
  go_ret
  exact ⟨rfl, rfl⟩
theorem regs_any {F : Nat → Prop} {B : Nat} {x : X.St} {w : World} (h : Mac F B x w) :
    Calls Tryz.prog 16 #[.pointer (some ⟨B, 0, none⟩)] w fun e w' => e = .returned (.agg (A.cells x.s)) ∧ Kept w w' := by
  have hr := fun c t => (h.kept ((Kept.refl w).alloc c t)).regs
  go_enter Tryz.func16, Tryz.ntmps16
  go_wp2_with (first
    | (with_reducible refine wpList_load_mid (op := ⟨some 6, _, _, _, _, _⟩) rfl 26 _ rfl _ _ rfl (A.cells x.s).toList _ (hr _ _) Tryz.underlying26 rfl (by rw [Array.length_toList]; exact A.info25 _) ?_)
    | (with_reducible refine store_last rfl 26 _ _ rfl _ _ rfl rfl rfl (A.info25 _) (by kernel_rfl) (A.one_cells _) ?_))
  refine bodyPost_ret (results_has rfl w.heap.size rfl (Has.new (A.cells x.s) _ _) Tryz.underlying26 rfl (A.info25 _)) rfl ⟨rfl, (Kept.refl w).alloc _ _⟩
noncomputable def X.go : Nat → X.St → X.St
  | 0, x => x
  | n + 1, x => X.go n (X.step x)
theorem X.go_add (m : Nat) : ∀ (k : Nat) (x : X.St), X.go (k + m) x = X.go m (X.go k x)
  | 0, x => by rw [Nat.zero_add]; rfl
  | k + 1, x => by rw [Nat.add_right_comm]; exact X.go_add m k (X.step x)
theorem X.go_succ (k : Nat) (x : X.St) : X.go (k + 1) x = X.step (X.go k x) := X.go_add 1 k x
theorem X.go_outs : ∀ (n : Nat) (x : X.St), (X.go n x).outs.length ≤ x.outs.length + n
  | 0, _ => Nat.le_refl _
  | n + 1, x => by
    have h1 := X.go_outs n (X.step x)
    have h2 := X.step_outs x
    show (X.go n (X.step x)).outs.length ≤ _
    omega
end Go.Proofs.YtlmddkciamdldaaGreat

/-
  The contracts of package machine: Start, Place, Words, Out, New.
-/
namespace Go.Proofs.YtlmddkciamdldaaGreat
open Go.RowKit
set_option linter.unusedVariables false
set_option linter.unusedSimpArgs false
set_option maxRecDepth 100000
theorem But.drew2 {B : Nat} {a b : World} (h : But B a b) : But B a.drew b.drew := ⟨h.os, h.tape, h.output, h.size, h.block, h.froze⟩
theorem Mac.setPc {F : Nat → Prop} {B : Nat} {x : X.St} {w : World} (h : Mac F B x w) (pc : Int) (p0 : 0 ≤ pc) (p1 : pc < 4294967296) : Mac F B ⟨x.ws, x.s, pc, x.st, x.ins, x.outs⟩ (w.setCell ⟨B, 4120, none⟩ (.int .u32 pc)) ∧ But B w (w.setCell ⟨B, 4120, none⟩ (.int .u32 pc)) := by
  obtain ⟨ai, ni, ci, ao, no, co, h⟩ := h
  have hB : But B w (w.setCell ⟨B, 4120, none⟩ (.int .u32 pc)) := (But.refl B w).setCell _ _
  have h2 := h.mem.set1 23 (.int .u32 pc)
  rw [X.tl_pc] at h2
  exact ⟨⟨ai, ni, ci, ao, no, co, h.own hB _ _ _ _ h2 h.ok p0 p1⟩, hB⟩
theorem Mac.setRegs {F : Nat → Prop} {B : Nat} {x : X.St} {w : World} (h : Mac F B x w) (s : A.Regs) (ok : A.Ok s) : Mac F B ⟨x.ws, s, x.pc, x.st, x.ins, x.outs⟩ (w.setCells B 4099 (A.cells s).toList) ∧ But B w (w.setCells B 4099 (A.cells s).toList) := by
  obtain ⟨ai, ni, ci, ao, no, co, h⟩ := h
  have hB : But B w (w.setCells B 4099 (A.cells s).toList) := but_setCells _ _ _ _ (But.refl B w)
  have h1 := h.mem.setN (A.cells s).toList 2
  rw [X.tl_regs] at h1
  exact ⟨⟨ai, ni, ci, ao, no, co, h.own hB _ _ _ _ h1 ok h.pc0 h.pc1⟩, hB⟩
theorem start_any {F : Nat → Prop} {B : Nat} {x : X.St} {w : World} (h : Mac F B x w) (pc : Int) (s : A.Regs) (ok : A.Ok s) (p0 : 0 ≤ pc) (p1 : pc < 4294967296) :
    Calls Tryz.prog 24 #[.pointer (some ⟨B, 0, none⟩), .int .u32 pc, .agg (A.cells s)] w fun e w' => e = .returned (.tuple #[]) ∧ Mac F B ⟨x.ws, s, pc, 0, x.ins, x.outs⟩ w' ∧ But B w w' := by
  have hBg : B < w.heap.size := h.sub B h.inB
  go_enter Tryz.func24, Tryz.ntmps24
  go_upto_region 1 with (fail)
  generalize hw1 : w.alloc (Obj.cells _ _) = w1
  have hR : Has w.heap.size (A.cells s) 26 w1 := by rw [← hw1]; exact Has.new _ _ _
  have hK : Kept w w1 := by rw [← hw1]; exact (Kept.refl w).alloc _ _
  clear hw1
  have hgB : w.heap.size ≠ B := by omega
  generalize w.heap.size = g at *
  have hMd := Lib.hid (show Mac F B x w1.drew from h.kept hK.drew)
  have hM1 := Lib.hid (show Mac F B x w1 from h.kept hK)
  have hKd := Lib.hid (show Kept w w1.drew from hK.drew)
  have cq := hMd.out.pc
  have fq := hMd.out.free 4120
  clear h hK
  refine wp_region_held_drew (S := fun wz => Has g (A.cells s) 26 wz) (by kernel_rfl) ?_ (fun hHeld => ?_)
  · exact hR
  refine tk 0 ⟨some 6, .move (.tmp 0), 30, "machine.go:46", #[], none⟩ (v := ?_) hHeld ?_ ?_
  rotate_left
  · (intro wz hSw; (try dsimp only at hSw); go_simp; try with_reducible rfl)
  try simp only [Act.put, q0, q1, q2]
  refine tk 1 ⟨some 7, .move (.tmp 0), 30, "machine.go:46", #[eL 7], none⟩ (v := ?_) hHeld ?_ ?_
  rotate_left
  · (intro wz hSw; (try dsimp only at hSw); go_simp; try with_reducible rfl)
  try simp only [Act.put, q0, q1, q2]
  refine tk 2 ⟨some 8, .move (.tmp 0), 30, "machine.go:46", #[eL 10], none⟩ (v := ?_) hHeld ?_ ?_
  rotate_left
  · (intro wz hSw; (try dsimp only at hSw); go_simp; try with_reducible rfl)
  try simp only [Act.put, q0, q1, q2]
  refine tk 3 ⟨some 9, .move (.tmp 1), 23, "machine.go:46", #[], none⟩ (v := ?_) hHeld ?_ ?_
  rotate_left
  · (intro wz hSw; (try dsimp only at hSw); go_simp; try with_reducible rfl)
  try simp only [Act.put, q0, q1, q2]
  refine tk 4 ⟨some 10, .load 26 (.tmp 5), 26, "machine.go:46", #[eL 7], none⟩ (v := ?_) hHeld ?_ ?_
  rotate_left
  · (intro wz hSw; refine exec_load_has 26 (Operand.tmp 5) ?_ _ ?_ hSw Tryz.underlying26 rfl (A.info25 _) <;> rfl)
  try simp only [Act.put, q0, q1, q2]
  refine tk 5 ⟨some 11, .nilCheck (.tmp 6), 0, "machine.go:46", #[eD 0, eP 0, eT 1, eT 2, eP 3, eT 4], none⟩ (v := ?_) hHeld ?_ ?_
  rotate_left
  · (intro wz hSw; (try dsimp only at hSw); go_simp; try with_reducible rfl)
  try simp only [Act.put, q0, q1, q2]
  refine tk 6 ⟨some 12, .fieldAddr 68 (.tmp 11) 2, 0, "machine.go:46", #[eD 5, eP 0, eT 1, eT 2, eP 3, eT 4], none⟩ (v := ?_) hHeld ?_ ?_
  rotate_left
  · (intro wz hSw; (try dsimp only at hSw); go_simp; try with_reducible rfl)
  try simp only [Act.put, q0, q1, q2]
  refine wpAnyH_ready (rs := [7]) (by kernel_rfl) (by simp) ?_
  refine AllReadyH.cons (o := ⟨none, .store 23 (.tmp 12) (.tmp 9), 0, "machine.go:46", #[eD 6, eD 3, eP 0, eT 1, eT 2, eP 3, eT 4], none⟩) rfl (fun K hK => ?_) (AllReadyH.nil)
  go_simp
  generalize hwa : World.drew (World.setCell _ _ _) = wa
  have hMa : Mac F B ⟨x.ws, x.s, pc, x.st, x.ins, x.outs⟩ wa ∧ But B w1.drew wa := by rw [← hwa]; exact ⟨(hM1.out.setPc pc p0 p1).1.kept (Kept.refl _).drew, (hM1.out.setPc pc p0 p1).2.drew2⟩
  clear hwa
  have hN := (show (fun wz => Has g (A.cells s) 26 wz) _ from hMa.2.has hgB hHeld)
  clear hHeld
  refine hK.out _ _ hN (fun hHeld => ?_)
  clear hK K hN
  try simp only [Act.put, q0, q1, q2]
  refine tk 8 ⟨some 13, .nilCheck (.tmp 7), 0, "machine.go:46", #[eD 1, eP 0, eP 1, eT 2, eP 3, eP 4, eP 5, eP 6, eP 7], none⟩ (v := ?_) hHeld ?_ ?_
  rotate_left
  · (intro wz hSw; (try dsimp only at hSw); go_simp; try with_reducible rfl)
  try simp only [Act.put, q0, q1, q2]
  refine tk 9 ⟨some 14, .fieldAddr 68 (.tmp 13) 1, 0, "machine.go:46", #[eD 8, eP 0, eP 1, eT 2, eP 3, eP 4, eP 5, eP 6, eP 7], none⟩ (v := ?_) hHeld ?_ ?_
  rotate_left
  · (intro wz hSw; (try dsimp only at hSw); go_simp; try with_reducible rfl)
  try simp only [Act.put, q0, q1, q2]
  refine wpAnyH_ready (rs := [10]) (by kernel_rfl) (by simp) ?_
  refine AllReadyH.cons (o := ⟨none, .store 26 (.tmp 14) (.tmp 10), 0, "machine.go:46", #[eD 9, eD 4, eC 7, eP 0, eP 1, eT 2, eP 3, eP 4, eP 5, eP 6, eP 7], none⟩) rfl (fun K hK => ?_) (AllReadyH.nil)
  have hthb := hMa.1.there
  refine wp_store_mid (op := { dst := none, op := Op.store 26 (Operand.tmp 14) (Operand.tmp 10), type := 0, pos := "machine.go:46", after := #[eD 9, eD 4, eC 7, eP 0, eP 1, eT 2, eP 3, eP 4, eP 5, eP 6, eP 7], guard := none }) 26 _ _ rfl _ _ (A.cells s) rfl rfl hthb (A.info25 _) (A.one_cells _) ?_
  have hMb := hMa.1.setRegs s ok
  generalize World.setCells _ _ _ _ = wb at *
  have hN := (show (fun wz => Has g (A.cells s) 26 wz) _ from hMb.2.has hgB hHeld)
  clear hHeld
  refine hK.out _ _ hN (fun hHeld => ?_)
  clear hK K hN
  try simp only [Act.put, q0, q1, q2]
  refine tk 11 ⟨some 15, .nilCheck (.tmp 8), 0, "machine.go:46", #[eD 2, eP 0, eP 1, eP 2, eP 3, eP 4, eP 5, eP 6, eP 7, eP 8, eP 9, eP 10], none⟩ (v := ?_) hHeld ?_ ?_
  rotate_left
  · (intro wz hSw; (try dsimp only at hSw); go_simp; try with_reducible rfl)
  try simp only [Act.put, q0, q1, q2]
  refine tk 12 ⟨some 16, .fieldAddr 68 (.tmp 15) 3, 0, "machine.go:46", #[eD 11, eP 0, eP 1, eP 2, eP 3, eP 4, eP 5, eP 6, eP 7, eP 8, eP 9, eP 10], none⟩ (v := ?_) hHeld ?_ ?_
  rotate_left
  · (intro wz hSw; (try dsimp only at hSw); go_simp; try with_reducible rfl)
  try simp only [Act.put, q0, q1, q2]
  refine wpAnyH_ready (rs := [13]) (by kernel_rfl) (by simp) ?_
  refine AllReadyH.cons (o := ⟨none, .store 3 (.tmp 16) (.const (.int .i64 0)), 0, "machine.go:46", #[eD 12, eC 10, eP 0, eP 1, eP 2, eP 3, eP 4, eP 5, eP 6, eP 7, eP 8, eP 9, eP 10], none⟩) rfl (fun K hK => ?_) (AllReadyH.nil)
  have q1 := hMb.1.st
  have q2 := hMb.1.free 4121
  go_simp
  have hMc := hMb.1.setSt 0
  have hN := (show (fun wz => Has g (A.cells s) 26 wz) _ from hMc.2.has hgB hHeld)
  clear hHeld
  refine hK.out _ _ hN (fun hHeld => ?_)
  clear hK K hN
  try simp only [Act.put, q0, q1, q2]
  refine wpAnyH_done (by kernel_rfl) ?_ _
  have hB := (((hKd.out.but B).trans hMa.2).trans hMb.2).trans hMc.2
  replace hB := Lib.hid hB
  replace hMc := Lib.hid hMc.1
  clear hMa hMb hHeld
  generalize World.setCell wb _ _ = wc at *
  go_wp2
  go_end0
  exact ⟨rfl, hMc.out, hB.out⟩
end Go.Proofs.YtlmddkciamdldaaGreat

/-
  The contracts of package machine: Place, Words, Out, New.
-/
namespace Go.Proofs.YtlmddkciamdldaaGreat
open Go.RowKit
set_option linter.unusedVariables false
set_option linter.unusedSimpArgs false
set_option maxRecDepth 100000
theorem place_any {F : Nat → Prop} {B : Nat} {x : X.St} {w : World} (h : Mac F B x w) (k : Nat) (ap : Option Addr) (n c : Nat) (xs : List Int) (hx : Ws w ap n c xs) (hf : k + n ≤ x.ws.length) :
    Calls Tryz.prog 21 #[.pointer (some ⟨B, 0, none⟩), .int .i64 k, .slice ap n c] w fun e w' => e = .returned (.int .i64 0) ∧ Mac F B ⟨M.placed x.ws k xs, x.s, x.pc, x.st, x.ins, x.outs⟩ w' ∧ But B w w' := by
  obtain ⟨ai, ni, ci, ao, no, co, h⟩ := h
  have C := Lib.hid (M.place_yes h.mem k ap n c xs hx hf)
  have hh := Lib.hid h
  clear h hx
  go_enter Tryz.func21, Tryz.ntmps21
  go_wp2_with (fail)
  refine C.out.mono ?_; rintro e w2 ⟨rfl, hM, hB⟩
  have hE := Lib.hid (hh.out.own hB _ _ _ _ hM hh.out.ok hh.out.pc0 hh.out.pc1)
  replace hB := Lib.hid hB
  clear C hM hh
  go_wp2
  go_ret
  exact ⟨rfl, ⟨_, _, _, _, _, _, hE.out⟩, hB.out⟩
theorem words_any {F : Nat → Prop} {B : Nat} {x : X.St} {w : World} (h : Mac F B x w) :
    Calls Tryz.prog 19 #[.pointer (some ⟨B, 0, none⟩)] w fun e w' => ∃ g, e = .returned (.slice (some ⟨g, 0, none⟩) x.ws.length x.ws.length) ∧ w.heap.size ≤ g ∧ Ws w' (some ⟨g, 0, none⟩) x.ws.length x.ws.length x.ws ∧ Kept w w' := by
  obtain ⟨ai, ni, ci, ao, no, co, h⟩ := h
  have C := Lib.hid (M.words_any h.mem)
  clear h
  go_enter Tryz.func19, Tryz.ntmps19
  go_wp2_with (fail)
  refine C.out.mono ?_; rintro e w2 ⟨g, rfl, p1, p2, p3⟩
  replace p2 := Lib.hid p2
  replace p3 := Lib.hid p3
  clear C
  go_wp2
  go_ret
  exact ⟨g, rfl, p1, p2.out, p3.out⟩
def T0 : Nat → Prop := fun _ => False
theorem clone_any {w : World} {ap : Option Addr} {n c : Nat} {xs : List Int} (h : Ws w ap n c xs) (hn : n ≤ 1000000000) :
    Calls Tryz.prog 35 #[.slice ap n c] w fun e w' => ∃ A' c', e = .returned (.slice A' n c') ∧ Ws w' A' n c' xs ∧ Turn T0 w w' ∧ ∀ ad, A' = some ad → w.heap.size ≤ ad.block ∧ ad.block < w'.heap.size := by
  cases ap with
  | none =>
    have hc := h.nil rfl
    have hl := h.le
    subst hc
    obtain rfl : n = 0 := by omega
    have hx : xs = [] := List.eq_nil_of_length_eq_zero h.len
    subst hx
    have hnil : ∀ W, (binOp .eql 22 (.slice none 0 0) (.slice none 0 0)).run Tryz.prog W = .ok (.bool true) W := fun W => Lib.run_eql_slice_nil W _ _ _ _ _ _ _ Tryz.underlying22
    go_enter Tryz.func35, Tryz.ntmps35
    go_wp2
    go_ret
    exact ⟨none, 0, rfl, Ws.empty w, Turn.refl _ w, by simp⟩
  | some ad =>
    have hr := h.rng
    have hK := (Kept.refl w).alloc #[] 23
    have hY := Lib.hid (h.kept hK)
    have hO := Lib.hid (Own.new w w.heap.size (Nat.le_refl _))
    have hT := Lib.hid (hK.turn T0)
    have hsz : w.heap.size ≤ (w.alloc (.cells #[] 23)).heap.size := hK.size
    replace hsz := Lib.hid hsz
    clear h hK
    have hnil : ∀ W, (binOp .eql 22 (.slice (some ad) n c) (.slice none 0 0)).run Tryz.prog W = .ok (.bool false) W := fun W => Lib.run_eql_slice_nil W _ _ _ _ _ _ _ Tryz.underlying22
    go_enter Tryz.func35, Tryz.ntmps35
    go_wp2_with (with_reducible refine append_words (o := ⟨some 7, _, _, _, _, _⟩) rfl (.tmp 5) (.tmp 6) rfl w.heap.size w.heap.size 0 0 [] rfl hO.out (some ad) n c xs rfl hY.out (by omega) hsz.out ?_; intro g' cap' w3 hO3 hG3)
    rw [Nat.zero_add, List.nil_append] at hO3
    have hq := hO3.has
    have hlt := (World.ownsRow.lt hO3 g' rfl)
    have hW := Lib.hid (hO3.ws hr)
    have hT3 : Turn T0 w w3 := ⟨hG3.os.trans hT.out.os, hG3.tape.trans hT.out.tape, hG3.output.trans hT.out.output, Nat.le_trans hT.out.size hG3.size, fun k hk hF => (hG3.block k (Nat.lt_of_lt_of_le hk hT.out.size) (by intro e; cases e; omega)).trans (hT.out.block k hk hF)⟩
    replace hT3 := Lib.hid hT3
    clear hG3 hO3 hY hO hT hsz
    go_ret
    exact ⟨some ⟨g', 0, none⟩, cap', by simp, hW.out, hT3.out, fun bd e => by cases e; exact ⟨hq.1, hlt.2⟩⟩
theorem outs_any {F : Nat → Prop} {B : Nat} {x : X.St} {w : World} (h : Mac F B x w) (hn : x.outs.length ≤ 1000000000) :
    Calls Tryz.prog 18 #[.pointer (some ⟨B, 0, none⟩)] w fun e w' => ∃ A' c', e = .returned (.slice A' x.outs.length c') ∧ Ws w' A' x.outs.length c' x.outs ∧ Turn T0 w w' ∧ ∀ ad, A' = some ad → w.heap.size ≤ ad.block ∧ ad.block < w'.heap.size := by
  obtain ⟨ai, ni, ci, ao, no, co, h⟩ := h
  have hw := h.out.ws h.rng
  have hl := h.out.len
  subst hl
  have hc : w.cell? ⟨B, 4098, none⟩ = some (.slice ao x.outs.length co) := h.mem.tail 1 _ rfl
  have C := Lib.hid (clone_any hw hn)
  clear h hw
  go_enter Tryz.func18, Tryz.ntmps18
  go_wp2_with (fail)
  refine C.out.mono ?_; rintro e w2 ⟨A', c', rfl, p1, p2, p3⟩
  replace p1 := Lib.hid p1
  replace p2 := Lib.hid p2
  replace p3 := Lib.hid p3
  clear C
  go_wp2
  go_ret
  exact ⟨A', c', rfl, p1.out, p2.out, p3.out⟩
/-- cells laid over others -/
theorem lay_at (off : Nat) : ∀ (l : List Value) (n : Nat) (acc : Array Value) (k : Nat), ((l.zipIdx n).foldl (fun cs (p : Value × Nat) => cs.setIfInBounds (off + p.2) p.1) acc)[k]? = if off + n ≤ k ∧ k < off + n + l.length ∧ k < acc.size then l[k - (off + n)]? else acc[k]?
  | [], n, acc, k => by simp; omega
  | v :: r, n, acc, k => by
    rw [List.zipIdx_cons, List.foldl_cons, lay_at off r (n + 1) (acc.setIfInBounds (off + n) v) k]
    simp only [Array.size_setIfInBounds, List.length_cons]
    by_cases c1 : off + n = k
    · subst c1
      rw [if_neg (by omega)]
      by_cases c2 : off + n < acc.size
      · rw [if_pos (by omega), Array.getElem?_setIfInBounds_self_of_lt c2, Nat.sub_self]; rfl
      · rw [if_neg (by omega), Array.getElem?_eq_none (by simp; omega), Array.getElem?_eq_none (by omega)]
    · rw [Array.getElem?_setIfInBounds_ne c1]
      by_cases c2 : off + (n + 1) ≤ k ∧ k < off + (n + 1) + r.length ∧ k < acc.size
      · rw [if_pos c2, if_pos (by omega), show k - (off + n) = (k - (off + (n + 1))) + 1 by omega, List.getElem?_cons_succ]
      · rw [if_neg c2, if_neg (by omega)]
theorem lay_size (off : Nat) : ∀ (l : List Value) (n : Nat) (acc : Array Value), ((l.zipIdx n).foldl (fun cs (p : Value × Nat) => cs.setIfInBounds (off + p.2) p.1) acc).size = acc.size
  | [], n, acc => rfl
  | v :: r, n, acc => by rw [List.zipIdx_cons, List.foldl_cons, lay_size off r (n + 1)]; simp
def X.lay (z : Array Value) (off : Nat) (cs : Array Value) : Array Value := (cs.toList.zipIdx 0).foldl (fun cs (p : Value × Nat) => cs.setIfInBounds (off + p.2) p.1) z
theorem X.lay_at (z : Array Value) (off : Nat) (cs : Array Value) (k : Nat) (hz : off + cs.size ≤ z.size) : (X.lay z off cs)[k]? = if off ≤ k ∧ k < off + cs.size then cs[k - off]? else z[k]? := by
  unfold X.lay
  rw [Go.Proofs.YtlmddkciamdldaaGreat.lay_at]
  simp only [Nat.add_zero, Array.length_toList]
  by_cases c : off ≤ k ∧ k < off + cs.size
  · rw [if_pos (by omega), if_pos c]; simp
  · rw [if_neg (by omega), if_neg c]
theorem X.lay_size (z : Array Value) (off : Nat) (cs : Array Value) : (X.lay z off cs).size = z.size := Go.Proofs.YtlmddkciamdldaaGreat.lay_size off _ _ _
theorem fill_cons {place : Nat → Option (Nat × Nat)} {z : Array Value} {i off n : Nat} {v : Value} {rest : List (Nat × Value)} (hp : place i = some (off, n)) (hv : v.cells.size = n) (hz : off + n ≤ z.size) : Instr.fill place z ((i, v) :: rest) = Instr.fill place (X.lay z off v.cells) rest := by
  rw [Instr.fill]
  simp only [hp]
  rw [if_neg (by simp; omega)]
  congr 1
  unfold X.lay
  rw [← Array.foldl_toList, Array.toList_zipIdx]
def X.z68 : Array Value := (List.replicate 4096 (Value.int .u32 0) ++ [Value.int .i64 0, .slice none 0 0, .slice none 0 0]).toArray
def X.z70 : Array Value := (List.replicate 4096 (Value.int .u32 0) ++ (Value.int .i64 0 :: X.tl (.slice none 0 0) (.slice none 0 0) A.none' 0 0)).toArray
theorem X.shape68 : shapeOf Tryz.prog 66 = some (X.z68, [(0, 4097), (4097, 1), (4098, 1)]) := by kernel_rfl
theorem X.shape70 : shapeOf Tryz.prog 68 = some (X.z70, [(0, 4099), (4099, 21), (4120, 1), (4121, 1)]) := by kernel_rfl
theorem size_rep (k : Nat) (a : Value) (l : List Value) : (List.replicate k a ++ l).toArray.size = k + l.length := by simp
theorem at_rep (k : Nat) (a : Value) (l : List Value) (j : Nat) (hj : k ≤ j) : (List.replicate k a ++ l).toArray[j]? = l[j - k]? := by
  rw [List.getElem?_toArray, List.getElem?_append_right (by simpa using hj)]; simp
theorem X.z68_size : X.z68.size = 4099 := size_rep 4096 _ _
theorem X.z70_size : X.z70.size = 4122 := size_rep 4096 _ _
theorem X.built68 (cs : Array Value) (hs : cs.size = 4097) (v : Value) (hv : v.cells = #[v]) : Tryz.prog.built 66 [(0, .agg cs), (1, v)] = some (X.lay (X.lay X.z68 0 cs) 4097 #[v]) := by
  rw [built_of X.shape68, fill_cons (v := .agg cs) (off := 0) (n := 4097) rfl hs (by rw [X.z68_size]; omega), fill_cons (off := 4097) (n := 1) rfl (by rw [hv]; rfl) (by rw [X.lay_size, X.z68_size]; omega), hv]
  rfl
theorem X.built70 (cs : Array Value) (hs : cs.size = 4099) : Tryz.prog.built 68 [(0, .agg cs), (3, .int .i64 0)] = some (X.lay (X.lay X.z70 0 cs) 4121 #[.int .i64 0]) := by
  rw [built_of X.shape70, fill_cons (v := .agg cs) (off := 0) (n := 4099) rfl hs (by rw [X.z70_size]; omega), fill_cons (off := 4121) (n := 1) rfl rfl (by rw [X.lay_size, X.z70_size]; omega)]
  rfl
/-- a new machine's block -/
theorem MemT.machine {B : Nat} {ws : List Int} {cs : Array Value} {w w' : World} {ap : Option Addr} {n c : Nat} (hl : ws.length ≤ 4096) (hr : ∀ x ∈ ws, 0 ≤ x ∧ x < 4294967296) (hs : cs.size = 4097) (h3 : cs[4096]? = some (.int .i64 (ws.length : Int)))
    (h4 : ∀ (j : Nat) (x : Int), ws[j]? = some x → cs[j]? = some (Value.int .u32 x)) (hB : Has B (X.lay (X.lay X.z70 0 (X.lay (X.lay X.z68 0 cs) 4097 #[.slice ap n c])) 4121 #[.int .i64 0]) 68 w') :
    MemT 68 (X.tl (.slice ap n c) (.slice none 0 0) A.none' 0 0) B ws w' := by
  have s1 : (X.lay (X.lay X.z68 0 cs) 4097 #[.slice ap n c]).size = 4099 := by rw [X.lay_size, X.lay_size, X.z68_size]
  have a1 : ∀ k, k < 4097 → (X.lay (X.lay X.z70 0 (X.lay (X.lay X.z68 0 cs) 4097 #[.slice ap n c])) 4121 #[.int .i64 0])[k]? = cs[k]? := by
    intro k hk
    rw [X.lay_at _ _ _ _ (by rw [X.lay_size, X.z70_size]; simp), if_neg (by omega), X.lay_at _ _ _ _ (by rw [s1, X.z70_size]; omega), if_pos (by omega), Nat.sub_zero, X.lay_at _ _ _ _ (by rw [X.lay_size, X.z68_size]; simp), if_neg (by omega), X.lay_at _ _ _ _ (by rw [hs, X.z68_size]; omega), if_pos (by omega), Nat.sub_zero]
  refine ⟨hl, hr, _, hB, ?_, ?_, fun j x hj => ?_, fun j => ?_⟩
  · rw [X.lay_size, X.lay_size, X.z70_size, X.tl_len]
  · rw [a1 4096 (by omega)]; exact h3
  · have hj' : j < ws.length := by
      rcases Nat.lt_or_ge j ws.length with h1 | h1
      · exact h1
      · rw [List.getElem?_eq_none h1] at hj; cases hj
    rw [a1 j (by omega)]
    exact h4 j x hj
  · by_cases c24 : j = 24
    · subst c24
      rw [X.lay_at _ _ _ _ (by rw [X.lay_size, X.z70_size]; simp), if_pos (by simp)]
      rfl
    · rw [X.lay_at _ _ _ _ (by rw [X.lay_size, X.z70_size]; simp), if_neg (by simp; omega), X.lay_at _ _ _ _ (by rw [s1, X.z70_size]; omega)]
      by_cases c2 : j < 2
      · rw [if_pos (by omega), Nat.sub_zero, X.lay_at _ _ _ _ (by rw [X.lay_size, X.z68_size]; simp)]
        by_cases c0 : j = 0
        · subst c0
          rw [if_pos (by simp)]
          rfl
        · obtain rfl : j = 1 := by omega
          rw [if_neg (by simp), X.lay_at _ _ _ _ (by rw [hs, X.z68_size]; omega), if_neg (by omega)]
          exact at_rep 4096 _ _ 4098 (by omega)
      · rw [if_neg (by omega)]
        refine (at_rep 4096 _ _ (4097 + j) (by omega)).trans ?_
        rw [show 4097 + j - 4096 = j + 1 by omega, List.getElem?_cons_succ]
        obtain ⟨m, rfl⟩ : ∃ m, j = m + 2 := ⟨j - 2, by omega⟩
        rfl
theorem A.ok_none : A.Ok A.none' := ⟨fun j _ => by simp [A.none'], by simp [A.none'], by simp [A.none']⟩
theorem new_any {w : World} (n : Nat) (hn : n ≤ 4096) {ap : Option Addr} {m c : Nat} {xs : List Int} (hx : Ws w ap m c xs) (hm : m ≤ 1000000000) :
    Calls Tryz.prog 20 #[.int .i64 n, .slice ap m c] w fun e w' => ∃ B, e = .returned (.tuple #[.pointer (some ⟨B, 0, none⟩), .int .i64 0]) ∧ ∃ F, Mac F B ⟨List.replicate n 0, A.none', 0, 0, xs, []⟩ w' ∧ Turn T0 w w' ∧ ∀ k, F k → w.heap.size ≤ k := by
  have C := Lib.hid (M.new_yes n hn w)
  have hX := Lib.hid hx
  clear hx
  go_enter Tryz.func20, Tryz.ntmps20
  go_wp2_with (fail)
  refine C.out.mono ?_; rintro e w1 ⟨rfl, hM, hK, hsz⟩
  clear C
  go_upto_region 4 with (fail)
  have hKd := Lib.hid (show Kept w w1.drew from hK.drew)
  have hl := hM.len
  have hrng := hM.rng
  obtain ⟨cs, hh, hcs, hc3, hc4, _⟩ := hM.has
  replace hcs : cs.size = 4097 := hcs
  have hS0 : Has w.heap.size cs 64 w1.drew ∧ Ws w1.drew ap m c xs := ⟨hh, hX.out.kept hKd.out⟩
  replace hS0 := Lib.hid hS0
  clear hM hK hX hh
  refine wp_region_held_drew (S := fun wz => Has w.heap.size cs 64 wz ∧ Ws wz ap m c xs) (by kernel_rfl) ?_ (fun hHeld => ?_)
  · exact hS0.out
  refine tk 0 ⟨some 16, .move (.tmp 6), 77, "machine.go:38", #[], none⟩ (v := ?_) hHeld ?_ ?_
  rotate_left
  · (intro wz hSw; (try dsimp only at hSw); go_simp; try with_reducible rfl)
  try simp only [Act.put, q0, q1, q2]
  refine tk 1 ⟨some 17, .nilCheck (.tmp 16), 0, "machine.go:38", #[eD 0], none⟩ (v := ?_) hHeld ?_ ?_
  rotate_left
  · (intro wz hSw; (try dsimp only at hSw); go_simp; try with_reducible rfl)
  try simp only [Act.put, q0, q1, q2]
  refine tk 2 ⟨some 18, .load 64 (.tmp 17), 64, "machine.go:38", #[eD 1], none⟩ (v := ?_) hHeld ?_ ?_
  rotate_left
  · (intro wz hSw; refine exec_load_has 64 (Operand.tmp 17) ?_ _ ?_ hSw.1 Tryz.underlying64 rfl (by rw [hcs]; kernel_rfl) <;> rfl)
  try simp only [Act.put, q0, q1, q2]
  refine tk 3 ⟨some 19, .move (.tmp 1), 22, "machine.go:38", #[], none⟩ (v := ?_) hHeld ?_ ?_
  rotate_left
  · (intro wz hSw; (try dsimp only at hSw); go_simp; try with_reducible rfl)
  try simp only [Act.put, q0, q1, q2]
  refine wpAnyH_ready (rs := [4]) (by kernel_rfl) (by simp) ?_
  refine AllReadyH.cons (o := ⟨some 20, .call { callee := .value (.func 35), args := #[.tmp 19], argTypes := #[22] }, 22, "machine.go:38", #[eD 3], none⟩) rfl (fun K hK => ?_) (AllReadyH.nil)
  go_simp
  go_at_call 35
  refine (clone_any hHeld.2 (by omega)).mono ?_
  rintro e wd ⟨A', c', rfl, p1, p2, p3⟩
  have hN := (show (fun wz => Has w.heap.size cs 64 wz ∧ Ws wz ap m c xs) _ from ⟨(p2.block _ hHeld.1.lt id).trans hHeld.1, hHeld.2.to fun ad e hn => p2.block _ (by subst e; exact hHeld.2.lt hn) id⟩)
  clear hHeld
  refine hK.out _ _ hN (fun hHeld => ?_)
  clear hK K hN
  try simp only [Act.put, q0, q1, q2]
  refine tk 5 ⟨some 21, .build 66 #[(0, .tmp 18), (1, .tmp 20)], 66, "machine.go:38", #[eD 2, eD 4], none⟩ (v := ?_) hHeld ?_ ?_
  rotate_left
  · (intro wz hSw; refine exec_build (o := ⟨some 21, .build 66 #[(0, .tmp 18), (1, .tmp 20)], 66, "machine.go:38", #[eD 2, eD 4], none⟩) 66 _ rfl (X.lay (X.lay X.z68 0 cs) 4097 #[.slice A' m c']) ?_; (go_simp; exact X.built68 cs hcs (.slice A' m c') rfl))
  try simp only [Act.put, q0, q1, q2]
  refine tk 6 ⟨some 22, .build 68 #[(0, .tmp 21), (3, .const (.int .i64 0))], 68, "machine.go:38", #[eD 5], none⟩ (v := ?_) hHeld ?_ ?_
  rotate_left
  · (intro wz hSw; refine exec_build (o := ⟨some 22, .build 68 #[(0, .tmp 21), (3, .const (.int .i64 0))], 68, "machine.go:38", #[eD 5], none⟩) 68 _ rfl (X.lay (X.lay X.z70 0 (X.lay (X.lay X.z68 0 cs) 4097 #[.slice A' m c'])) 4121 #[.int .i64 0]) ?_; (go_simp; exact X.built70 (X.lay (X.lay X.z68 0 cs) 4097 #[.slice A' m c']) (by rw [X.lay_size, X.lay_size, X.z68_size])))
  try simp only [Act.put, q0, q1, q2]
  refine wpAnyH_ready (rs := [7]) (by kernel_rfl) (by simp) ?_
  refine AllReadyH.cons (o := ⟨some 23, .box 68 (.tmp 22), 30, "machine.go:38", #[eD 6], none⟩) rfl (fun K hK => ?_) (AllReadyH.nil)
  go_simp
  have hBox := Has.new (X.lay (X.lay X.z70 0 (X.lay (X.lay X.z68 0 cs) 4097 #[.slice A' m c'])) 4121 #[.int .i64 0]) 68 wd
  have hKb := (Kept.refl wd).alloc (X.lay (X.lay X.z70 0 (X.lay (X.lay X.z68 0 cs) 4097 #[.slice A' m c'])) 4121 #[.int .i64 0]) 68
  generalize wd.alloc _ = we at *
  have hN := (show (fun wz => Has w.heap.size cs 64 wz ∧ Ws wz ap m c xs) _ from ⟨hHeld.1.kept hKb, hHeld.2.kept hKb⟩)
  clear hHeld
  refine hK.out _ _ hN (fun hHeld => ?_)
  clear hK K hN
  try simp only [Act.put, q0, q1, q2]
  refine tk 8 ⟨some 4, .assign (.tmp 23), 30, "machine.go:38", #[eD 7, eC 4, eP 0, eP 1, eP 2, eP 3, eP 4, eP 5, eP 6, eP 7], none⟩ (v := ?_) hHeld ?_ ?_
  rotate_left
  · (intro wz hSw; (try dsimp only at hSw); go_simp; try with_reducible rfl)
  try simp only [Act.put, q0, q1, q2]
  refine tk 9 ⟨some 5, .assign (.const (.int .i64 0)), 46, "machine.go:38", #[eC 8, eP 0, eP 1, eP 2, eP 3, eP 4, eP 5, eP 6, eP 7, eP 8], none⟩ (v := ?_) hHeld ?_ ?_
  rotate_left
  · (intro wz hSw; (try dsimp only at hSw); go_simp; try with_reducible rfl)
  try simp only [Act.put, q0, q1, q2]
  refine wpAnyH_done (by kernel_rfl) ?_ _
  have hT : Turn T0 w we := ((hKd.out.turn T0).trans p2).trans (hKb.turn T0)
  have hle : w.heap.size ≤ wd.heap.size := Nat.le_trans hKd.out.size p2.size
  have hlt : wd.heap.size < we.heap.size := hBox.lt
  have hMM := MemT.machine (w := we) hl hrng hcs hc3 hc4 hBox
  have hW := p1.kept hKb
  have hMac : Mac (fun k => w.heap.size ≤ k ∧ k < we.heap.size) wd.heap.size ⟨List.replicate n 0, A.none', 0, 0, xs, []⟩ we := ⟨A', m, c', none, 0, 0, fun k hk => hk.2, ⟨hle, hlt⟩, hMM, hW, fun ad e _ => ⟨⟨Nat.le_trans hKd.out.size (p3 ad e).1, by have := (p3 ad e).2; omega⟩, by have := (p3 ad e).2; omega, fun bd e' => by cases e'⟩, World.ownsRow_nil we 0 _ _, (fun ad e => by cases e), A.ok_none, by simp, by simp, by simp⟩
  replace hMac := Lib.hid hMac
  replace hT := Lib.hid hT
  clear p1 p2 p3 hMM hW hBox hKb hHeld
  go_wp2
  go_ret2
  exact ⟨_, rfl, _, hMac.out, hT.out, fun k hk => hk.1⟩
end Go.Proofs.YtlmddkciamdldaaGreat

/-
  The document's memory: a struct of one slice of bytes; its contracts: New, trap, get, set.
-/
namespace Go.Proofs.YtlmddkciamdldaaGreat
open Go.RowKit
set_option linter.unusedVariables false
set_option linter.unusedSimpArgs false
set_option maxRecDepth 100000
/-- the block D is the document's memory of the words ws, its bytes lie in the block C -/
structure RMem (D C : Nat) (ws : List Int) (w : World) : Prop where
  len : ws.length ≤ 4096
  rng : ∀ x ∈ ws, 0 ≤ x ∧ x < 4294967296
  ne : D ≠ C
  box : Has D #[.slice (some ⟨C, 0, none⟩) (4 * ws.length) (4 * ws.length)] 84 w
  has : ∃ cs : Array Value, Has C cs 5 w ∧ cs.size = 4 * ws.length ∧ ∀ (i : Nat) (x : Int), ws[i]? = some x → ∀ j, j < 4 → cs[4 * i + j]? = some (Value.int .u8 (x / 2 ^ (8 * j) % 256))
theorem Has.below {B : Nat} {cs : Array Value} {t : TypeId} {w w' : World} (h : Has B cs t w) (hK : Below w.heap.size w w') : Has B cs t w' := (hK.block B h.lt).trans h
theorem MemT.below {tyM : TypeId} {tlM : List Value} {B : Nat} {ws : List Int} {w w' : World} (h : MemT tyM tlM B ws w) (hK : Below w.heap.size w w') : MemT tyM tlM B ws w' := by
  obtain ⟨cs, h1, h2⟩ := h.has; exact ⟨h.len, h.rng, cs, h1.below hK, h2⟩
theorem RMem.below {D C : Nat} {ws : List Int} {w w' : World} (h : RMem D C ws w) (hK : Below w.heap.size w w') : RMem D C ws w' := by
  obtain ⟨cs, h1, h2⟩ := h.has; exact ⟨h.len, h.rng, h.ne, h.box.below hK, cs, h1.below hK, h2⟩
theorem RMem.but {D C B : Nat} {ws : List Int} {w w' : World} (h : RMem D C ws w) (hK : But B w w') (h1 : D ≠ B) (h2 : C ≠ B) : RMem D C ws w' := by
  obtain ⟨cs, h3, h4⟩ := h.has; exact ⟨h.len, h.rng, h.ne, hK.has h1 h.box, cs, hK.has h2 h3, h4⟩
theorem RMem.kept {D C : Nat} {ws : List Int} {w w' : World} (h : RMem D C ws w) (hK : Kept w w') : RMem D C ws w' := h.below hK.below
theorem RMem.sl {D C : Nat} {ws : List Int} {w : World} (h : RMem D C ws w) : w.cell? ⟨D, 0, none⟩ = some (.slice (some ⟨C, 0, none⟩) (4 * ws.length) (4 * ws.length)) := h.box.cell 0 _ rfl
theorem RMem.byte {D C : Nat} {ws : List Int} {w : World} (h : RMem D C ws w) (i : Nat) (hi : i < ws.length) (j : Nat) (hj : j < 4) : w.cell? ⟨C, 4 * i + j, none⟩ = some (.int .u8 (ws[i] / 2 ^ (8 * j) % 256)) := by
  obtain ⟨cs, h3, h4, h5⟩ := h.has
  exact h3.cell _ _ (h5 i _ (List.getElem?_eq_getElem hi) j hj)
theorem RMem.free {D C : Nat} {ws : List Int} {w : World} (h : RMem D C ws w) (j : Nat) : w.frozen? ⟨C, j, none⟩ = false := by
  obtain ⟨cs, h3, h4⟩ := h.has; exact h3.free j
theorem RMem.lt {D C : Nat} {ws : List Int} {w : World} (h : RMem D C ws w) : D < w.heap.size ∧ C < w.heap.size := by
  obtain ⟨cs, h3, h4⟩ := h.has; exact ⟨h.box.lt, h3.lt⟩
theorem made_at (z : Value) (n j : Nat) (hj : j < n) : (madeCells #[z] n)[j]? = some z := by
  unfold madeCells
  simp [hj, Nat.mod_one]
theorem RMem.new (n : Nat) (hn : n ≤ 4096) (w : World) : RMem (w.heap.size + 1) w.heap.size (List.replicate n 0) ((w.alloc (.cells (madeCells #[Value.int .u8 0] (4 * n)) 5)).alloc (.cells #[.slice (some ⟨w.heap.size, 0, none⟩) (4 * n) (4 * n)] 84)) := by
  refine ⟨by simpa using hn, fun x hx => ?_, by omega, ?_, _, (Has.new _ _ _).alloc _, by simp [size_madeCells], fun i x hi j hj => ?_⟩
  · rw [List.eq_of_mem_replicate hx]; omega
  · rw [List.length_replicate]; exact Has.new1 _ _ _ _
  · rw [List.getElem?_replicate] at hi
    split at hi
    · cases hi
      rw [made_at _ _ _ (by omega), Int.zero_ediv]; rfl
    · cases hi
theorem M.info8 : (Tryz.prog.info? 5).map (fun i => (i.zero, i.size, i.bytes)) = some (some (.int .u8 0), 1, 1) := by kernel_rfl
theorem R.shape : shapeOf Tryz.prog 84 = some (#[.slice none 0 0], [(0, 1)]) := by kernel_rfl
theorem R.built (v : Value) (hv : v.cells = #[v]) : Tryz.prog.built 84 [(0, v)] = some #[v] := by
  rw [built_of R.shape]
  have := fill_one (place := fun x => ([(0, 1)] : List (Nat × Nat)).toArray[x]?) (z := #[.slice none 0 0]) (i := 0) (off := 0) rfl hv (by decide)
  exact this
theorem make_row2 {P : Program} {w : World} {ops : Array Oper} {rest : List Oper} {o : Oper} {a : Act} {Q : Exit → Act → World → Prop} (hgd : o.guard = none) (l c : Operand) (t : TypeId) (ho : o.op = .makeSlice t l c)
    (e : TypeId) {z : Value} {b : Nat} (h1 : P.underlying t = some (.slice e)) (hi : (P.info? e).map (fun i => (i.zero, i.size, i.bytes)) = some (some z, 1, b)) (n : Nat) (L : Int) (hl : a.eval l = .int .i64 L) (hc : a.eval c = .int .i64 L) (hL : L = n)
    (b2 : b * n ≤ 281474976710656) (b3 : n ≤ maxLen)
    (h : wpList P ops Q rest (a.put o.dst (.slice (some ⟨w.heap.size, 0, none⟩) n n)) (w.alloc (.cells (madeCells z.cells n) e))) : wpList P ops Q (o :: rest) a w := by
  subst hL
  exact make_row hgd l c t ho e h1 hi n hl hc b2 b3 h
theorem R.new_any (n : Nat) (hn : n ≤ 4096) (w : World) :
    Calls Tryz.prog 39 #[.int .i64 n] w fun e w' => e = .returned (.tuple #[.pointer (some ⟨w.heap.size + 1, 0, none⟩), .int .i64 0]) ∧ RMem (w.heap.size + 1) w.heap.size (List.replicate n 0) w' ∧ Kept w w' ∧ w'.heap.size = w.heap.size + 2 := by
  have h0 : (0 : Int) ≤ n := by omega
  have h1 : (n : Int) ≤ 4096 := by omega
  go_enter Tryz.func39, Tryz.ntmps39
  go_wp2_with (first
    | (with_reducible refine make_row2 rfl (.tmp 11) (.tmp 11) 82 rfl 5 Tryz.underlying82 M.info8 (4 * n) _ rfl rfl (by omega) (by omega) (by unfold maxLen; omega) ?_)
    | ((with_reducible refine build_has (o := ⟨some 13, _, _, _, _, _⟩) rfl 84 _ rfl #[.slice (some ⟨w.heap.size, 0, none⟩) (4 * n) (4 * n)] ?hf4 ?_); (case hf4 => (go_simp; exact R.built _ rfl))))
  go_ret2
  exact ⟨rfl, RMem.new n hn w, ((Kept.refl w).alloc _ _).alloc _ _, by simp⟩
theorem R.trap_any {D C : Nat} {ws : List Int} {w : World} (h : RMem D C ws w) (a : Int) (h0 : 0 ≤ a) (h1 : a < 4294967296) (b : Bool) :
    Calls Tryz.prog 46 #[.pointer (some ⟨D, 0, none⟩), .int .u32 a, .bool b] w fun e w' => e = .returned (.int .i64 (if b then M.wt ws a else M.bt ws a)) ∧ w = w' := by
  have hc := h.sl
  have hl := h.len
  have hl0 : (ws.length : Int) ≤ 4096 := by omega
  clear h
  have hb : M.bt ws a = if ((4 * ws.length : Nat) : Int) ≤ a then 3 else 0 := by
    unfold M.bt
    by_cases c : ((4 * ws.length : Nat) : Int) ≤ a
    · rw [if_pos c, if_pos (by omega)]
    · rw [if_neg c, if_neg (by omega)]
  unfold M.wt
  rw [hb]
  clear hb
  generalize hN : 4 * ws.length = N at *
  have hN1 : (N : Int) ≤ 16384 := by omega
  clear hN hl hl0
  by_cases c1 : (N : Int) ≤ a <;> by_cases c2 : a % 4 = 0 <;> cases b
  all_goals
    simp only [c1, c2, if_true, if_false, Bool.false_eq_true]
    go_enter Tryz.func46, Tryz.ntmps46
    go_wp2
    go_ret
    exact ⟨rfl, rfl⟩
theorem R.sum (x : Int) (h0 : 0 ≤ x) (h1 : x < 4294967296) : x / 2 ^ (8 * 0) % 256 + x / 2 ^ (8 * 1) % 256 * 256 + x / 2 ^ (8 * 2) % 256 * 65536 + x / 2 ^ (8 * 3) % 256 * 16777216 = x := by
  show x / 1 % 256 + x / 256 % 256 * 256 + x / 65536 % 256 * 65536 + x / 16777216 % 256 * 16777216 = x
  omega
theorem R.wraps (b0 b1 b2 b3 : Int) (r0 : 0 ≤ b0 ∧ b0 < 256) (r1 : 0 ≤ b1 ∧ b1 < 256) (r2 : 0 ≤ b2 ∧ b2 < 256) (r3 : 0 ≤ b3 ∧ b3 < 256) :
    IntKind.u32.wrap (IntKind.u32.wrap (IntKind.u32.wrap (IntKind.u32.wrap b0 + IntKind.u32.wrap (IntKind.u32.wrap b1 * 256)) + IntKind.u32.wrap (IntKind.u32.wrap b2 * 65536)) + IntKind.u32.wrap (IntKind.u32.wrap b3 * 16777216)) = b0 + b1 * 256 + b2 * 65536 + b3 * 16777216 := by
  simp only [IntKind.wrap_u32]
  omega
set_option maxRecDepth 100000 in
theorem R.get_any {D C : Nat} {ws : List Int} {w : World} (h : RMem D C ws w) (n : Nat) (hn : n < ws.length) :
    Calls Tryz.prog 47 #[.pointer (some ⟨D, 0, none⟩), .int .i64 n] w fun e w' => e = .returned (.int .u32 ws[n]) ∧ Kept w w' := by
  have hc := h.sl
  have hl := h.len
  have hr := h.rng _ (List.getElem_mem hn)
  have g0 := h.byte n hn 0 (by omega)
  have g1 := h.byte n hn 1 (by omega)
  have g2 := h.byte n hn 2 (by omega)
  have g3 := h.byte n hn 3 (by omega)
  have hs := R.sum ws[n] hr.1 hr.2
  have r0 : 0 ≤ ws[n] / 2 ^ (8 * 0) % 256 ∧ ws[n] / 2 ^ (8 * 0) % 256 < 256 := by omega
  have r1 : 0 ≤ ws[n] / 2 ^ (8 * 1) % 256 ∧ ws[n] / 2 ^ (8 * 1) % 256 < 256 := by omega
  have r2 : 0 ≤ ws[n] / 2 ^ (8 * 2) % 256 ∧ ws[n] / 2 ^ (8 * 2) % 256 < 256 := by omega
  have r3 : 0 ≤ ws[n] / 2 ^ (8 * 3) % 256 ∧ ws[n] / 2 ^ (8 * 3) % 256 < 256 := by omega
  generalize ws[n] / 2 ^ (8 * 0) % 256 = b0 at *
  generalize ws[n] / 2 ^ (8 * 1) % 256 = b1 at *
  generalize ws[n] / 2 ^ (8 * 2) % 256 = b2 at *
  generalize ws[n] / 2 ^ (8 * 3) % 256 = b3 at *
  generalize ws[n] = x at *
  generalize hN : ws.length = N at *
  rw [Nat.add_zero] at g0
  have hn0 : (n : Int) < N := by omega
  have hN0 : (N : Int) ≤ 4096 := by omega
  replace hs := Lib.hid hs
  clear h hN hr
  go_enter Tryz.func47, Tryz.ntmps47
  go_wp2
  rw [show 4 * n + 4 - 4 * n = 4 by omega]
  refine WS.start 22 (by kernel_rfl) (by kernel_rfl) ?_
  intro w2 hw2
  have hK := Lib.hid (show Kept w w2 by rw [hw2]; exact (Kept.refl w).drew)
  replace g0 := (show w2.cell? ⟨C, 4 * n, none⟩ = w.cell? ⟨C, 4 * n, none⟩ by rw [hw2]; rfl).trans g0
  replace g1 := (show w2.cell? ⟨C, 4 * n + 1, none⟩ = w.cell? ⟨C, 4 * n + 1, none⟩ by rw [hw2]; rfl).trans g1
  replace g2 := (show w2.cell? ⟨C, 4 * n + 2, none⟩ = w.cell? ⟨C, 4 * n + 2, none⟩ by rw [hw2]; rfl).trans g2
  replace g3 := (show w2.cell? ⟨C, 4 * n + 3, none⟩ = w.cell? ⟨C, 4 * n + 3, none⟩ by rw [hw2]; rfl).trans g3
  clear hw2 hc
  simp only [List.take_succ_cons, List.take_zero, List.drop_succ_cons, List.drop_zero]
  iterate 22 (refine WS.step rfl (fun K hK => ?_); go_simp; refine hK _ ?_; clear hK K)
  refine WS.nil ?_
  go_wp2
  go_ret
  refine ⟨?_, hK.out⟩
  rw [R.wraps b0 b1 b2 b3 r0 r1 r2 r3, hs.out]
  rfl
/-- the bytes while a word is set: k of them are -/
def R.Part (C n k : Nat) (x : Int) (cs0 : Array Value) (w : World) : Prop :=
  ∃ cs : Array Value, Has C cs 5 w ∧ cs.size = cs0.size ∧ (∀ j, j < k → cs[4 * n + j]? = some (Value.int .u8 (x / 2 ^ (8 * j) % 256))) ∧ ∀ p, p < 4 * n ∨ 4 * n + k ≤ p → cs[p]? = cs0[p]?
theorem R.part_step {C n k : Nat} {x : Int} {cs0 : Array Value} {w : World} (h : R.Part C n k x cs0 w) (hn : 4 * n + k < cs0.size) : R.Part C n (k + 1) x cs0 (w.setCell ⟨C, 4 * n + k, none⟩ (.int .u8 (x / 2 ^ (8 * k) % 256))) := by
  obtain ⟨cs, h1, h2, h3, h4⟩ := h
  refine ⟨_, h1.set _ _, by simpa using h2, fun j hj => ?_, fun p hp => ?_⟩
  · by_cases c : j = k
    · subst c
      rw [Array.getElem?_setIfInBounds_self_of_lt (by omega)]
    · rw [Array.getElem?_setIfInBounds_ne (by omega)]
      exact h3 j (by omega)
  · rw [Array.getElem?_setIfInBounds_ne (by omega)]
    exact h4 p (by omega)
theorem R.part_cell {C n k : Nat} {x : Int} {cs0 : Array Value} {w : World} (h : R.Part C n k x cs0 w) (hn : 4 * n + k < cs0.size) : ∃ v, w.cell? ⟨C, 4 * n + k, none⟩ = some v := by
  obtain ⟨cs, h1, h2, h3, h4⟩ := h
  exact ⟨_, h1.cell _ _ (Array.getElem?_eq_getElem (by omega))⟩
theorem R.part_free {C n k : Nat} {x : Int} {cs0 : Array Value} {w : World} (h : R.Part C n k x cs0 w) (j : Nat) : w.frozen? ⟨C, j, none⟩ = false := by
  obtain ⟨cs, h1, _⟩ := h
  exact h1.free j
theorem R.part_end {D C n : Nat} {ws : List Int} {x : Int} {w w' : World} {cs0 : Array Value} (h : RMem D C ws w) (hn : n < ws.length) (x0 : 0 ≤ x) (x1 : x < 4294967296) (hs : cs0.size = 4 * ws.length)
    (h5 : ∀ (i : Nat) (x : Int), ws[i]? = some x → ∀ j, j < 4 → cs0[4 * i + j]? = some (Value.int .u8 (x / 2 ^ (8 * j) % 256))) (hP : R.Part C n 4 x cs0 w') (hB : But C w w') : RMem D C (ws.set n x) w' := by
  obtain ⟨cs, h1, h2, h3, h4⟩ := hP
  refine ⟨by simpa using h.len, fun y hy => ?_, h.ne, ?_, cs, h1, by rw [List.length_set]; omega, fun i y hi j hj => ?_⟩
  · rcases mem_set hy with hy | rfl
    · exact h.rng y hy
    · exact ⟨x0, x1⟩
  · rw [List.length_set]; exact hB.has h.ne h.box
  · rw [List.getElem?_set] at hi
    by_cases c : n = i
    · subst c
      rw [if_pos rfl, if_pos hn] at hi
      cases hi
      exact h3 j hj
    · rw [if_neg c] at hi
      rw [h4 _ (by omega)]
      exact h5 i y hi j hj
theorem R.shift (x : Int) (k : Nat) : x / 2 ^ (8 * k) / 256 = x / 2 ^ (8 * (k + 1)) := by
  rw [Int.ediv_ediv_of_nonneg (Int.le_of_lt (Int.pow_pos (by decide))), show (256 : Int) = 2 ^ 8 from rfl, ← Int.pow_add, show 8 * k + 8 = 8 * (k + 1) by omega]
theorem R.bounds (x : Int) (k : Nat) (x0 : 0 ≤ x) (x1 : x < 4294967296) : 0 ≤ x / 2 ^ (8 * k) ∧ x / 2 ^ (8 * k) < 4294967296 := by
  have p : (0 : Int) < 2 ^ (8 * k) := Int.pow_pos (by decide)
  refine ⟨Int.ediv_nonneg x0 (Int.le_of_lt p), ?_⟩
  exact Int.lt_of_le_of_lt (Int.ediv_le_self _ x0) x1
set_option maxRecDepth 100000 in
theorem R.set_any {D C : Nat} {ws : List Int} {w : World} (h : RMem D C ws w) (n : Nat) (hn : n < ws.length) (x : Int) (x0 : 0 ≤ x) (x1 : x < 4294967296) :
    Calls Tryz.prog 40 #[.pointer (some ⟨D, 0, none⟩), .int .i64 n, .int .u32 x] w fun e w' => e = .returned (.tuple #[]) ∧ RMem D C (ws.set n x) w' ∧ But C w w' := by
  have hl := h.len
  have hc := h.sl
  have hD := h.lt.1
  have hne := h.ne
  obtain ⟨cs0, hh, hs, h5⟩ := h.has
  have hE := Lib.hid (fun (w' : World) (hP : R.Part C n 4 x cs0 w') (hB : But C w w') => R.part_end h hn x0 x1 hs h5 hP hB)
  have hP0 := Lib.hid (show R.Part C n 0 x cs0 w from ⟨cs0, hh, rfl, fun j hj => by omega, fun _ _ => rfl⟩)
  replace hc := Lib.hid hc
  generalize hN : ws.length = N at *
  have hn0 : (n : Int) < N := by omega
  have hN0 : (N : Int) ≤ 4096 := by omega
  clear h hN hh h5
  go_enter Tryz.func40, Tryz.ntmps40
  go_wp2
  go_loopw [2, 6] (fun xv i wr => ∃ k : Nat, k ≤ 4 ∧ i = .int .i64 k ∧ xv = .int .u32 (x / 2 ^ (8 * k)) ∧ But C w wr ∧ R.Part C n k x cs0 wr) (fun _ i _ => 4 - (intOf i).toNat)
  case atStart => exact ⟨0, by omega, rfl, by rw [Nat.mul_zero, Int.pow_zero, Int.ediv_one], But.refl _ _, hP0.out⟩
  case round =>
    obtain ⟨k, hk, rfl, rfl, hB, hP⟩ := hrel
    have hr := R.bounds x k x0 x1
    by_cases d1 : k < 4
    · have d2 : (k : Int) < 4 := by omega
      have g1 := (World.cell?_of_block (w := w) (hB.block D hD hne) : wr.cell? ⟨D, 0, none⟩ = w.cell? ⟨D, 0, none⟩).trans hc.out
      obtain ⟨v, hv⟩ := R.part_cell hP (by omega)
      have hf := R.part_free hP (4 * n + k)
      have hS := Lib.hid (R.part_step hP (by omega))
      have hB2 := Lib.hid (hB.setCell (4 * n + k) (.int .u8 (x / 2 ^ (8 * k) % 256)))
      have hx := R.shift x k
      clear hP hB
      go_wp2
      go_roundw
      case rel => exact ⟨k + 1, by omega, by go_num, by rw [hx], hB2.out, hS.out⟩
      case measure => simp [intOf]; omega
    · have d2 : ¬ (k : Int) < 4 := by omega
      obtain rfl : k = 4 := by omega
      have hR := Lib.hid (hE.out _ hP hB)
      replace hB := Lib.hid hB
      clear hP
      go_wp2
      go_end0
      exact ⟨rfl, hR.out, hB.out⟩
theorem R.word_any {D C : Nat} {ws : List Int} {w : World} (h : RMem D C ws w) (a : Int) (h0 : 0 ≤ a) (h1 : a < 4294967296) :
    Calls Tryz.prog 29 #[.pointer (some ⟨D, 0, none⟩), .int .u32 a] w fun e w' => e = .returned (.tuple #[.int .u32 (M.word ws a), .int .i64 (M.wt ws a)]) ∧ Kept w w' := by
  have T := R.trap_any h a h0 h1 true
  simp only [if_true] at T
  unfold M.word
  by_cases c : M.wt ws a = 0
  · rw [if_pos c]
    have c3 := M.bt_zero h0 (M.wt_zero c).2
    rw [show ws.getD (a / 4).toNat 0 = ws[(a / 4).toNat] by simp [c3]]
    have G := R.get_any h (a / 4).toNat c3
    rw [show (((a / 4).toNat : Nat) : Int) = a / 4 by omega] at G
    rw [c] at T ⊢
    generalize ws[(a / 4).toNat] = x at *
    clear h c c3
    go_enter Tryz.func29, Tryz.ntmps29
    go_wp2_with (first
      | (go_at_call 46; refine T.mono ?_; rintro e w' ⟨rfl, rfl⟩)
      | (go_at_call 47; refine G.mono ?_; rintro e w2 ⟨rfl, hK⟩))
    go_ret2
    exact ⟨rfl, hK⟩
  · rw [if_neg c]
    generalize M.wt ws a = t at *
    clear h
    go_enter Tryz.func29, Tryz.ntmps29
    go_wp2_with (go_at_call 46; refine T.mono ?_; rintro e w' ⟨rfl, rfl⟩)
    go_ret2
    exact ⟨rfl, Kept.refl _⟩
theorem R.byte_any {D C : Nat} {ws : List Int} {w : World} (h : RMem D C ws w) (a : Int) (h0 : 0 ≤ a) (h1 : a < 4294967296) :
    Calls Tryz.prog 50 #[.pointer (some ⟨D, 0, none⟩), .int .u32 a] w fun e w' => e = .returned (.tuple #[.int .u8 (M.byte ws a), .int .i64 (M.bt ws a)]) ∧ w = w' := by
  have T := R.trap_any h a h0 h1 false
  simp only [Bool.false_eq_true, if_false] at T
  unfold M.byte
  by_cases c : M.bt ws a = 0
  · rw [if_pos c]
    have c3 := M.bt_zero h0 c
    rw [show ws.getD (a / 4).toNat 0 = ws[(a / 4).toNat] by simp [c3]]
    have g := h.byte _ c3 (a % 4).toNat (by omega)
    rw [show 4 * (a / 4).toNat + (a % 4).toNat = a.toNat by omega, show 8 * (a % 4).toNat = (8 * (a % 4)).toNat by omega] at g
    have hs := h.sl
    have hl := h.len
    have hlt : a < 4 * (ws.length : Int) := by omega
    rw [c] at T ⊢
    generalize ws[(a / 4).toNat] / 2 ^ (8 * (a % 4)).toNat % 256 = x at *
    generalize ws.length = N at *
    clear h c c3
    go_enter Tryz.func50, Tryz.ntmps50
    go_wp2_with (go_at_call 46; refine T.mono ?_; rintro e w' ⟨rfl, rfl⟩)
    go_ret2
    exact ⟨rfl, rfl⟩
  · rw [if_neg c]
    generalize M.bt ws a = t at *
    clear h
    go_enter Tryz.func50, Tryz.ntmps50
    go_wp2_with (go_at_call 46; refine T.mono ?_; rintro e w' ⟨rfl, rfl⟩)
    go_ret2
    exact ⟨rfl, rfl⟩
theorem R.setW_any {D C : Nat} {ws : List Int} {w : World} (h : RMem D C ws w) (a x : Int) (h0 : 0 ≤ a) (h1 : a < 4294967296) (x0 : 0 ≤ x) (x1 : x < 4294967296) :
    Calls Tryz.prog 52 #[.pointer (some ⟨D, 0, none⟩), .int .u32 a, .int .u32 x] w fun e w' => e = .returned (.int .i64 (M.wt ws a)) ∧ RMem D C (M.setW ws a x) w' ∧ But C w w' := by
  have T := R.trap_any h a h0 h1 true
  simp only [if_true] at T
  unfold M.setW
  by_cases c : M.wt ws a = 0
  · rw [if_pos c]
    have c3 := M.bt_zero h0 (M.wt_zero c).2
    have G := R.set_any h (a / 4).toNat c3 x x0 x1
    rw [show (((a / 4).toNat : Nat) : Int) = a / 4 by omega] at G
    rw [c] at T ⊢
    clear h c c3
    go_enter Tryz.func52, Tryz.ntmps52
    go_wp2_with (first
      | (go_at_call 46; refine T.mono ?_; rintro e w' ⟨rfl, rfl⟩)
      | (go_at_call 40; refine G.mono ?_; rintro e w2 ⟨rfl, hR, hB⟩))
    go_ret
    exact ⟨rfl, hR, hB⟩
  · rw [if_neg c]
    have R := Lib.hid h
    have c1 : (M.wt ws a == 0) = false := by simpa using c
    generalize M.wt ws a = t at *
    clear h
    go_enter Tryz.func52, Tryz.ntmps52
    go_wp2_with (go_at_call 46; refine T.mono ?_; rintro e w' ⟨rfl, rfl⟩)
    go_ret
    exact ⟨rfl, R.out, But.refl _ _⟩
end Go.Proofs.YtlmddkciamdldaaGreat

/-
  The document's memory: the contracts of SetByte, Place, Words.
-/
namespace Go.Proofs.YtlmddkciamdldaaGreat
open Go.RowKit
set_option linter.unusedVariables false
set_option linter.unusedSimpArgs false
set_option maxRecDepth 100000
theorem RMem.setByte {D C : Nat} {ws : List Int} {w : World} (h : RMem D C ws w) (a x : Int) (h0 : 0 ≤ a) (hj : (a / 4).toNat < ws.length) (x0 : 0 ≤ x) (x1 : x < 256) :
    RMem D C (ws.set (a / 4).toNat (M.mix ws[(a / 4).toNat] a x)) (w.setCell ⟨C, a.toNat, none⟩ (.int .u8 x)) := by
  obtain ⟨cs, h3, h4, h5⟩ := h.has
  have hr := h.rng _ (List.getElem_mem hj)
  have hm := M.mix_range ws[(a / 4).toNat] a x h0 x0 x1 hr.1 hr.2
  refine ⟨by simpa using h.len, fun y hy => ?_, h.ne, ?_, _, h3.set _ _, by rw [List.length_set]; simpa using h4, fun i y hi j hj4 => ?_⟩
  · rcases mem_set hy with hy | rfl
    · exact h.rng y hy
    · exact hm
  · rw [List.length_set]; exact h.box.other h.ne _
  · rw [List.getElem?_set] at hi
    by_cases c : (a / 4).toNat = i
    · subst c
      rw [if_pos rfl, if_pos hj] at hi
      cases hi
      rw [M.mix_byte _ _ _ _ hj4 h0 x0 x1 hr.1 hr.2]
      by_cases c2 : a % 4 = j
      · rw [if_pos c2, show 4 * (a / 4).toNat + j = a.toNat by omega, Array.getElem?_setIfInBounds_self_of_lt (by omega)]
      · rw [if_neg c2, Array.getElem?_setIfInBounds_ne (by omega)]
        exact h5 _ _ (List.getElem?_eq_getElem hj) j hj4
    · rw [if_neg c] at hi
      rw [Array.getElem?_setIfInBounds_ne (by omega)]
      exact h5 i y hi j hj4
theorem R.setB_any {D C : Nat} {ws : List Int} {w : World} (h : RMem D C ws w) (a x : Int) (h0 : 0 ≤ a) (h1 : a < 4294967296) (x0 : 0 ≤ x) (x1 : x < 256) :
    Calls Tryz.prog 51 #[.pointer (some ⟨D, 0, none⟩), .int .u32 a, .int .u8 x] w fun e w' => e = .returned (.int .i64 (M.bt ws a)) ∧ RMem D C (M.setB ws a x) w' ∧ But C w w' := by
  have T := R.trap_any h a h0 h1 false
  simp only [Bool.false_eq_true, if_false] at T
  unfold M.setB
  by_cases c : M.bt ws a = 0
  · rw [if_pos c]
    have c3 := M.bt_zero h0 c
    rw [show ws.getD (a / 4).toNat 0 = ws[(a / 4).toNat] by simp [c3]]
    have G := Lib.hid (h.setByte a x h0 c3 x0 x1)
    have g := h.byte _ c3 (a % 4).toNat (by omega)
    rw [show 4 * (a / 4).toNat + (a % 4).toNat = a.toNat by omega] at g
    have hf := h.free a.toNat
    have hs := h.sl
    have hl := h.len
    have hlt : a < 4 * (ws.length : Int) := by omega
    rw [c] at T ⊢
    generalize ws[(a / 4).toNat] / 2 ^ (8 * (a % 4).toNat) % 256 = y at *
    generalize M.mix ws[(a / 4).toNat] a x = z at *
    generalize ws.length = N at *
    clear h c c3
    go_enter Tryz.func51, Tryz.ntmps51
    go_wp2_with (go_at_call 46; refine T.mono ?_; rintro e w' ⟨rfl, rfl⟩)
    go_ret
    exact ⟨rfl, G.out, (But.refl _ _).setCell _ _⟩
  · rw [if_neg c]
    have R := Lib.hid h
    have c1 : (M.bt ws a == 0) = false := by simpa using c
    generalize M.bt ws a = t at *
    clear h
    go_enter Tryz.func51, Tryz.ntmps51
    go_wp2_with (go_at_call 46; refine T.mono ?_; rintro e w' ⟨rfl, rfl⟩)
    go_ret
    exact ⟨rfl, R.out, But.refl _ _⟩
theorem R.place_no {D C : Nat} {ws : List Int} {w : World} (h : RMem D C ws w) (k : Int) (A : Option Addr) (n c : Nat) (hn : n ≤ maxLen) (k0 : -9223372036854775808 ≤ k) (k1 : k ≤ 9223372036854775807) (hf : k < 0 ∨ (ws.length : Int) < k + n) :
    Calls Tryz.prog 23 #[.pointer (some ⟨D, 0, none⟩), .int .i64 k, .slice A n c] w fun e w' => e = .returned (.int .i64 11) ∧ w = w' := by
  have hc := h.sl
  have hl := h.len
  unfold maxLen at hn
  have hn1 : (n : Int) ≤ 9223372036854775807 := by omega
  clear h
  generalize ws.length = N at *
  rcases Int.lt_or_le k 0 with h | h
  · go_enter Tryz.func23, Tryz.ntmps23
    go_wp2
    go_ret
    exact ⟨rfl, rfl⟩
  · have h2 : ¬ k < 0 := by omega
    have h3 : decide (k < 0) = false := decide_eq_false h2
    rcases Int.lt_or_le (N : Int) k with h4 | h4
    · clear hf
      go_enter Tryz.func23, Tryz.ntmps23
      go_wp2
      go_ret
      exact ⟨rfl, rfl⟩
    · have h1 : (N : Int) - k < n := by omega
      have h5 : decide ((N : Int) < k) = false := decide_eq_false (by omega)
      clear hf
      go_enter Tryz.func23, Tryz.ntmps23
      go_wp2
      go_ret
      exact ⟨rfl, rfl⟩
theorem M.placed_none (ws : List Int) (k : Nat) : M.placed ws k [] = ws := by unfold M.placed; simp
theorem M.placed_step (ws xs : List Int) (k j : Nat) (x : Int) (hk : k + xs.length ≤ ws.length) (hx : xs[j]? = some x) : (M.placed ws k (xs.take j)).set (k + j) x = M.placed ws k (xs.take (j + 1)) := by
  have hj : j < xs.length := by
    rcases Nat.lt_or_ge j xs.length with h1 | h1
    · exact h1
    · rw [List.getElem?_eq_none h1] at hx; cases hx
  have t1 : (xs.take j).length = j := by simp; omega
  have t2 : (xs.take (j + 1)).length = j + 1 := by simp; omega
  apply List.ext_getElem?
  intro i
  rw [List.getElem?_set]
  by_cases c1 : k + j = i
  · subst c1
    rw [if_pos rfl, if_pos (by rw [M.placed_len _ _ _ (by omega)]; omega), M.placed_in _ _ _ _ (by omega) (by omega) (by omega), List.getElem?_take, if_pos (by omega), show k + j - k = j by omega, hx]
  · rw [if_neg c1]
    by_cases c2 : k ≤ i ∧ i < k + j
    · rw [M.placed_in _ _ _ _ (by omega) c2.1 (by omega), M.placed_in _ _ _ _ (by omega) c2.1 (by omega), List.getElem?_take, List.getElem?_take, if_pos (by omega), if_pos (by omega)]
    · rw [M.placed_out _ _ _ _ (by omega) (by omega), M.placed_out _ _ _ _ (by omega) (by omega)]
set_option maxRecDepth 100000 in
theorem R.place_loop {D C : Nat} {ws : List Int} {w : World} (h : RMem D C ws w) (k : Nat) (b off n c : Nat) (xs : List Int) (hx : Ws w (some ⟨b, off, none⟩) n c xs) (hn : 0 < n) (hb : b ≠ C) (hf : k + n ≤ ws.length) :
    Calls Tryz.prog 23 #[.pointer (some ⟨D, 0, none⟩), .int .i64 k, .slice (some ⟨b, off, none⟩) n c] w fun e w' => e = .returned (.int .i64 0) ∧ RMem D C (M.placed ws k xs) w' ∧ But C w w' := by
  have hc := h.sl
  have hl := h.len
  have hxl := hx.len
  have hX := Lib.hid hx
  have hR := Lib.hid h
  have h2 : ¬ (k : Int) < 0 := by omega
  have h3 : decide ((k : Int) < 0) = false := decide_eq_false h2
  have hl' : (M.placed ws k xs).length = ws.length := by unfold M.placed; simp; omega
  generalize hN : ws.length = N at *
  have h4 : decide ((N : Int) < k) = false := decide_eq_false (by omega)
  have h5 : (n : Int) ≤ (N : Int) - k := by omega
  have h6 : ¬ (N : Int) < k := by omega
  have h7 : (k : Int) ≤ N := by omega
  clear h hx
  go_enter Tryz.func23, Tryz.ntmps23
  go_wp2
  go_loopw [8] (fun i wr => ∃ j : Nat, j ≤ n ∧ i = .int .i64 j ∧ RMem D C (M.placed ws k (xs.take j)) wr ∧ But C w wr) (fun i _ => n - (intOf i).toNat)
  case atStart => exact ⟨0, Nat.zero_le _, rfl, by rw [List.take_zero, M.placed_none]; exact hR.out, But.refl _ _⟩
  case round =>
    obtain ⟨j, hj, rfl, hRr, hB⟩ := hrel
    by_cases d1 : j < n
    · have d2 : (j : Int) < n := by omega
      obtain ⟨x, hxj⟩ : ∃ x, xs[j]? = some x := ⟨_, List.getElem?_eq_getElem (by omega)⟩
      have hr := hX.out.rng x (List.mem_of_getElem? hxj)
      have g1 := (hX.out.but hB (fun ad e _ => by cases e; exact hb)).cellAt j x hxj
      have hlen : k + j < (M.placed ws k (xs.take j)).length := by unfold M.placed; simp; omega
      have G := R.set_any hRr (k + j) hlen x hr.1 hr.2
      rw [M.placed_step ws xs k j x (by omega) hxj, show (((k + j : Nat)) : Int) = (k : Int) + j by omega] at G
      replace hB := Lib.hid hB
      clear hRr hxj hr hlen
      go_wp2_with (go_at_call 40; refine G.mono ?_; rintro e w2 ⟨rfl, hR2, hB2⟩)
      go_roundw
      case rel => exact ⟨j + 1, by omega, by go_num, hR2, hB.out.trans hB2⟩
      case measure => simp [intOf]; omega
    · have d2 : ¬ (j : Int) < n := by omega
      rw [List.take_of_length_le (by omega)] at hRr
      replace hRr := Lib.hid hRr
      replace hB := Lib.hid hB
      go_wp2
      go_ret
      exact ⟨rfl, hRr.out, hB.out⟩
set_option maxRecDepth 100000 in
theorem R.place_none {D C : Nat} {ws : List Int} {w : World} (h : RMem D C ws w) (k : Nat) (A : Option Addr) (c : Nat) (hf : k ≤ ws.length) :
    Calls Tryz.prog 23 #[.pointer (some ⟨D, 0, none⟩), .int .i64 k, .slice A 0 c] w fun e w' => e = .returned (.int .i64 0) ∧ RMem D C ws w' ∧ But C w w' := by
  have hc := h.sl
  have hl := h.len
  have hR := Lib.hid h
  have h2 : ¬ (k : Int) < 0 := by omega
  have h3 : decide ((k : Int) < 0) = false := decide_eq_false h2
  generalize hN : ws.length = N at *
  have h4 : decide ((N : Int) < k) = false := decide_eq_false (by omega)
  have h5 : (0 : Int) ≤ (N : Int) - k := by omega
  have h6 : ¬ (N : Int) < k := by omega
  have h7 : (k : Int) ≤ N := by omega
  clear h
  go_enter Tryz.func23, Tryz.ntmps23
  go_wp2
  go_loopw [8] (fun i wr => i = .int .i64 0 ∧ wr = w) (fun _ _ => 0)
  case atStart => exact ⟨rfl, rfl⟩
  case round =>
    obtain ⟨rfl, rfl⟩ := hrel
    go_wp2
    go_ret
    exact ⟨rfl, hR.out, But.refl _ _⟩
theorem R.place_yes {D C : Nat} {ws : List Int} {w : World} (h : RMem D C ws w) (k : Nat) (A : Option Addr) (n c : Nat) (xs : List Int) (hx : Ws w A n c xs) (hb : ∀ ad, A = some ad → 0 < n → ad.block ≠ C) (hf : k + n ≤ ws.length) :
    Calls Tryz.prog 23 #[.pointer (some ⟨D, 0, none⟩), .int .i64 k, .slice A n c] w fun e w' => e = .returned (.int .i64 0) ∧ RMem D C (M.placed ws k xs) w' ∧ But C w w' := by
  rcases Nat.eq_zero_or_pos n with rfl | hn
  · have e1 : xs = [] := List.eq_nil_of_length_eq_zero hx.len
    subst e1
    rw [M.placed_none]
    exact R.place_none h k A c (by omega)
  · cases A with
    | none => have := hx.nil rfl; have := hx.le; omega
    | some ad =>
      obtain ⟨b, off, rfl⟩ := hx.addr hn
      exact R.place_loop h k b off n c xs hx hn (hb _ rfl hn) hf
theorem Own.to {base g n cap : Nat} {xs : List Int} {w w' : World} (h : Own base g n cap xs w) (hb : w'.heap[g]? = w.heap[g]?) : Own base g n cap xs w' := by
  obtain ⟨h1, h2⟩ := h
  refine ⟨h1, ?_⟩
  rcases h2 with ⟨h2, _⟩ | ⟨g', cap', cur, hv, h3, hh, h4⟩
  · cases h2
  · cases hv
    exact Or.inr ⟨g, cap, cur, rfl, h3, hb.trans hh, h4⟩
theorem Own.lt {base g n cap : Nat} {xs : List Int} {w : World} (h : Own base g n cap xs w) : base ≤ g ∧ g < w.heap.size := by
  obtain ⟨h1, _, _, _, cur, hh, _⟩ := h.has
  exact ⟨h1, hh.lt⟩
set_option maxRecDepth 100000 in
theorem R.words_any {D C : Nat} {ws : List Int} {w : World} (h : RMem D C ws w) :
    Calls Tryz.prog 34 #[.pointer (some ⟨D, 0, none⟩)] w fun e w' => ∃ g cap, e = .returned (.slice (some ⟨g, 0, none⟩) ws.length cap) ∧ Ws w' (some ⟨g, 0, none⟩) ws.length cap ws ∧ Below w.heap.size w w' := by
  have hl := h.len
  have hR := Lib.hid h
  generalize hN : ws.length = N at *
  clear h
  go_enter Tryz.func34, Tryz.ntmps34
  go_wp2
  go_loopw [3, 4] (fun v i wr => ∃ k g cap : Nat, k ≤ N ∧ i = .int .i64 k ∧ v = .slice (some ⟨g, 0, none⟩) k cap ∧ Own w.heap.size g k cap (ws.take k) wr ∧ Below w.heap.size w wr) (fun _ i _ => N - (intOf i).toNat)
  case atStart => exact ⟨0, w.heap.size, 0, Nat.zero_le _, rfl, rfl, Own.new w _ (Nat.le_refl _), (Below.refl _ _).alloc (Nat.le_refl _) _⟩
  case round =>
    obtain ⟨k, g, cap, hk, rfl, rfl, hO, hb⟩ := hrel
    have hRr := hR.out.below hb
    have g1 := hRr.sl
    rw [hN] at g1
    have hN0 : (N : Int) ≤ 4096 := by omega
    by_cases d1 : k < N
    · have d2 : (k : Int) < N := by omega
      have G := R.get_any hRr k (by omega)
      have hr := hRr.rng _ (List.getElem_mem (show k < ws.length by omega))
      have ht : ws.take k ++ [ws[k]] = ws.take (k + 1) := by rw [List.take_add_one, List.getElem?_eq_getElem (by omega)]; rfl
      generalize ws[k] = x at *
      have hOl := hO.lt
      replace hO := Lib.hid hO
      replace hb := Lib.hid hb
      clear hRr
      go_wp2_with (fail)
      refine G.mono ?_; rintro e w2 ⟨rfl, hK2⟩
      have hN2 : w.heap.size ≤ w2.heap.size := Nat.le_trans hb.out.size hK2.size
      have hA := (Kept.refl w2).alloc #[Value.int .u32 x] 23
      have hY := Lib.hid (Ws.one (Has.new #[Value.int .u32 x] 23 w2) hr.1 hr.2)
      have hO2 := Lib.hid (hO.out.to (w' := w2.alloc (.cells #[Value.int .u32 x] 23)) ((hK2.trans hA).below.block g hOl.2))
      have hb2 := Lib.hid (below_kept hb.out (hK2.trans hA) (by have := hb.out.size; omega))
      have hN3 : w.heap.size ≤ (w2.alloc (.cells #[Value.int .u32 x] 23)).heap.size := hb2.out.size
      replace hN3 := Lib.hid hN3
      clear hO hb hK2 hA G
      go_wp2_with (with_reducible refine append_words (o := ⟨some 21, _, _, _, _, _⟩) rfl (.tmp 16) (.tmp 20) rfl w.heap.size g k cap (ws.take k) rfl hO2.out _ 1 1 [x] rfl hY.out (by omega) hN3.out ?_; intro g' cap' w3 hO3 hG3; rw [ht] at hO3; replace hO3 := Lib.hid hO3; replace hG3 := Lib.hid (hb2.out.grown hG3 hN3.out (fun k e => by cases e; exact hOl.1)))
      go_roundw
      case rel => exact ⟨k + 1, g', cap', by omega, by go_num, rfl, hO3.out, hG3.out⟩
      case measure => simp [intOf]; omega
    · have d2 : ¬ (k : Int) < N := by omega
      rw [List.take_of_length_le (by omega)] at hO
      obtain rfl : k = N := by omega
      have hW := Lib.hid (hO.ws hR.out.rng)
      replace hb := Lib.hid hb
      clear hO hRr
      go_wp2
      go_ret
      exact ⟨g, cap, rfl, hW.out, hb.out⟩
end Go.Proofs.YtlmddkciamdldaaGreat

/-
  The document's machine as a plain state: its block (RMac), New, Start.
-/
namespace Go.Proofs.YtlmddkciamdldaaGreat
open Go.RowKit
set_option linter.unusedVariables false
set_option linter.unusedSimpArgs false
set_option maxRecDepth 100000
theorem RMem.to {D C : Nat} {ws : List Int} {w w' : World} (h : RMem D C ws w) (hD : w'.heap[D]? = w.heap[D]?) (hC : w'.heap[C]? = w.heap[C]?) : RMem D C ws w' := by
  obtain ⟨cs, h3, h4⟩ := h.has; exact ⟨h.len, h.rng, h.ne, hD.trans h.box, cs, hC.trans h3, h4⟩
/-- the cells of the document's machine -/
def X.rc (D : Nat) (s : A.Regs) (pc st : Int) (si so : Value) : Array Value := #[.pointer (some ⟨D, 0, none⟩), .int .u32 (s.r 0), .int .u32 (s.r 1), .int .u32 (s.r 2), .int .u32 (s.r 3), .int .u32 (s.r 4), .int .u32 (s.r 5), .int .u32 (s.r 6), .int .u32 (s.r 7), .int .u32 (s.r 8), .int .u32 (s.r 9), .int .u32 (s.r 10), .int .u32 (s.r 11), .int .u32 (s.r 12), .int .u32 (s.r 13), .int .u32 (s.r 14), .int .u32 (s.r 15), .int .u32 s.h, .bool s.n, .bool s.z, .bool s.c, .bool s.v, .int .u32 pc, .int .i64 st, si, so]
theorem X.rc_size (D : Nat) (s : A.Regs) (pc st : Int) (si so : Value) : (X.rc D s pc st si so).size = 26 := rfl
/-- the block E is the document's machine x; all that it may turn lies in F -/
structure RMacAt (F : Nat → Prop) (E : Nat) (x : X.St) (D C : Nat) (ai : Option Addr) (ni ci : Nat) (ao : Option Addr) (no co : Nat) (w : World) : Prop where
  sub : ∀ k, F k → k < w.heap.size
  inE : F E
  inD : F D
  inC : F C
  neD : E ≠ D
  neC : E ≠ C
  box : Has E (X.rc D x.s x.pc x.st (.slice ai ni ci) (.slice ao no co)) 54 w
  mem : RMem D C x.ws w
  ins : Ws w ai ni ci x.ins
  insF : ∀ ad, ai = some ad → 0 < ni → F ad.block ∧ ad.block ≠ E ∧ ad.block ≠ C ∧ ∀ bd, ao = some bd → ad.block ≠ bd.block
  out : X.Outs ao no co x.outs w
  outF : ∀ ad, ao = some ad → F ad.block ∧ ad.block ≠ E ∧ ad.block ≠ D ∧ ad.block ≠ C
  ok : A.Ok x.s
  pc0 : 0 ≤ x.pc
  pc1 : x.pc < 4294967296
  rng : ∀ y ∈ x.outs, 0 ≤ y ∧ y < 4294967296
def RMac (F : Nat → Prop) (E : Nat) (x : X.St) (w : World) : Prop := ∃ D C ai ni ci ao no co, RMacAt F E x D C ai ni ci ao no co w
theorem RMacAt.turn {F G : Nat → Prop} {E : Nat} {x : X.St} {D C : Nat} {ai : Option Addr} {ni ci : Nat} {ao : Option Addr} {no co : Nat} {w w' : World} (h : RMacAt F E x D C ai ni ci ao no co w) (hT : Turn G w w') (hd : ∀ k, F k → ¬ G k) : RMacAt F E x D C ai ni ci ao no co w' :=
  ⟨fun k hk => Nat.lt_of_lt_of_le (h.sub k hk) hT.size, h.inE, h.inD, h.inC, h.neD, h.neC, (hT.block E (h.sub E h.inE) (hd E h.inE)).trans h.box, h.mem.to (hT.block D (h.sub D h.inD) (hd D h.inD)) (hT.block C (h.sub C h.inC) (hd C h.inC)),
    h.ins.to fun ad e hn => hT.block _ (h.sub _ (h.insF ad e hn).1) (hd _ (h.insF ad e hn).1), h.insF, h.out.to fun ad e => hT.block _ (h.sub _ (h.outF ad e).1) (hd _ (h.outF ad e).1), h.outF, h.ok, h.pc0, h.pc1, h.rng⟩
theorem RMac.turn {F G : Nat → Prop} {E : Nat} {x : X.St} {w w' : World} (h : RMac F E x w) (hT : Turn G w w') (hd : ∀ k, F k → ¬ G k) : RMac F E x w' := by
  obtain ⟨D, C, ai, ni, ci, ao, no, co, h⟩ := h
  exact ⟨D, C, ai, ni, ci, ao, no, co, h.turn hT hd⟩
theorem RMacAt.kept {F : Nat → Prop} {E : Nat} {x : X.St} {D C : Nat} {ai : Option Addr} {ni ci : Nat} {ao : Option Addr} {no co : Nat} {w w' : World} (h : RMacAt F E x D C ai ni ci ao no co w) (hK : Kept w w') : RMacAt F E x D C ai ni ci ao no co w' := h.turn (hK.turn T0) fun _ _ h => h
theorem RMac.kept {F : Nat → Prop} {E : Nat} {x : X.St} {w w' : World} (h : RMac F E x w) (hK : Kept w w') : RMac F E x w' := h.turn (hK.turn T0) fun _ _ h => h
theorem RMac.sub {F : Nat → Prop} {E : Nat} {x : X.St} {w : World} (h : RMac F E x w) : ∀ k, F k → k < w.heap.size := by obtain ⟨_, _, _, _, _, _, _, _, h⟩ := h; exact h.sub
/-- the machine's own cells turned -/
theorem RMacAt.own {F : Nat → Prop} {E : Nat} {x : X.St} {D C : Nat} {ai : Option Addr} {ni ci : Nat} {ao : Option Addr} {no co : Nat} {w w' : World} (h : RMacAt F E x D C ai ni ci ao no co w) (hB : But E w w') (s : A.Regs) (pc st : Int)
    (hm : Has E (X.rc D s pc st (.slice ai ni ci) (.slice ao no co)) 54 w') (ok : A.Ok s) (pc0 : 0 ≤ pc) (pc1 : pc < 4294967296) : RMacAt F E ⟨x.ws, s, pc, st, x.ins, x.outs⟩ D C ai ni ci ao no co w' :=
  ⟨fun k hk => Nat.lt_of_lt_of_le (h.sub k hk) hB.size, h.inE, h.inD, h.inC, h.neD, h.neC, hm, h.mem.but hB (Ne.symm h.neD) (Ne.symm h.neC), h.ins.but hB fun ad e hn => (h.insF ad e hn).2.1, h.insF,
    h.out.to fun ad e => hB.block _ (h.sub _ (h.outF ad e).1) (h.outF ad e).2.1, h.outF, ok, pc0, pc1, h.rng⟩
/-- its words turned -/
theorem RMacAt.words {F : Nat → Prop} {E : Nat} {x : X.St} {D C : Nat} {ai : Option Addr} {ni ci : Nat} {ao : Option Addr} {no co : Nat} {w w' : World} (h : RMacAt F E x D C ai ni ci ao no co w) (hB : But C w w') (ws : List Int) (hm : RMem D C ws w') : RMacAt F E ⟨ws, x.s, x.pc, x.st, x.ins, x.outs⟩ D C ai ni ci ao no co w' :=
  ⟨fun k hk => Nat.lt_of_lt_of_le (h.sub k hk) hB.size, h.inE, h.inD, h.inC, h.neD, h.neC, hB.has h.neC h.box, hm, h.ins.but hB fun ad e hn => (h.insF ad e hn).2.2.1, h.insF,
    h.out.to fun ad e => hB.block _ (h.sub _ (h.outF ad e).1) (h.outF ad e).2.2.2, h.outF, h.ok, h.pc0, h.pc1, h.rng⟩
theorem X.rshape : shapeOf Tryz.prog 54 = some (#[.pointer none, .int .u32 0, .int .u32 0, .int .u32 0, .int .u32 0, .int .u32 0, .int .u32 0, .int .u32 0, .int .u32 0, .int .u32 0, .int .u32 0, .int .u32 0, .int .u32 0, .int .u32 0, .int .u32 0, .int .u32 0, .int .u32 0, .int .u32 0, .bool false, .bool false, .bool false, .bool false, .int .u32 0, .int .i64 0, .slice none 0 0, .slice none 0 0], [(0, 1), (1, 21), (22, 1), (23, 1), (24, 1), (25, 1)]) := by kernel_rfl
theorem X.rbuilt (D : Nat) (ap : Option Addr) (n c : Nat) : Tryz.prog.built 54 [(0, .pointer (some ⟨D, 0, none⟩)), (4, .slice ap n c)] = some (X.rc D A.none' 0 0 (.slice ap n c) (.slice none 0 0)) := by
  rw [built_of X.rshape]; rfl
theorem rnew_any {w : World} (n : Nat) (hn : n ≤ 4096) {ap : Option Addr} {m c : Nat} {xs : List Int} (hx : Ws w ap m c xs) (hm : m ≤ 1000000000) :
    Calls Tryz.prog 22 #[.int .i64 n, .slice ap m c] w fun e w' => ∃ E, e = .returned (.tuple #[.pointer (some ⟨E, 0, none⟩), .int .i64 0]) ∧ ∃ F, RMac F E ⟨List.replicate n 0, A.none', 0, 0, xs, []⟩ w' ∧ Turn T0 w w' ∧ ∀ k, F k → w.heap.size ≤ k := by
  have C := Lib.hid (R.new_any n hn w)
  have hX := Lib.hid hx
  clear hx
  go_enter Tryz.func22, Tryz.ntmps22
  go_wp2_with (fail)
  refine C.out.mono ?_; rintro e w1 ⟨rfl, hM, hK, hsz⟩
  clear C
  replace hsz := Lib.hid hsz
  have hKa := (Kept.refl w1).alloc #[] 23
  have hO := Lib.hid (Own.new w1 w1.heap.size (Nat.le_refl _))
  have hY := Lib.hid (hX.out.kept (hK.trans hKa))
  have hr := hX.out.rng
  have hM2 := Lib.hid (hM.kept hKa)
  have hT := Lib.hid ((hK.trans hKa).turn T0)
  have hle : w1.heap.size ≤ (w1.alloc (.cells #[] 23)).heap.size := hKa.size
  replace hle := Lib.hid hle
  clear hM hK hKa hX
  go_wp2_with (first
    | (with_reducible refine append_words (o := ⟨some 19, _, _, _, _, _⟩) rfl (.tmp 17) (.tmp 18) rfl w1.heap.size w1.heap.size 0 0 [] rfl hO.out ap m c xs rfl hY.out (by omega) hle.out ?_; intro g' cap' w3 hO3 hG3)
    | ((with_reducible refine build_has (o := ⟨some 20, _, _, _, _, _⟩) rfl 54 _ rfl (X.rc (w.heap.size + 1) A.none' 0 0 (.slice (some ⟨g', 0, none⟩) (0 + m) cap') (.slice none 0 0)) ?hf4 ?_); (case hf4 => (go_simp; exact X.rbuilt _ _ _ _))))
  have hKb := (Kept.refl w3).alloc (X.rc (w.heap.size + 1) A.none' 0 0 (.slice (some ⟨g', 0, none⟩) m cap') (.slice none 0 0)) 54
  have hE := Has.new (X.rc (w.heap.size + 1) A.none' 0 0 (.slice (some ⟨g', 0, none⟩) m cap') (.slice none 0 0)) 54 w3
  generalize w3.alloc (Obj.cells _ _) = w4 at *
  rw [Nat.zero_add, List.nil_append] at hO3
  have hg := World.ownsRow.lt hO3 g' rfl
  have hs1 := hsz.out
  have hM3 : RMem (w.heap.size + 1) w.heap.size (List.replicate n 0) w3 := hM2.out.to (hG3.block _ hM2.out.lt.1 (by intro e; have := Option.some.inj e; omega)) (hG3.block _ hM2.out.lt.2 (by intro e; have := Option.some.inj e; omega))
  have hT3 : Turn T0 w w3 := ⟨hG3.os.trans hT.out.os, hG3.tape.trans hT.out.tape, hG3.output.trans hT.out.output, Nat.le_trans hT.out.size hG3.size, fun k hk hF => (hG3.block k (Nat.lt_of_lt_of_le hk hT.out.size) (by intro e; have := Option.some.inj e; omega)).trans (hT.out.block k hk hF)⟩
  have hlt3 := hM3.lt
  have hlt4 : w3.heap.size < w4.heap.size := hE.lt
  have hR : RMac (fun k => w.heap.size ≤ k ∧ k < w4.heap.size) w3.heap.size ⟨List.replicate n 0, A.none', 0, 0, xs, []⟩ w4 :=
    ⟨w.heap.size + 1, w.heap.size, some ⟨g', 0, none⟩, m, cap', none, 0, 0, fun k hk => hk.2, ⟨by omega, hlt4⟩, ⟨by omega, by omega⟩, ⟨Nat.le_refl _, by omega⟩, by omega, by omega, hE, hM3.kept hKb, (hO3.ws hr).kept hKb,
      (fun ad e _ => by cases e; exact ⟨⟨by show w.heap.size ≤ g'; omega, by show g' < w4.heap.size; omega⟩, by show g' ≠ w3.heap.size; omega, by show g' ≠ w.heap.size; omega, fun bd e' => by cases e'⟩), World.ownsRow_nil w4 0 _ _, (fun ad e => by cases e), A.ok_none, by simp, by simp, by simp⟩
  have hT4 := hT3.trans (hKb.turn T0)
  replace hR := Lib.hid hR
  replace hT4 := Lib.hid hT4
  clear hO3 hG3 hO hY hM2 hT hle hKb hE hM3 hT3
  go_ret2
  exact ⟨_, rfl, _, hR.out, hT4.out, fun k hk => hk.1⟩
def putA (cs : Array Value) (o : Nat) : List Value → Array Value
  | [] => cs
  | v :: r => putA (cs.setIfInBounds o v) (o + 1) r
theorem Has.setN {B : Nat} {t : TypeId} : ∀ (vs : List Value) (o : Nat) (cs : Array Value) (w : World), Has B cs t w → Has B (putA cs o vs) t (w.setCells B o vs)
  | [], _, _, _, h => h
  | v :: r, o, cs, w, h => by have := Has.setN r (o + 1) (cs.setIfInBounds o v) (w.setCell ⟨B, o, none⟩ v) (h.set o v); exact this
theorem X.rc_regs (D : Nat) (s s' : A.Regs) (pc st : Int) (si so : Value) : putA (X.rc D s pc st si so) 1 (A.cells s').toList = X.rc D s' pc st si so := by kernel_rfl
theorem X.rc_pc (D : Nat) (s : A.Regs) (pc st v : Int) (si so : Value) : (X.rc D s pc st si so).setIfInBounds 22 (.int .u32 v) = X.rc D s v st si so := rfl
theorem X.rc_st (D : Nat) (s : A.Regs) (pc st v : Int) (si so : Value) : (X.rc D s pc st si so).setIfInBounds 23 (.int .i64 v) = X.rc D s pc v si so := rfl
theorem X.rc_in (D : Nat) (s : A.Regs) (pc st : Int) (si so v : Value) : (X.rc D s pc st si so).setIfInBounds 24 v = X.rc D s pc st v so := rfl
theorem X.rc_out (D : Nat) (s : A.Regs) (pc st : Int) (si so v : Value) : (X.rc D s pc st si so).setIfInBounds 25 v = X.rc D s pc st si v := rfl
theorem X.rc_set (D : Nat) (s : A.Regs) (pc st : Int) (si so : Value) (j : Nat) (hj : j < 16) (v : Int) : (X.rc D s pc st si so).setIfInBounds (1 + j) (.int .u32 v) = X.rc D (A.set s j v) pc st si so :=
  A.lt16 (P := fun j => (X.rc D s pc st si so).setIfInBounds (1 + j) (.int .u32 v) = X.rc D (A.set s j v) pc st si so) ⟨by kernel_rfl, by kernel_rfl, by kernel_rfl, by kernel_rfl, by kernel_rfl, by kernel_rfl, by kernel_rfl, by kernel_rfl, by kernel_rfl, by kernel_rfl, by kernel_rfl, by kernel_rfl, by kernel_rfl, by kernel_rfl, by kernel_rfl, by kernel_rfl⟩ j hj
theorem X.rc_r (D : Nat) (s : A.Regs) (pc st : Int) (si so : Value) (j : Nat) (hj : j < 16) : (X.rc D s pc st si so)[1 + j]? = some (.int .u32 (s.r j)) :=
  A.lt16 (P := fun j => (X.rc D s pc st si so)[1 + j]? = some (.int .u32 (s.r j))) ⟨rfl, rfl, rfl, rfl, rfl, rfl, rfl, rfl, rfl, rfl, rfl, rfl, rfl, rfl, rfl, rfl⟩ j hj
theorem X.rc_range {D : Nat} {s : A.Regs} {pc st : Int} {si so : Value} {E : Nat} {t : TypeId} {w : World} (h : Has E (X.rc D s pc st si so) t w) : w.rangeAt E 1 (A.cells s).toList := by
  intro j y hj
  have hl : j < 21 := by
    rcases Nat.lt_or_ge j 21 with h1 | h1
    · exact h1
    · rw [List.getElem?_eq_none (by rw [Array.length_toList, A.size_cells]; omega)] at hj; cases hj
  refine h.cell (1 + j) y ?_
  have e : (X.rc D s pc st si so).toList = [.pointer (some ⟨D, 0, none⟩)] ++ ((A.cells s).toList ++ [.int .u32 pc, .int .i64 st, si, so]) := by kernel_rfl
  rw [← Array.getElem?_toList, e, List.getElem?_append_right (by simp), show 1 + j - ([Value.pointer (some ⟨D, 0, none⟩)] : List Value).length = j by simp, List.getElem?_append_left (by rw [Array.length_toList, A.size_cells]; omega)]
  exact hj
theorem Has.there {E : Nat} {cs : Array Value} {t : TypeId} {w : World} (h : Has E cs t w) (o n : Nat) (hn : o + n ≤ cs.size) : w.there E o n := by
  intro j hj
  have hj' : o + j < cs.size := by omega
  exact ⟨by rw [h.cell (o + j) cs[o + j] (Array.getElem?_eq_getElem hj')]; rfl, h.free _⟩
theorem rstart_any {F : Nat → Prop} {E : Nat} {x : X.St} {w : World} (h : RMac F E x w) (pc : Int) (s : A.Regs) (ok : A.Ok s) (p0 : 0 ≤ pc) (p1 : pc < 4294967296) :
    Calls Tryz.prog 25 #[.pointer (some ⟨E, 0, none⟩), .int .u32 pc, .agg (A.cells s)] w fun e w' => e = .returned (.tuple #[]) ∧ RMac F E ⟨x.ws, s, pc, 0, x.ins, x.outs⟩ w' ∧ But E w w' := by
  obtain ⟨D, C, ai, ni, ci, ao, no, co, h⟩ := h
  have hEw : E < w.heap.size := h.sub E h.inE
  go_enter Tryz.func25, Tryz.ntmps25
  go_upto_region 1 with (fail)
  generalize hw1 : w.alloc (Obj.cells _ _) = w1
  have hR : Has w.heap.size (A.cells s) 26 w1 := by rw [← hw1]; exact Has.new _ _ _
  have hK : Kept w w1 := by rw [← hw1]; exact (Kept.refl w).alloc _ _
  clear hw1
  have hM := h.kept hK
  have hne : w.heap.size ≠ E := by omega
  clear h
  generalize w.heap.size = g at *
  have c22 : w1.cell? ⟨E, 22, none⟩ = some (.int .u32 x.pc) := hM.box.cell 22 _ rfl
  have f22 := hM.box.free 22
  have hb := hM.box.set 22 (.int .u32 pc)
  rw [X.rc_pc] at hb
  have hB1 : But E w1 (w1.setCell ⟨E, 22, none⟩ (.int .u32 pc)) := (But.refl E w1).setCell _ _
  have hR2 := Lib.hid (hB1.has hne hR)
  go_upto_region 2 with (fail)
  generalize w1.setCell _ _ = w2 at *
  have hth := hb.there 1 21 (by rw [X.rc_size]; omega)
  have hb3 := Has.setN (A.cells s).toList 1 _ w2 hb
  rw [X.rc_regs] at hb3
  have hB3 : But E w2 (w2.setCells E 1 (A.cells s).toList) := but_setCells _ _ _ _ (But.refl E w2)
  replace hb3 := Lib.hid hb3
  replace hB3 := Lib.hid hB3
  clear hb c22 f22
  go_upto_region 3 with (first
    | (with_reducible refine load_has rfl 26 _ rfl _ rfl hR2.out Tryz.underlying26 rfl (A.info25 _) ?_)
    | (with_reducible refine wpList_store_mid rfl 26 _ _ rfl _ _ (A.cells s) rfl rfl hth (A.info25 _) (A.one_cells _) ?_; generalize World.setCells _ _ _ _ = w3 at *))
  have c23 : w3.cell? ⟨E, 23, none⟩ = some (.int .i64 x.st) := hb3.out.cell 23 _ rfl
  have f23 := hb3.out.free 23
  have hb4 := hb3.out.set 23 (.int .i64 0)
  rw [X.rc_st] at hb4
  have hB4 : But E w3 (w3.setCell ⟨E, 23, none⟩ (.int .i64 0)) := (But.refl E w3).setCell _ _
  have hBf := (hB1.trans hB3.out).trans hB4
  have hMf := Lib.hid (hM.own hBf s pc 0 hb4 ok p0 p1)
  have hBw := Lib.hid ((hK.but E).trans hBf)
  clear hb4 hB4 hBf hB1 hB3 hb3 hM hK hR2 hR hth
  go_wp2
  go_end0
  exact ⟨rfl, ⟨_, _, _, _, _, _, _, _, hMf.out⟩, hBw.out⟩
end Go.Proofs.YtlmddkciamdldaaGreat

/-
  The contract of Fit: an instruction that may be.
-/
namespace Go.Proofs.YtlmddkciamdldaaGreat
open Go.RowKit
set_option linter.unusedVariables false
set_option linter.unusedSimpArgs false
set_option maxRecDepth 100000
set_option maxHeartbeats 1000000 in
theorem fit_1_1f (k op a b c i A B C O O3 O15 M16 M17 M20 M24 : Int)
    (EK : wrap64 (1 + (wrap64 (k.tmod 7 + 7)).tmod 7) = 1) (EO : (wrap64 (op.tmod 12 + 12)).tmod 12 = 0)
    (EA : bits .and .i64 a 15 = A) (EB : bits .and .i64 b 15 = B) (EC : bits .and .i64 c 15 = C) (E3 : bits .and .i64 op 3 = O3) (E15 : bits .and .i64 op 15 = O15)
    (E16 : bits .and .i64 i 65535 = M16) (E17 : bits .and .i64 i 131071 = M17) (E20 : bits .and .i64 i 1048575 = M20) (E24 : bits .and .i64 i 16777215 = M24)
    (m170 : 0 ≤ M17) (m171 : M17 ≤ 131071) (m200 : 0 ≤ M20) (m201 : M20 ≤ 1048575) (m240 : 0 ≤ M24) (m241 : M24 ≤ 16777215) (w : World) :
    Calls Tryz.prog 26 #[.agg #[.int .i64 k, .int .i64 op, .int .i64 a, .int .i64 b, .int .i64 c, .int .i64 i, .bool false]] w fun e w' => e = .returned (.agg #[.int .i64 1, .int .i64 0, .int .i64 A, .int .i64 0, .int .i64 C, .int .i64 0, .bool false]) ∧ Kept w w' := by
  go_enter Tryz.func26, Tryz.ntmps26
  go_wp2_with fail
  exact bodyPost_ret (v := .agg #[.int .i64 1, .int .i64 0, .int .i64 A, .int .i64 0, .int .i64 C, .int .i64 0, .bool false]) (by simp [results, Tryz.results26, go_sem]) rfl ⟨rfl, (((Kept.refl w).alloc _ _).alloc _ _).alloc _ _⟩
set_option maxHeartbeats 1000000 in
theorem fit_1_1t (k op a b c i A B C O O3 O15 M16 M17 M20 M24 : Int)
    (EK : wrap64 (1 + (wrap64 (k.tmod 7 + 7)).tmod 7) = 1) (EO : (wrap64 (op.tmod 12 + 12)).tmod 12 = 0)
    (EA : bits .and .i64 a 15 = A) (EB : bits .and .i64 b 15 = B) (EC : bits .and .i64 c 15 = C) (E3 : bits .and .i64 op 3 = O3) (E15 : bits .and .i64 op 15 = O15)
    (E16 : bits .and .i64 i 65535 = M16) (E17 : bits .and .i64 i 131071 = M17) (E20 : bits .and .i64 i 1048575 = M20) (E24 : bits .and .i64 i 16777215 = M24)
    (m170 : 0 ≤ M17) (m171 : M17 ≤ 131071) (m200 : 0 ≤ M20) (m201 : M20 ≤ 1048575) (m240 : 0 ≤ M24) (m241 : M24 ≤ 16777215) (w : World) :
    Calls Tryz.prog 26 #[.agg #[.int .i64 k, .int .i64 op, .int .i64 a, .int .i64 b, .int .i64 c, .int .i64 i, .bool true]] w fun e w' => e = .returned (.agg #[.int .i64 1, .int .i64 0, .int .i64 A, .int .i64 0, .int .i64 C, .int .i64 0, .bool false]) ∧ Kept w w' := by
  go_enter Tryz.func26, Tryz.ntmps26
  go_wp2_with fail
  exact bodyPost_ret (v := .agg #[.int .i64 1, .int .i64 0, .int .i64 A, .int .i64 0, .int .i64 C, .int .i64 0, .bool false]) (by simp [results, Tryz.results26, go_sem]) rfl ⟨rfl, (((Kept.refl w).alloc _ _).alloc _ _).alloc _ _⟩
set_option maxHeartbeats 1000000 in
theorem fit_1_2f (k op a b c i A B C O O3 O15 M16 M17 M20 M24 : Int)
    (EK : wrap64 (1 + (wrap64 (k.tmod 7 + 7)).tmod 7) = 1) (EO : (wrap64 (op.tmod 12 + 12)).tmod 12 = O)
    (EA : bits .and .i64 a 15 = A) (EB : bits .and .i64 b 15 = B) (EC : bits .and .i64 c 15 = C) (E3 : bits .and .i64 op 3 = O3) (E15 : bits .and .i64 op 15 = O15)
    (E16 : bits .and .i64 i 65535 = M16) (E17 : bits .and .i64 i 131071 = M17) (E20 : bits .and .i64 i 1048575 = M20) (E24 : bits .and .i64 i 16777215 = M24)
    (m170 : 0 ≤ M17) (m171 : M17 ≤ 131071) (m200 : 0 ≤ M20) (m201 : M20 ≤ 1048575) (m240 : 0 ≤ M24) (m241 : M24 ≤ 16777215) (o0 : 1 ≤ O) (o1 : O < 8) (oz : ¬ O = 0) (w : World) :
    Calls Tryz.prog 26 #[.agg #[.int .i64 k, .int .i64 op, .int .i64 a, .int .i64 b, .int .i64 c, .int .i64 i, .bool false]] w fun e w' => e = .returned (.agg #[.int .i64 1, .int .i64 O, .int .i64 A, .int .i64 B, .int .i64 C, .int .i64 0, .bool false]) ∧ Kept w w' := by
  go_enter Tryz.func26, Tryz.ntmps26
  go_wp2_with fail
  exact bodyPost_ret (v := .agg #[.int .i64 1, .int .i64 O, .int .i64 A, .int .i64 B, .int .i64 C, .int .i64 0, .bool false]) (by simp [results, Tryz.results26, go_sem]) rfl ⟨rfl, (((Kept.refl w).alloc _ _).alloc _ _).alloc _ _⟩
set_option maxHeartbeats 1000000 in
theorem fit_1_2t (k op a b c i A B C O O3 O15 M16 M17 M20 M24 : Int)
    (EK : wrap64 (1 + (wrap64 (k.tmod 7 + 7)).tmod 7) = 1) (EO : (wrap64 (op.tmod 12 + 12)).tmod 12 = O)
    (EA : bits .and .i64 a 15 = A) (EB : bits .and .i64 b 15 = B) (EC : bits .and .i64 c 15 = C) (E3 : bits .and .i64 op 3 = O3) (E15 : bits .and .i64 op 15 = O15)
    (E16 : bits .and .i64 i 65535 = M16) (E17 : bits .and .i64 i 131071 = M17) (E20 : bits .and .i64 i 1048575 = M20) (E24 : bits .and .i64 i 16777215 = M24)
    (m170 : 0 ≤ M17) (m171 : M17 ≤ 131071) (m200 : 0 ≤ M20) (m201 : M20 ≤ 1048575) (m240 : 0 ≤ M24) (m241 : M24 ≤ 16777215) (o0 : 1 ≤ O) (o1 : O < 8) (oz : ¬ O = 0) (w : World) :
    Calls Tryz.prog 26 #[.agg #[.int .i64 k, .int .i64 op, .int .i64 a, .int .i64 b, .int .i64 c, .int .i64 i, .bool true]] w fun e w' => e = .returned (.agg #[.int .i64 1, .int .i64 O, .int .i64 A, .int .i64 B, .int .i64 C, .int .i64 0, .bool false]) ∧ Kept w w' := by
  go_enter Tryz.func26, Tryz.ntmps26
  go_wp2_with fail
  exact bodyPost_ret (v := .agg #[.int .i64 1, .int .i64 O, .int .i64 A, .int .i64 B, .int .i64 C, .int .i64 0, .bool false]) (by simp [results, Tryz.results26, go_sem]) rfl ⟨rfl, (((Kept.refl w).alloc _ _).alloc _ _).alloc _ _⟩
set_option maxHeartbeats 1000000 in
theorem fit_1_3f (k op a b c i A B C O O3 O15 M16 M17 M20 M24 : Int)
    (EK : wrap64 (1 + (wrap64 (k.tmod 7 + 7)).tmod 7) = 1) (EO : (wrap64 (op.tmod 12 + 12)).tmod 12 = O)
    (EA : bits .and .i64 a 15 = A) (EB : bits .and .i64 b 15 = B) (EC : bits .and .i64 c 15 = C) (E3 : bits .and .i64 op 3 = O3) (E15 : bits .and .i64 op 15 = O15)
    (E16 : bits .and .i64 i 65535 = M16) (E17 : bits .and .i64 i 131071 = M17) (E20 : bits .and .i64 i 1048575 = M20) (E24 : bits .and .i64 i 16777215 = M24)
    (m170 : 0 ≤ M17) (m171 : M17 ≤ 131071) (m200 : 0 ≤ M20) (m201 : M20 ≤ 1048575) (m240 : 0 ≤ M24) (m241 : M24 ≤ 16777215) (o0 : 8 ≤ O) (o1 : O ≤ 10) (oz : ¬ O = 0) (w : World) :
    Calls Tryz.prog 26 #[.agg #[.int .i64 k, .int .i64 op, .int .i64 a, .int .i64 b, .int .i64 c, .int .i64 i, .bool false]] w fun e w' => e = .returned (.agg #[.int .i64 1, .int .i64 O, .int .i64 A, .int .i64 B, .int .i64 C, .int .i64 0, .bool false]) ∧ Kept w w' := by
  go_enter Tryz.func26, Tryz.ntmps26
  go_wp2_with fail
  exact bodyPost_ret (v := .agg #[.int .i64 1, .int .i64 O, .int .i64 A, .int .i64 B, .int .i64 C, .int .i64 0, .bool false]) (by simp [results, Tryz.results26, go_sem]) rfl ⟨rfl, (((Kept.refl w).alloc _ _).alloc _ _).alloc _ _⟩
set_option maxHeartbeats 1000000 in
theorem fit_1_3t (k op a b c i A B C O O3 O15 M16 M17 M20 M24 : Int)
    (EK : wrap64 (1 + (wrap64 (k.tmod 7 + 7)).tmod 7) = 1) (EO : (wrap64 (op.tmod 12 + 12)).tmod 12 = O)
    (EA : bits .and .i64 a 15 = A) (EB : bits .and .i64 b 15 = B) (EC : bits .and .i64 c 15 = C) (E3 : bits .and .i64 op 3 = O3) (E15 : bits .and .i64 op 15 = O15)
    (E16 : bits .and .i64 i 65535 = M16) (E17 : bits .and .i64 i 131071 = M17) (E20 : bits .and .i64 i 1048575 = M20) (E24 : bits .and .i64 i 16777215 = M24)
    (m170 : 0 ≤ M17) (m171 : M17 ≤ 131071) (m200 : 0 ≤ M20) (m201 : M20 ≤ 1048575) (m240 : 0 ≤ M24) (m241 : M24 ≤ 16777215) (o0 : 8 ≤ O) (o1 : O ≤ 10) (oz : ¬ O = 0) (w : World) :
    Calls Tryz.prog 26 #[.agg #[.int .i64 k, .int .i64 op, .int .i64 a, .int .i64 b, .int .i64 c, .int .i64 i, .bool true]] w fun e w' => e = .returned (.agg #[.int .i64 1, .int .i64 O, .int .i64 A, .int .i64 B, .int .i64 C, .int .i64 0, .bool true]) ∧ Kept w w' := by
  go_enter Tryz.func26, Tryz.ntmps26
  go_wp2_with fail
  exact bodyPost_ret (v := .agg #[.int .i64 1, .int .i64 O, .int .i64 A, .int .i64 B, .int .i64 C, .int .i64 0, .bool true]) (by simp [results, Tryz.results26, go_sem]) rfl ⟨rfl, (((Kept.refl w).alloc _ _).alloc _ _).alloc _ _⟩
set_option maxHeartbeats 1000000 in
theorem fit_1_4f (k op a b c i A B C O O3 O15 M16 M17 M20 M24 : Int)
    (EK : wrap64 (1 + (wrap64 (k.tmod 7 + 7)).tmod 7) = 1) (EO : (wrap64 (op.tmod 12 + 12)).tmod 12 = 11)
    (EA : bits .and .i64 a 15 = A) (EB : bits .and .i64 b 15 = B) (EC : bits .and .i64 c 15 = C) (E3 : bits .and .i64 op 3 = O3) (E15 : bits .and .i64 op 15 = O15)
    (E16 : bits .and .i64 i 65535 = M16) (E17 : bits .and .i64 i 131071 = M17) (E20 : bits .and .i64 i 1048575 = M20) (E24 : bits .and .i64 i 16777215 = M24)
    (m170 : 0 ≤ M17) (m171 : M17 ≤ 131071) (m200 : 0 ≤ M20) (m201 : M20 ≤ 1048575) (m240 : 0 ≤ M24) (m241 : M24 ≤ 16777215) (w : World) :
    Calls Tryz.prog 26 #[.agg #[.int .i64 k, .int .i64 op, .int .i64 a, .int .i64 b, .int .i64 c, .int .i64 i, .bool false]] w fun e w' => e = .returned (.agg #[.int .i64 1, .int .i64 11, .int .i64 A, .int .i64 B, .int .i64 C, .int .i64 0, .bool false]) ∧ Kept w w' := by
  go_enter Tryz.func26, Tryz.ntmps26
  go_wp2_with fail
  exact bodyPost_ret (v := .agg #[.int .i64 1, .int .i64 11, .int .i64 A, .int .i64 B, .int .i64 C, .int .i64 0, .bool false]) (by simp [results, Tryz.results26, go_sem]) rfl ⟨rfl, (((Kept.refl w).alloc _ _).alloc _ _).alloc _ _⟩
set_option maxHeartbeats 1000000 in
theorem fit_1_4t (k op a b c i A B C O O3 O15 M16 M17 M20 M24 : Int)
    (EK : wrap64 (1 + (wrap64 (k.tmod 7 + 7)).tmod 7) = 1) (EO : (wrap64 (op.tmod 12 + 12)).tmod 12 = 11)
    (EA : bits .and .i64 a 15 = A) (EB : bits .and .i64 b 15 = B) (EC : bits .and .i64 c 15 = C) (E3 : bits .and .i64 op 3 = O3) (E15 : bits .and .i64 op 15 = O15)
    (E16 : bits .and .i64 i 65535 = M16) (E17 : bits .and .i64 i 131071 = M17) (E20 : bits .and .i64 i 1048575 = M20) (E24 : bits .and .i64 i 16777215 = M24)
    (m170 : 0 ≤ M17) (m171 : M17 ≤ 131071) (m200 : 0 ≤ M20) (m201 : M20 ≤ 1048575) (m240 : 0 ≤ M24) (m241 : M24 ≤ 16777215) (w : World) :
    Calls Tryz.prog 26 #[.agg #[.int .i64 k, .int .i64 op, .int .i64 a, .int .i64 b, .int .i64 c, .int .i64 i, .bool true]] w fun e w' => e = .returned (.agg #[.int .i64 1, .int .i64 11, .int .i64 A, .int .i64 B, .int .i64 C, .int .i64 0, .bool false]) ∧ Kept w w' := by
  go_enter Tryz.func26, Tryz.ntmps26
  go_wp2_with fail
  exact bodyPost_ret (v := .agg #[.int .i64 1, .int .i64 11, .int .i64 A, .int .i64 B, .int .i64 C, .int .i64 0, .bool false]) (by simp [results, Tryz.results26, go_sem]) rfl ⟨rfl, (((Kept.refl w).alloc _ _).alloc _ _).alloc _ _⟩
set_option maxHeartbeats 1000000 in
theorem fit_2_1f (k op a b c i A B C O O3 O15 M16 M17 M20 M24 : Int)
    (EK : wrap64 (1 + (wrap64 (k.tmod 7 + 7)).tmod 7) = 2) (EO : (wrap64 (op.tmod 12 + 12)).tmod 12 = 0)
    (EA : bits .and .i64 a 15 = A) (EB : bits .and .i64 b 15 = B) (EC : bits .and .i64 c 15 = C) (E3 : bits .and .i64 op 3 = O3) (E15 : bits .and .i64 op 15 = O15)
    (E16 : bits .and .i64 i 65535 = M16) (E17 : bits .and .i64 i 131071 = M17) (E20 : bits .and .i64 i 1048575 = M20) (E24 : bits .and .i64 i 16777215 = M24)
    (m170 : 0 ≤ M17) (m171 : M17 ≤ 131071) (m200 : 0 ≤ M20) (m201 : M20 ≤ 1048575) (m240 : 0 ≤ M24) (m241 : M24 ≤ 16777215) (w : World) :
    Calls Tryz.prog 26 #[.agg #[.int .i64 k, .int .i64 op, .int .i64 a, .int .i64 b, .int .i64 c, .int .i64 i, .bool false]] w fun e w' => e = .returned (.agg #[.int .i64 2, .int .i64 0, .int .i64 A, .int .i64 0, .int .i64 0, .int .i64 (M17 - 65536), .bool false]) ∧ Kept w w' := by
  go_enter Tryz.func26, Tryz.ntmps26
  go_wp2_with fail
  exact bodyPost_ret (v := .agg #[.int .i64 2, .int .i64 0, .int .i64 A, .int .i64 0, .int .i64 0, .int .i64 (M17 - 65536), .bool false]) (by simp [results, Tryz.results26, go_sem]) rfl ⟨rfl, (((Kept.refl w).alloc _ _).alloc _ _).alloc _ _⟩
set_option maxHeartbeats 1000000 in
theorem fit_2_1t (k op a b c i A B C O O3 O15 M16 M17 M20 M24 : Int)
    (EK : wrap64 (1 + (wrap64 (k.tmod 7 + 7)).tmod 7) = 2) (EO : (wrap64 (op.tmod 12 + 12)).tmod 12 = 0)
    (EA : bits .and .i64 a 15 = A) (EB : bits .and .i64 b 15 = B) (EC : bits .and .i64 c 15 = C) (E3 : bits .and .i64 op 3 = O3) (E15 : bits .and .i64 op 15 = O15)
    (E16 : bits .and .i64 i 65535 = M16) (E17 : bits .and .i64 i 131071 = M17) (E20 : bits .and .i64 i 1048575 = M20) (E24 : bits .and .i64 i 16777215 = M24)
    (m170 : 0 ≤ M17) (m171 : M17 ≤ 131071) (m200 : 0 ≤ M20) (m201 : M20 ≤ 1048575) (m240 : 0 ≤ M24) (m241 : M24 ≤ 16777215) (w : World) :
    Calls Tryz.prog 26 #[.agg #[.int .i64 k, .int .i64 op, .int .i64 a, .int .i64 b, .int .i64 c, .int .i64 i, .bool true]] w fun e w' => e = .returned (.agg #[.int .i64 2, .int .i64 0, .int .i64 A, .int .i64 0, .int .i64 0, .int .i64 M16, .bool true]) ∧ Kept w w' := by
  go_enter Tryz.func26, Tryz.ntmps26
  go_wp2_with fail
  exact bodyPost_ret (v := .agg #[.int .i64 2, .int .i64 0, .int .i64 A, .int .i64 0, .int .i64 0, .int .i64 M16, .bool true]) (by simp [results, Tryz.results26, go_sem]) rfl ⟨rfl, (((Kept.refl w).alloc _ _).alloc _ _).alloc _ _⟩
set_option maxHeartbeats 1000000 in
theorem fit_2_2f (k op a b c i A B C O O3 O15 M16 M17 M20 M24 : Int)
    (EK : wrap64 (1 + (wrap64 (k.tmod 7 + 7)).tmod 7) = 2) (EO : (wrap64 (op.tmod 12 + 12)).tmod 12 = O)
    (EA : bits .and .i64 a 15 = A) (EB : bits .and .i64 b 15 = B) (EC : bits .and .i64 c 15 = C) (E3 : bits .and .i64 op 3 = O3) (E15 : bits .and .i64 op 15 = O15)
    (E16 : bits .and .i64 i 65535 = M16) (E17 : bits .and .i64 i 131071 = M17) (E20 : bits .and .i64 i 1048575 = M20) (E24 : bits .and .i64 i 16777215 = M24)
    (m170 : 0 ≤ M17) (m171 : M17 ≤ 131071) (m200 : 0 ≤ M20) (m201 : M20 ≤ 1048575) (m240 : 0 ≤ M24) (m241 : M24 ≤ 16777215) (o0 : 1 ≤ O) (o1 : O < 8) (oz : ¬ O = 0) (w : World) :
    Calls Tryz.prog 26 #[.agg #[.int .i64 k, .int .i64 op, .int .i64 a, .int .i64 b, .int .i64 c, .int .i64 i, .bool false]] w fun e w' => e = .returned (.agg #[.int .i64 2, .int .i64 O, .int .i64 A, .int .i64 B, .int .i64 0, .int .i64 (M17 - 65536), .bool false]) ∧ Kept w w' := by
  go_enter Tryz.func26, Tryz.ntmps26
  go_wp2_with fail
  exact bodyPost_ret (v := .agg #[.int .i64 2, .int .i64 O, .int .i64 A, .int .i64 B, .int .i64 0, .int .i64 (M17 - 65536), .bool false]) (by simp [results, Tryz.results26, go_sem]) rfl ⟨rfl, (((Kept.refl w).alloc _ _).alloc _ _).alloc _ _⟩
set_option maxHeartbeats 1000000 in
theorem fit_2_2t (k op a b c i A B C O O3 O15 M16 M17 M20 M24 : Int)
    (EK : wrap64 (1 + (wrap64 (k.tmod 7 + 7)).tmod 7) = 2) (EO : (wrap64 (op.tmod 12 + 12)).tmod 12 = O)
    (EA : bits .and .i64 a 15 = A) (EB : bits .and .i64 b 15 = B) (EC : bits .and .i64 c 15 = C) (E3 : bits .and .i64 op 3 = O3) (E15 : bits .and .i64 op 15 = O15)
    (E16 : bits .and .i64 i 65535 = M16) (E17 : bits .and .i64 i 131071 = M17) (E20 : bits .and .i64 i 1048575 = M20) (E24 : bits .and .i64 i 16777215 = M24)
    (m170 : 0 ≤ M17) (m171 : M17 ≤ 131071) (m200 : 0 ≤ M20) (m201 : M20 ≤ 1048575) (m240 : 0 ≤ M24) (m241 : M24 ≤ 16777215) (o0 : 1 ≤ O) (o1 : O < 8) (oz : ¬ O = 0) (w : World) :
    Calls Tryz.prog 26 #[.agg #[.int .i64 k, .int .i64 op, .int .i64 a, .int .i64 b, .int .i64 c, .int .i64 i, .bool true]] w fun e w' => e = .returned (.agg #[.int .i64 2, .int .i64 O, .int .i64 A, .int .i64 B, .int .i64 0, .int .i64 (M17 - 65536), .bool false]) ∧ Kept w w' := by
  go_enter Tryz.func26, Tryz.ntmps26
  go_wp2_with fail
  exact bodyPost_ret (v := .agg #[.int .i64 2, .int .i64 O, .int .i64 A, .int .i64 B, .int .i64 0, .int .i64 (M17 - 65536), .bool false]) (by simp [results, Tryz.results26, go_sem]) rfl ⟨rfl, (((Kept.refl w).alloc _ _).alloc _ _).alloc _ _⟩
set_option maxHeartbeats 1000000 in
theorem fit_2_3f (k op a b c i A B C O O3 O15 M16 M17 M20 M24 : Int)
    (EK : wrap64 (1 + (wrap64 (k.tmod 7 + 7)).tmod 7) = 2) (EO : (wrap64 (op.tmod 12 + 12)).tmod 12 = O)
    (EA : bits .and .i64 a 15 = A) (EB : bits .and .i64 b 15 = B) (EC : bits .and .i64 c 15 = C) (E3 : bits .and .i64 op 3 = O3) (E15 : bits .and .i64 op 15 = O15)
    (E16 : bits .and .i64 i 65535 = M16) (E17 : bits .and .i64 i 131071 = M17) (E20 : bits .and .i64 i 1048575 = M20) (E24 : bits .and .i64 i 16777215 = M24)
    (m170 : 0 ≤ M17) (m171 : M17 ≤ 131071) (m200 : 0 ≤ M20) (m201 : M20 ≤ 1048575) (m240 : 0 ≤ M24) (m241 : M24 ≤ 16777215) (o0 : 8 ≤ O) (o1 : O ≤ 10) (oz : ¬ O = 0) (w : World) :
    Calls Tryz.prog 26 #[.agg #[.int .i64 k, .int .i64 op, .int .i64 a, .int .i64 b, .int .i64 c, .int .i64 i, .bool false]] w fun e w' => e = .returned (.agg #[.int .i64 2, .int .i64 O, .int .i64 A, .int .i64 B, .int .i64 0, .int .i64 (M17 - 65536), .bool false]) ∧ Kept w w' := by
  go_enter Tryz.func26, Tryz.ntmps26
  go_wp2_with fail
  exact bodyPost_ret (v := .agg #[.int .i64 2, .int .i64 O, .int .i64 A, .int .i64 B, .int .i64 0, .int .i64 (M17 - 65536), .bool false]) (by simp [results, Tryz.results26, go_sem]) rfl ⟨rfl, (((Kept.refl w).alloc _ _).alloc _ _).alloc _ _⟩
set_option maxHeartbeats 1000000 in
theorem fit_2_3t (k op a b c i A B C O O3 O15 M16 M17 M20 M24 : Int)
    (EK : wrap64 (1 + (wrap64 (k.tmod 7 + 7)).tmod 7) = 2) (EO : (wrap64 (op.tmod 12 + 12)).tmod 12 = O)
    (EA : bits .and .i64 a 15 = A) (EB : bits .and .i64 b 15 = B) (EC : bits .and .i64 c 15 = C) (E3 : bits .and .i64 op 3 = O3) (E15 : bits .and .i64 op 15 = O15)
    (E16 : bits .and .i64 i 65535 = M16) (E17 : bits .and .i64 i 131071 = M17) (E20 : bits .and .i64 i 1048575 = M20) (E24 : bits .and .i64 i 16777215 = M24)
    (m170 : 0 ≤ M17) (m171 : M17 ≤ 131071) (m200 : 0 ≤ M20) (m201 : M20 ≤ 1048575) (m240 : 0 ≤ M24) (m241 : M24 ≤ 16777215) (o0 : 8 ≤ O) (o1 : O ≤ 10) (oz : ¬ O = 0) (w : World) :
    Calls Tryz.prog 26 #[.agg #[.int .i64 k, .int .i64 op, .int .i64 a, .int .i64 b, .int .i64 c, .int .i64 i, .bool true]] w fun e w' => e = .returned (.agg #[.int .i64 2, .int .i64 O, .int .i64 A, .int .i64 B, .int .i64 0, .int .i64 (M17 - 65536), .bool true]) ∧ Kept w w' := by
  go_enter Tryz.func26, Tryz.ntmps26
  go_wp2_with fail
  exact bodyPost_ret (v := .agg #[.int .i64 2, .int .i64 O, .int .i64 A, .int .i64 B, .int .i64 0, .int .i64 (M17 - 65536), .bool true]) (by simp [results, Tryz.results26, go_sem]) rfl ⟨rfl, (((Kept.refl w).alloc _ _).alloc _ _).alloc _ _⟩
set_option maxHeartbeats 1000000 in
theorem fit_2_4f (k op a b c i A B C O O3 O15 M16 M17 M20 M24 : Int)
    (EK : wrap64 (1 + (wrap64 (k.tmod 7 + 7)).tmod 7) = 2) (EO : (wrap64 (op.tmod 12 + 12)).tmod 12 = 11)
    (EA : bits .and .i64 a 15 = A) (EB : bits .and .i64 b 15 = B) (EC : bits .and .i64 c 15 = C) (E3 : bits .and .i64 op 3 = O3) (E15 : bits .and .i64 op 15 = O15)
    (E16 : bits .and .i64 i 65535 = M16) (E17 : bits .and .i64 i 131071 = M17) (E20 : bits .and .i64 i 1048575 = M20) (E24 : bits .and .i64 i 16777215 = M24)
    (m170 : 0 ≤ M17) (m171 : M17 ≤ 131071) (m200 : 0 ≤ M20) (m201 : M20 ≤ 1048575) (m240 : 0 ≤ M24) (m241 : M24 ≤ 16777215) (w : World) :
    Calls Tryz.prog 26 #[.agg #[.int .i64 k, .int .i64 op, .int .i64 a, .int .i64 b, .int .i64 c, .int .i64 i, .bool false]] w fun e w' => e = .returned (.agg #[.int .i64 2, .int .i64 11, .int .i64 A, .int .i64 B, .int .i64 0, .int .i64 (M17 - 65536), .bool false]) ∧ Kept w w' := by
  go_enter Tryz.func26, Tryz.ntmps26
  go_wp2_with fail
  exact bodyPost_ret (v := .agg #[.int .i64 2, .int .i64 11, .int .i64 A, .int .i64 B, .int .i64 0, .int .i64 (M17 - 65536), .bool false]) (by simp [results, Tryz.results26, go_sem]) rfl ⟨rfl, (((Kept.refl w).alloc _ _).alloc _ _).alloc _ _⟩
set_option maxHeartbeats 1000000 in
theorem fit_2_4t (k op a b c i A B C O O3 O15 M16 M17 M20 M24 : Int)
    (EK : wrap64 (1 + (wrap64 (k.tmod 7 + 7)).tmod 7) = 2) (EO : (wrap64 (op.tmod 12 + 12)).tmod 12 = 11)
    (EA : bits .and .i64 a 15 = A) (EB : bits .and .i64 b 15 = B) (EC : bits .and .i64 c 15 = C) (E3 : bits .and .i64 op 3 = O3) (E15 : bits .and .i64 op 15 = O15)
    (E16 : bits .and .i64 i 65535 = M16) (E17 : bits .and .i64 i 131071 = M17) (E20 : bits .and .i64 i 1048575 = M20) (E24 : bits .and .i64 i 16777215 = M24)
    (m170 : 0 ≤ M17) (m171 : M17 ≤ 131071) (m200 : 0 ≤ M20) (m201 : M20 ≤ 1048575) (m240 : 0 ≤ M24) (m241 : M24 ≤ 16777215) (w : World) :
    Calls Tryz.prog 26 #[.agg #[.int .i64 k, .int .i64 op, .int .i64 a, .int .i64 b, .int .i64 c, .int .i64 i, .bool true]] w fun e w' => e = .returned (.agg #[.int .i64 2, .int .i64 11, .int .i64 A, .int .i64 B, .int .i64 0, .int .i64 (M17 - 65536), .bool false]) ∧ Kept w w' := by
  go_enter Tryz.func26, Tryz.ntmps26
  go_wp2_with fail
  exact bodyPost_ret (v := .agg #[.int .i64 2, .int .i64 11, .int .i64 A, .int .i64 B, .int .i64 0, .int .i64 (M17 - 65536), .bool false]) (by simp [results, Tryz.results26, go_sem]) rfl ⟨rfl, (((Kept.refl w).alloc _ _).alloc _ _).alloc _ _⟩
set_option maxHeartbeats 1000000 in
theorem fit_3 (k op a b c i A B C O O3 O15 M16 M17 M20 M24 : Int) (u : Bool)
    (EK : wrap64 (1 + (wrap64 (k.tmod 7 + 7)).tmod 7) = 3) (EO : (wrap64 (op.tmod 12 + 12)).tmod 12 = O)
    (EA : bits .and .i64 a 15 = A) (EB : bits .and .i64 b 15 = B) (EC : bits .and .i64 c 15 = C) (E3 : bits .and .i64 op 3 = O3) (E15 : bits .and .i64 op 15 = O15)
    (E16 : bits .and .i64 i 65535 = M16) (E17 : bits .and .i64 i 131071 = M17) (E20 : bits .and .i64 i 1048575 = M20) (E24 : bits .and .i64 i 16777215 = M24)
    (m170 : 0 ≤ M17) (m171 : M17 ≤ 131071) (m200 : 0 ≤ M20) (m201 : M20 ≤ 1048575) (m240 : 0 ≤ M24) (m241 : M24 ≤ 16777215) (w : World) :
    Calls Tryz.prog 26 #[.agg #[.int .i64 k, .int .i64 op, .int .i64 a, .int .i64 b, .int .i64 c, .int .i64 i, .bool u]] w fun e w' => e = .returned (.agg #[.int .i64 3, .int .i64 0, .int .i64 A, .int .i64 0, .int .i64 0, .int .i64 0, .bool false]) ∧ Kept w w' := by
  go_enter Tryz.func26, Tryz.ntmps26
  go_wp2_with fail
  exact bodyPost_ret (v := .agg #[.int .i64 3, .int .i64 0, .int .i64 A, .int .i64 0, .int .i64 0, .int .i64 0, .bool false]) (by simp [results, Tryz.results26, go_sem]) rfl ⟨rfl, (((Kept.refl w).alloc _ _).alloc _ _).alloc _ _⟩
set_option maxHeartbeats 1000000 in
theorem fit_4 (k op a b c i A B C O O3 O15 M16 M17 M20 M24 : Int) (u : Bool)
    (EK : wrap64 (1 + (wrap64 (k.tmod 7 + 7)).tmod 7) = 4) (EO : (wrap64 (op.tmod 12 + 12)).tmod 12 = O)
    (EA : bits .and .i64 a 15 = A) (EB : bits .and .i64 b 15 = B) (EC : bits .and .i64 c 15 = C) (E3 : bits .and .i64 op 3 = O3) (E15 : bits .and .i64 op 15 = O15)
    (E16 : bits .and .i64 i 65535 = M16) (E17 : bits .and .i64 i 131071 = M17) (E20 : bits .and .i64 i 1048575 = M20) (E24 : bits .and .i64 i 16777215 = M24)
    (m170 : 0 ≤ M17) (m171 : M17 ≤ 131071) (m200 : 0 ≤ M20) (m201 : M20 ≤ 1048575) (m240 : 0 ≤ M24) (m241 : M24 ≤ 16777215) (w : World) :
    Calls Tryz.prog 26 #[.agg #[.int .i64 k, .int .i64 op, .int .i64 a, .int .i64 b, .int .i64 c, .int .i64 i, .bool u]] w fun e w' => e = .returned (.agg #[.int .i64 4, .int .i64 0, .int .i64 A, .int .i64 0, .int .i64 0, .int .i64 0, .bool false]) ∧ Kept w w' := by
  go_enter Tryz.func26, Tryz.ntmps26
  go_wp2_with fail
  exact bodyPost_ret (v := .agg #[.int .i64 4, .int .i64 0, .int .i64 A, .int .i64 0, .int .i64 0, .int .i64 0, .bool false]) (by simp [results, Tryz.results26, go_sem]) rfl ⟨rfl, (((Kept.refl w).alloc _ _).alloc _ _).alloc _ _⟩
set_option maxHeartbeats 1000000 in
theorem fit_5 (k op a b c i A B C O O3 O15 M16 M17 M20 M24 : Int) (u : Bool)
    (EK : wrap64 (1 + (wrap64 (k.tmod 7 + 7)).tmod 7) = 5) (EO : (wrap64 (op.tmod 12 + 12)).tmod 12 = O)
    (EA : bits .and .i64 a 15 = A) (EB : bits .and .i64 b 15 = B) (EC : bits .and .i64 c 15 = C) (E3 : bits .and .i64 op 3 = O3) (E15 : bits .and .i64 op 15 = O15)
    (E16 : bits .and .i64 i 65535 = M16) (E17 : bits .and .i64 i 131071 = M17) (E20 : bits .and .i64 i 1048575 = M20) (E24 : bits .and .i64 i 16777215 = M24)
    (m170 : 0 ≤ M17) (m171 : M17 ≤ 131071) (m200 : 0 ≤ M20) (m201 : M20 ≤ 1048575) (m240 : 0 ≤ M24) (m241 : M24 ≤ 16777215) (w : World) :
    Calls Tryz.prog 26 #[.agg #[.int .i64 k, .int .i64 op, .int .i64 a, .int .i64 b, .int .i64 c, .int .i64 i, .bool u]] w fun e w' => e = .returned (.agg #[.int .i64 5, .int .i64 O3, .int .i64 A, .int .i64 B, .int .i64 0, .int .i64 (M20 - 524288), .bool false]) ∧ Kept w w' := by
  go_enter Tryz.func26, Tryz.ntmps26
  go_wp2_with fail
  exact bodyPost_ret (v := .agg #[.int .i64 5, .int .i64 O3, .int .i64 A, .int .i64 B, .int .i64 0, .int .i64 (M20 - 524288), .bool false]) (by simp [results, Tryz.results26, go_sem]) rfl ⟨rfl, (((Kept.refl w).alloc _ _).alloc _ _).alloc _ _⟩
set_option maxHeartbeats 1000000 in
theorem fit_6 (k op a b c i A B C O O3 O15 M16 M17 M20 M24 : Int) (u : Bool)
    (EK : wrap64 (1 + (wrap64 (k.tmod 7 + 7)).tmod 7) = 6) (EO : (wrap64 (op.tmod 12 + 12)).tmod 12 = O)
    (EA : bits .and .i64 a 15 = A) (EB : bits .and .i64 b 15 = B) (EC : bits .and .i64 c 15 = C) (E3 : bits .and .i64 op 3 = O3) (E15 : bits .and .i64 op 15 = O15)
    (E16 : bits .and .i64 i 65535 = M16) (E17 : bits .and .i64 i 131071 = M17) (E20 : bits .and .i64 i 1048575 = M20) (E24 : bits .and .i64 i 16777215 = M24)
    (m170 : 0 ≤ M17) (m171 : M17 ≤ 131071) (m200 : 0 ≤ M20) (m201 : M20 ≤ 1048575) (m240 : 0 ≤ M24) (m241 : M24 ≤ 16777215) (w : World) :
    Calls Tryz.prog 26 #[.agg #[.int .i64 k, .int .i64 op, .int .i64 a, .int .i64 b, .int .i64 c, .int .i64 i, .bool u]] w fun e w' => e = .returned (.agg #[.int .i64 6, .int .i64 O15, .int .i64 0, .int .i64 0, .int .i64 C, .int .i64 0, .bool u]) ∧ Kept w w' := by
  go_enter Tryz.func26, Tryz.ntmps26
  go_wp2_with fail
  exact bodyPost_ret (v := .agg #[.int .i64 6, .int .i64 O15, .int .i64 0, .int .i64 0, .int .i64 C, .int .i64 0, .bool u]) (by simp [results, Tryz.results26, go_sem]) rfl ⟨rfl, (((Kept.refl w).alloc _ _).alloc _ _).alloc _ _⟩
set_option maxHeartbeats 1000000 in
theorem fit_7 (k op a b c i A B C O O3 O15 M16 M17 M20 M24 : Int) (u : Bool)
    (EK : wrap64 (1 + (wrap64 (k.tmod 7 + 7)).tmod 7) = 7) (EO : (wrap64 (op.tmod 12 + 12)).tmod 12 = O)
    (EA : bits .and .i64 a 15 = A) (EB : bits .and .i64 b 15 = B) (EC : bits .and .i64 c 15 = C) (E3 : bits .and .i64 op 3 = O3) (E15 : bits .and .i64 op 15 = O15)
    (E16 : bits .and .i64 i 65535 = M16) (E17 : bits .and .i64 i 131071 = M17) (E20 : bits .and .i64 i 1048575 = M20) (E24 : bits .and .i64 i 16777215 = M24)
    (m170 : 0 ≤ M17) (m171 : M17 ≤ 131071) (m200 : 0 ≤ M20) (m201 : M20 ≤ 1048575) (m240 : 0 ≤ M24) (m241 : M24 ≤ 16777215) (w : World) :
    Calls Tryz.prog 26 #[.agg #[.int .i64 k, .int .i64 op, .int .i64 a, .int .i64 b, .int .i64 c, .int .i64 i, .bool u]] w fun e w' => e = .returned (.agg #[.int .i64 7, .int .i64 O15, .int .i64 0, .int .i64 0, .int .i64 0, .int .i64 (M24 - 8388608), .bool u]) ∧ Kept w w' := by
  go_enter Tryz.func26, Tryz.ntmps26
  go_wp2_with fail
  exact bodyPost_ret (v := .agg #[.int .i64 7, .int .i64 O15, .int .i64 0, .int .i64 0, .int .i64 0, .int .i64 (M24 - 8388608), .bool u]) (by simp [results, Tryz.results26, go_sem]) rfl ⟨rfl, (((Kept.refl w).alloc _ _).alloc _ _).alloc _ _⟩
end Go.Proofs.YtlmddkciamdldaaGreat

/-
  Fit answers an instruction that may be; the law IsaBack.
-/
namespace Go.Proofs.YtlmddkciamdldaaGreat
open Go.RowKit
set_option linter.unusedVariables false
set_option linter.unusedSimpArgs false
set_option maxRecDepth 100000
theorem i64_and_2 (n : Int) : bits .and .i64 n 3 = n % 4 := by
  have h : (BitVec.ofInt 64 3).toNat = 2 ^ 2 - 1 := by decide
  have key : (BitVec.ofInt 64 n &&& BitVec.ofInt 64 3).toNat = (n % ((2 ^ 64 : Nat) : Int)).toNat % 2 ^ 2 := by
    rw [BitVec.toNat_and, BitVec.toNat_ofInt, h, Nat.and_two_pow_sub_one_eq_mod]
  show IntKind.i64.wrap ((BitVec.ofInt 64 n &&& BitVec.ofInt 64 3).toNat : Nat) = n % 4
  rw [key, IntKind.wrap_i64]
  omega
theorem i64_and_4 (n : Int) : bits .and .i64 n 15 = n % 16 := by
  have h : (BitVec.ofInt 64 15).toNat = 2 ^ 4 - 1 := by decide
  have key : (BitVec.ofInt 64 n &&& BitVec.ofInt 64 15).toNat = (n % ((2 ^ 64 : Nat) : Int)).toNat % 2 ^ 4 := by
    rw [BitVec.toNat_and, BitVec.toNat_ofInt, h, Nat.and_two_pow_sub_one_eq_mod]
  show IntKind.i64.wrap ((BitVec.ofInt 64 n &&& BitVec.ofInt 64 15).toNat : Nat) = n % 16
  rw [key, IntKind.wrap_i64]
  omega
theorem i64_and_16 (n : Int) : bits .and .i64 n 65535 = n % 65536 := by
  have h : (BitVec.ofInt 64 65535).toNat = 2 ^ 16 - 1 := by decide
  have key : (BitVec.ofInt 64 n &&& BitVec.ofInt 64 65535).toNat = (n % ((2 ^ 64 : Nat) : Int)).toNat % 2 ^ 16 := by
    rw [BitVec.toNat_and, BitVec.toNat_ofInt, h, Nat.and_two_pow_sub_one_eq_mod]
  show IntKind.i64.wrap ((BitVec.ofInt 64 n &&& BitVec.ofInt 64 65535).toNat : Nat) = n % 65536
  rw [key, IntKind.wrap_i64]
  omega
theorem i64_and_17 (n : Int) : bits .and .i64 n 131071 = n % 131072 := by
  have h : (BitVec.ofInt 64 131071).toNat = 2 ^ 17 - 1 := by decide
  have key : (BitVec.ofInt 64 n &&& BitVec.ofInt 64 131071).toNat = (n % ((2 ^ 64 : Nat) : Int)).toNat % 2 ^ 17 := by
    rw [BitVec.toNat_and, BitVec.toNat_ofInt, h, Nat.and_two_pow_sub_one_eq_mod]
  show IntKind.i64.wrap ((BitVec.ofInt 64 n &&& BitVec.ofInt 64 131071).toNat : Nat) = n % 131072
  rw [key, IntKind.wrap_i64]
  omega
theorem i64_and_20 (n : Int) : bits .and .i64 n 1048575 = n % 1048576 := by
  have h : (BitVec.ofInt 64 1048575).toNat = 2 ^ 20 - 1 := by decide
  have key : (BitVec.ofInt 64 n &&& BitVec.ofInt 64 1048575).toNat = (n % ((2 ^ 64 : Nat) : Int)).toNat % 2 ^ 20 := by
    rw [BitVec.toNat_and, BitVec.toNat_ofInt, h, Nat.and_two_pow_sub_one_eq_mod]
  show IntKind.i64.wrap ((BitVec.ofInt 64 n &&& BitVec.ofInt 64 1048575).toNat : Nat) = n % 1048576
  rw [key, IntKind.wrap_i64]
  omega
theorem i64_and_24 (n : Int) : bits .and .i64 n 16777215 = n % 16777216 := by
  have h : (BitVec.ofInt 64 16777215).toNat = 2 ^ 24 - 1 := by decide
  have key : (BitVec.ofInt 64 n &&& BitVec.ofInt 64 16777215).toNat = (n % ((2 ^ 64 : Nat) : Int)).toNat % 2 ^ 24 := by
    rw [BitVec.toNat_and, BitVec.toNat_ofInt, h, Nat.and_two_pow_sub_one_eq_mod]
  show IntKind.i64.wrap ((BitVec.ofInt 64 n &&& BitVec.ofInt 64 16777215).toNat : Nat) = n % 16777216
  rw [key, IntKind.wrap_i64]
  omega
theorem I.tm7 (k : Int) : 1 ≤ wrap64 (1 + (wrap64 (k.tmod 7 + 7)).tmod 7) ∧ wrap64 (1 + (wrap64 (k.tmod 7 + 7)).tmod 7) ≤ 7 := by
  have a := Int.tmod_lt_of_pos k (b := 7) (by omega)
  have b : -7 < k.tmod 7 := by
    have := Int.tmod_lt_of_pos (-k) (b := 7) (by omega)
    rw [Int.neg_tmod] at this
    omega
  generalize k.tmod 7 = t at *
  have e : wrap64 (t + 7) = t + 7 := by unfold wrap64; omega
  rw [e]
  have c := Int.tmod_lt_of_pos (t + 7) (b := 7) (by omega)
  have d := Int.tmod_nonneg 7 (a := t + 7) (by omega)
  generalize (t + 7).tmod 7 = q at *
  unfold wrap64
  omega
theorem I.tm12 (k : Int) : 0 ≤ (wrap64 (k.tmod 12 + 12)).tmod 12 ∧ (wrap64 (k.tmod 12 + 12)).tmod 12 ≤ 11 := by
  have a := Int.tmod_lt_of_pos k (b := 12) (by omega)
  have b : -12 < k.tmod 12 := by
    have := Int.tmod_lt_of_pos (-k) (b := 12) (by omega)
    rw [Int.neg_tmod] at this
    omega
  generalize k.tmod 12 = t at *
  have e : wrap64 (t + 12) = t + 12 := by unfold wrap64; omega
  rw [e]
  have c := Int.tmod_lt_of_pos (t + 12) (b := 12) (by omega)
  have d := Int.tmod_nonneg 12 (a := t + 12) (by omega)
  omega
theorem fit_any (k op a b c i : Int) (u : Bool) : ∃ k' op' a' b' c' i' u', I.May ⟨k', op', a', b', c', i', u'⟩ ∧
    ∀ w, Calls Tryz.prog 26 #[.agg #[.int .i64 k, .int .i64 op, .int .i64 a, .int .i64 b, .int .i64 c, .int .i64 i, .bool u]] w fun e w' => e = .returned (.agg #[.int .i64 (k'), .int .i64 (op'), .int .i64 (a'), .int .i64 (b'), .int .i64 (c'), .int .i64 (i'), .bool (u')]) ∧ Kept w w' := by
  obtain ⟨K, EK⟩ : ∃ r, wrap64 (1 + (wrap64 (k.tmod 7 + 7)).tmod 7) = r := ⟨_, rfl⟩
  obtain ⟨O, EO⟩ : ∃ r, (wrap64 (op.tmod 12 + 12)).tmod 12 = r := ⟨_, rfl⟩
  have hK := I.tm7 k
  have hO := I.tm12 op
  rw [EK] at hK
  rw [EO] at hO
  obtain ⟨A, EA⟩ : ∃ r, bits .and .i64 a 15 = r := ⟨_, rfl⟩
  obtain ⟨B, EB⟩ : ∃ r, bits .and .i64 b 15 = r := ⟨_, rfl⟩
  obtain ⟨C, EC⟩ : ∃ r, bits .and .i64 c 15 = r := ⟨_, rfl⟩
  obtain ⟨O3, E3⟩ : ∃ r, bits .and .i64 op 3 = r := ⟨_, rfl⟩
  obtain ⟨O15, E15⟩ : ∃ r, bits .and .i64 op 15 = r := ⟨_, rfl⟩
  obtain ⟨M16, E16⟩ : ∃ r, bits .and .i64 i 65535 = r := ⟨_, rfl⟩
  obtain ⟨M17, E17⟩ : ∃ r, bits .and .i64 i 131071 = r := ⟨_, rfl⟩
  obtain ⟨M20, E20⟩ : ∃ r, bits .and .i64 i 1048575 = r := ⟨_, rfl⟩
  obtain ⟨M24, E24⟩ : ∃ r, bits .and .i64 i 16777215 = r := ⟨_, rfl⟩
  have hA : 0 ≤ A ∧ A ≤ 15 := by rw [← EA, i64_and_4]; omega
  have hB : 0 ≤ B ∧ B ≤ 15 := by rw [← EB, i64_and_4]; omega
  have hC : 0 ≤ C ∧ C ≤ 15 := by rw [← EC, i64_and_4]; omega
  have h3 : 0 ≤ O3 ∧ O3 ≤ 3 := by rw [← E3, i64_and_2]; omega
  have h15 : 0 ≤ O15 ∧ O15 ≤ 15 := by rw [← E15, i64_and_4]; omega
  have h16 : 0 ≤ M16 ∧ M16 ≤ 65535 := by rw [← E16, i64_and_16]; omega
  have h17 : 0 ≤ M17 ∧ M17 ≤ 131071 := by rw [← E17, i64_and_17]; omega
  have h20 : 0 ≤ M20 ∧ M20 ≤ 1048575 := by rw [← E20, i64_and_20]; omega
  have h24 : 0 ≤ M24 ∧ M24 ≤ 16777215 := by rw [← E24, i64_and_24]; omega
  rcases (show K = 1 ∨ K = 2 ∨ K = 3 ∨ K = 4 ∨ K = 5 ∨ K = 6 ∨ K = 7 by omega) with rfl | rfl | rfl | rfl | rfl | rfl | rfl
  · rcases (show O = 0 ∨ (1 ≤ O ∧ O < 8 ∧ ¬ O = 0) ∨ (8 ≤ O ∧ O ≤ 10 ∧ ¬ O = 0) ∨ O = 11 by omega) with rfl | ⟨o0, o1, oz⟩ | ⟨o0, o1, oz⟩ | rfl
    · cases u
      · refine ⟨1, 0, A, 0, C, 0, false, ?_, fit_1_1f k op a b c i A B C 0 O3 O15 M16 M17 M20 M24 EK EO EA EB EC E3 E15 E16 E17 E20 E24 h17.1 h17.2 h20.1 h20.2 h24.1 h24.2⟩
        unfold I.May
        simp
        try omega
      · refine ⟨1, 0, A, 0, C, 0, false, ?_, fit_1_1t k op a b c i A B C 0 O3 O15 M16 M17 M20 M24 EK EO EA EB EC E3 E15 E16 E17 E20 E24 h17.1 h17.2 h20.1 h20.2 h24.1 h24.2⟩
        unfold I.May
        simp
        try omega
    · cases u
      · refine ⟨1, O, A, B, C, 0, false, ?_, fit_1_2f k op a b c i A B C O O3 O15 M16 M17 M20 M24 EK EO EA EB EC E3 E15 E16 E17 E20 E24 h17.1 h17.2 h20.1 h20.2 h24.1 h24.2 o0 o1 oz⟩
        unfold I.May
        simp
        try omega
      · refine ⟨1, O, A, B, C, 0, false, ?_, fit_1_2t k op a b c i A B C O O3 O15 M16 M17 M20 M24 EK EO EA EB EC E3 E15 E16 E17 E20 E24 h17.1 h17.2 h20.1 h20.2 h24.1 h24.2 o0 o1 oz⟩
        unfold I.May
        simp
        try omega
    · cases u
      · refine ⟨1, O, A, B, C, 0, false, ?_, fit_1_3f k op a b c i A B C O O3 O15 M16 M17 M20 M24 EK EO EA EB EC E3 E15 E16 E17 E20 E24 h17.1 h17.2 h20.1 h20.2 h24.1 h24.2 o0 o1 oz⟩
        unfold I.May
        simp
        try omega
      · refine ⟨1, O, A, B, C, 0, true, ?_, fit_1_3t k op a b c i A B C O O3 O15 M16 M17 M20 M24 EK EO EA EB EC E3 E15 E16 E17 E20 E24 h17.1 h17.2 h20.1 h20.2 h24.1 h24.2 o0 o1 oz⟩
        unfold I.May
        simp
        try omega
    · cases u
      · refine ⟨1, 11, A, B, C, 0, false, ?_, fit_1_4f k op a b c i A B C 11 O3 O15 M16 M17 M20 M24 EK EO EA EB EC E3 E15 E16 E17 E20 E24 h17.1 h17.2 h20.1 h20.2 h24.1 h24.2⟩
        unfold I.May
        simp
        try omega
      · refine ⟨1, 11, A, B, C, 0, false, ?_, fit_1_4t k op a b c i A B C 11 O3 O15 M16 M17 M20 M24 EK EO EA EB EC E3 E15 E16 E17 E20 E24 h17.1 h17.2 h20.1 h20.2 h24.1 h24.2⟩
        unfold I.May
        simp
        try omega
  · rcases (show O = 0 ∨ (1 ≤ O ∧ O < 8 ∧ ¬ O = 0) ∨ (8 ≤ O ∧ O ≤ 10 ∧ ¬ O = 0) ∨ O = 11 by omega) with rfl | ⟨o0, o1, oz⟩ | ⟨o0, o1, oz⟩ | rfl
    · cases u
      · refine ⟨2, 0, A, 0, 0, M17 - 65536, false, ?_, fit_2_1f k op a b c i A B C 0 O3 O15 M16 M17 M20 M24 EK EO EA EB EC E3 E15 E16 E17 E20 E24 h17.1 h17.2 h20.1 h20.2 h24.1 h24.2⟩
        unfold I.May
        simp
        try omega
      · refine ⟨2, 0, A, 0, 0, M16, true, ?_, fit_2_1t k op a b c i A B C 0 O3 O15 M16 M17 M20 M24 EK EO EA EB EC E3 E15 E16 E17 E20 E24 h17.1 h17.2 h20.1 h20.2 h24.1 h24.2⟩
        unfold I.May
        simp
        try omega
    · cases u
      · refine ⟨2, O, A, B, 0, M17 - 65536, false, ?_, fit_2_2f k op a b c i A B C O O3 O15 M16 M17 M20 M24 EK EO EA EB EC E3 E15 E16 E17 E20 E24 h17.1 h17.2 h20.1 h20.2 h24.1 h24.2 o0 o1 oz⟩
        unfold I.May
        simp
        try omega
      · refine ⟨2, O, A, B, 0, M17 - 65536, false, ?_, fit_2_2t k op a b c i A B C O O3 O15 M16 M17 M20 M24 EK EO EA EB EC E3 E15 E16 E17 E20 E24 h17.1 h17.2 h20.1 h20.2 h24.1 h24.2 o0 o1 oz⟩
        unfold I.May
        simp
        try omega
    · cases u
      · refine ⟨2, O, A, B, 0, M17 - 65536, false, ?_, fit_2_3f k op a b c i A B C O O3 O15 M16 M17 M20 M24 EK EO EA EB EC E3 E15 E16 E17 E20 E24 h17.1 h17.2 h20.1 h20.2 h24.1 h24.2 o0 o1 oz⟩
        unfold I.May
        simp
        try omega
      · refine ⟨2, O, A, B, 0, M17 - 65536, true, ?_, fit_2_3t k op a b c i A B C O O3 O15 M16 M17 M20 M24 EK EO EA EB EC E3 E15 E16 E17 E20 E24 h17.1 h17.2 h20.1 h20.2 h24.1 h24.2 o0 o1 oz⟩
        unfold I.May
        simp
        try omega
    · cases u
      · refine ⟨2, 11, A, B, 0, M17 - 65536, false, ?_, fit_2_4f k op a b c i A B C 11 O3 O15 M16 M17 M20 M24 EK EO EA EB EC E3 E15 E16 E17 E20 E24 h17.1 h17.2 h20.1 h20.2 h24.1 h24.2⟩
        unfold I.May
        simp
        try omega
      · refine ⟨2, 11, A, B, 0, M17 - 65536, false, ?_, fit_2_4t k op a b c i A B C 11 O3 O15 M16 M17 M20 M24 EK EO EA EB EC E3 E15 E16 E17 E20 E24 h17.1 h17.2 h20.1 h20.2 h24.1 h24.2⟩
        unfold I.May
        simp
        try omega
  · refine ⟨3, 0, A, 0, 0, 0, false, ?_, fit_3 k op a b c i A B C O O3 O15 M16 M17 M20 M24 u EK EO EA EB EC E3 E15 E16 E17 E20 E24 h17.1 h17.2 h20.1 h20.2 h24.1 h24.2⟩
    unfold I.May
    simp
    try omega
  · refine ⟨4, 0, A, 0, 0, 0, false, ?_, fit_4 k op a b c i A B C O O3 O15 M16 M17 M20 M24 u EK EO EA EB EC E3 E15 E16 E17 E20 E24 h17.1 h17.2 h20.1 h20.2 h24.1 h24.2⟩
    unfold I.May
    simp
    try omega
  · refine ⟨5, O3, A, B, 0, M20 - 524288, false, ?_, fit_5 k op a b c i A B C O O3 O15 M16 M17 M20 M24 u EK EO EA EB EC E3 E15 E16 E17 E20 E24 h17.1 h17.2 h20.1 h20.2 h24.1 h24.2⟩
    unfold I.May
    simp
    try omega
  · refine ⟨6, O15, 0, 0, C, 0, u, ?_, fit_6 k op a b c i A B C O O3 O15 M16 M17 M20 M24 u EK EO EA EB EC E3 E15 E16 E17 E20 E24 h17.1 h17.2 h20.1 h20.2 h24.1 h24.2⟩
    unfold I.May
    simp
    try omega
  · refine ⟨7, O15, 0, 0, 0, M24 - 8388608, u, ?_, fit_7 k op a b c i A B C O O3 O15 M16 M17 M20 M24 u EK EO EA EB EC E3 E15 E16 E17 E20 E24 h17.1 h17.2 h20.1 h20.2 h24.1 h24.2⟩
    unfold I.May
    simp
    try omega
end Go.Proofs.YtlmddkciamdldaaGreat

/-
  What the laws of stage 6 make: few, made.
-/
namespace Go.Proofs.YtlmddkciamdldaaGreat
open Go.RowKit
set_option linter.unusedVariables false
set_option linter.unusedSimpArgs false
set_option maxRecDepth 100000
theorem few6_any (w : World) (A : Option Addr) (n c : Nat) (xs : List Int) (hx : Ws w A n c xs) :
    Calls Tryz.prog 8 #[.slice A n c] w fun e w' => e = .returned (.slice A (min n 20) c) ∧ w = w' := by
  have h1 := hx.le
  have h2 := hx.max
  unfold maxLen at h2
  clear hx
  by_cases c1 : n ≤ 20
  · rw [Nat.min_eq_left c1]
    go_enter Tryz.func8, Tryz.ntmps8
    go_wp2
    go_ret
    exact ⟨rfl, rfl⟩
  · rw [Nat.min_eq_right (by omega)]
    go_enter Tryz.func8, Tryz.ntmps8
    go_wp2
    go_ret
    exact ⟨rfl, rfl⟩
/-- how a machine is set up -/
def X.setC (s : A.Regs) (pc : Int) (v : Value) : Array Value := #[.int .u32 (s.r 0), .int .u32 (s.r 1), .int .u32 (s.r 2), .int .u32 (s.r 3), .int .u32 (s.r 4), .int .u32 (s.r 5), .int .u32 (s.r 6), .int .u32 (s.r 7), .int .u32 (s.r 8), .int .u32 (s.r 9), .int .u32 (s.r 10), .int .u32 (s.r 11), .int .u32 (s.r 12), .int .u32 (s.r 13), .int .u32 (s.r 14), .int .u32 (s.r 15), .int .u32 s.h, .bool s.n, .bool s.z, .bool s.c, .bool s.v, .int .u32 pc, v]
theorem X.setC_regs {s : A.Regs} {pc : Int} {v : Value} {g : Nat} {t : TypeId} {w : World} (h : Has g (X.setC s pc v) t w) : w.rangeAt g 0 (A.cells s).toList := by
  intro j y hj
  have hl : j < 21 := by
    rcases Nat.lt_or_ge j 21 with h1 | h1
    · exact h1
    · rw [List.getElem?_eq_none (by simp; omega)] at hj; cases hj
  rw [Nat.zero_add]
  refine h.cell j y ?_
  have e : X.setC s pc v = (A.cells s) ++ #[.int .u32 pc, v] := rfl
  rw [e, Array.getElem?_append_left (by simp; omega)]
  simpa using hj
/-- a machine of words, and the document's -/
structure X.Two (w0 : World) (B E : Nat) (F G : Nat → Prop) (x : X.St) (w : World) : Prop where
  p : Mac F B x w
  r : RMac G E x w
  fF : ∀ k, F k → w0.heap.size ≤ k
  fG : ∀ k, G k → w0.heap.size ≤ k
  ap : ∀ k, F k → ¬ G k
theorem made_any {w : World} {ap : Option Addr} {n c : Nat} {xs : List Int} (hl : Ws w ap n c xs) (hn : n ≤ 20) (s : A.Regs) (pc : Int) {ai : Option Addr} {ni ci : Nat} {is : List Int} (hi : Ws w ai ni ci is) (hs : A.Ok s) (p0 : 0 ≤ pc) (p1 : pc < 4294967296) :
    Calls Tryz.prog 7 #[.slice ap n c, .agg (X.setC s pc (.slice ai ni ci))] w fun e w' => ∃ B E, e = .returned (.tuple #[.pointer (some ⟨B, 0, none⟩), .pointer (some ⟨E, 0, none⟩)]) ∧ ∃ F G, X.Two w B E F G ⟨M.placed (List.replicate (n + 4) 0) 0 xs, s, pc, 0, is.take 20, []⟩ w' ∧ Turn T0 w w' := by
  have hL := Lib.hid hl
  have hI := Lib.hid hi
  clear hl hi
  have hlen := hL.out.len
  go_enter Tryz.func7, Tryz.ntmps7
  go_upto_region 1 with (fail)
  generalize hw1 : w.alloc (Obj.cells _ _) = w1
  have hS : Has w.heap.size (X.setC s pc (.slice ai ni ci)) 28 w1 := by rw [← hw1]; exact Has.new _ _ _
  have hK : Kept w w1 := by rw [← hw1]; exact (Kept.refl w).alloc _ _
  clear hw1
  have cin : w1.cell? ⟨w.heap.size, 22, none⟩ = some (.slice ai ni ci) := hS.cell 22 _ rfl
  have hI1 := Lib.hid (hI.out.kept hK)
  go_wp2_with (fail)
  refine (few6_any _ _ _ _ _ hI1.out).mono ?_; rintro e w1' ⟨rfl, rfl⟩
  have hF := hI1.out.take (min ni 20) (Nat.min_le_left _ _)
  have hlei : is.take (min ni 20) = is.take 20 := by
    rcases Nat.le_total ni 20 with h | h
    · rw [Nat.min_eq_left h, List.take_of_length_le (by have := hI1.out.len; omega), List.take_of_length_le (by have := hI1.out.len; omega)]
    · rw [Nat.min_eq_right h]
  rw [hlei] at hF
  generalize hm : min ni 20 = mi at *
  have hmi : mi ≤ 1000000000 := by omega
  go_wp2_with (fail)
  have CN := new_any (n + 4) (by omega) hF hmi
  rw [show ((n + 4 : Nat) : Int) = (n : Int) + 4 by omega] at CN
  refine CN.mono ?_; rintro e w2 ⟨B, rfl, F, hM, hT2, hF2⟩
  have hS2 : Has w.heap.size (X.setC s pc (.slice ai ni ci)) 28 w2 := (hT2.block _ hS.lt id).trans hS
  have cin2 : w2.cell? ⟨w.heap.size, 22, none⟩ = some (.slice ai ni ci) := hS2.cell 22 _ rfl
  have hI2 : Ws w2 ai ni ci is := hI1.out.to fun ad e hn => hT2.block _ (by subst e; exact hI1.out.lt hn) id
  have hI2' := Lib.hid hI2
  have hF2' : Ws w2 ai mi ci (is.take 20) := by have := hI2.take mi (by omega); rw [hlei] at this; exact this
  have hL2 : Ws w2 ap n c xs := (hL.out.kept hK).to fun ad e hn => hT2.block _ (by subst e; exact (hL.out.kept hK).lt hn) id
  have hTw2 : Turn T0 w w2 := (hK.turn T0).trans hT2
  have hFw : ∀ k, F k → w1.heap.size ≤ k := hF2
  replace hS2 := Lib.hid hS2
  replace hM := Lib.hid hM
  replace hTw2 := Lib.hid hTw2
  replace hL2 := Lib.hid hL2
  replace hF2' := Lib.hid hF2'
  have hsz1 : w.heap.size < w1.heap.size := hS.lt
  have hsz12 : w1.heap.size ≤ w2.heap.size := hT2.size
  clear CN hF hT2 hI2 cin hS
  go_wp2_with (fail)
  refine (few6_any _ _ _ _ _ hI2'.out).mono ?_; rintro e w2' ⟨rfl, rfl⟩
  rw [hm]
  go_wp2_with (fail)
  have CR := rnew_any (n + 4) (by omega) hF2'.out hmi
  rw [show ((n + 4 : Nat) : Int) = (n : Int) + 4 by omega] at CR
  refine CR.mono ?_; rintro e w3 ⟨E, rfl, G, hR, hT3, hG3⟩
  have hd : ∀ k, F k → ¬ G k := fun k h1 h2 => by have := hM.out.sub k h1; have := hG3 k h2; omega
  have hM3 := hM.out.turn hT3 fun _ _ h => h
  have hL3 : Ws w3 ap n c xs := hL2.out.to fun ad e hn => hT3.block _ (by subst e; exact hL2.out.lt hn) id
  have hS3 : Has w.heap.size (X.setC s pc (.slice ai ni ci)) 28 w3 := (hT3.block _ hS2.out.lt id).trans hS2.out
  have hTw3 := hTw2.out.trans hT3
  have hLl : ∀ ad, ap = some ad → 0 < n → ad.block < w.heap.size := fun ad e hn => by subst e; exact hL.out.lt hn
  have hsz2 : w.heap.size ≤ w2.heap.size := hTw2.out.size
  clear CR hT3 hM hL2 hS2 hTw2 hF2' hI2' cin2
  replace hR := Lib.hid hR
  replace hS3 := Lib.hid hS3
  replace hTw3 := Lib.hid hTw3
  go_wp2_with (fail)
  refine (place_any hM3 0 ap n c xs hL3 (by simp)).mono ?_; rintro e w4 ⟨rfl, hM4, hB4⟩
  have hFB : F B := hM4.inB
  have hR4 := hR.out.turn (hB4.turn (F := F) hFB) fun k hk hf => hd k hf hk
  have hBw : w.heap.size < B := by have := hFw B hFB; omega
  have hL4 : Ws w4 ap n c xs := hL3.but hB4 fun ad e hn => by have := hLl ad e hn; omega
  have hS4 := hB4.has (by omega) hS3.out
  have hT4 := hTw3.out.then (hB4.turn (F := fun k => w.heap.size ≤ k) (by omega)) fun k hk => Or.inr hk
  clear hM3 hL3 hS3 hTw3 hR
  obtain ⟨D, C, ai', ni', ci', ao', no', co', hR4⟩ := hR4
  have cD : w4.cell? ⟨E, 0, none⟩ = some (.pointer (some ⟨D, 0, none⟩)) := hR4.box.cell 0 _ rfl
  have hGC : w2.heap.size ≤ C := hG3 C hR4.inC
  replace hR4 := Lib.hid hR4
  replace hM4 := Lib.hid hM4
  replace hS4 := Lib.hid hS4
  replace hT4 := Lib.hid hT4
  go_wp2_with (fail)
  refine (R.place_yes hR4.out.mem 0 ap n c xs hL4 (fun ad e hn => by have := hLl ad e hn; omega) (by simp)).mono ?_; rintro e w5 ⟨rfl, hRm, hB5⟩
  have hR5 := hR4.out.words hB5 _ hRm
  have hM5 := hM4.out.turn (hB5.turn (F := G) hR4.out.inC) hd
  have hS5 := hB5.has (by omega) hS4.out
  have hT5 := hT4.out.then (hB5.turn (F := fun k => w.heap.size ≤ k) (by show w.heap.size ≤ C; omega)) fun k hk => Or.inr hk
  have cp : w5.cell? ⟨w.heap.size, 21, none⟩ = some (.int .u32 pc) := hS5.cell 21 _ rfl
  clear hRm hB5 hR4 hM4 hS4 hT4 hL4 cD
  replace hR5 := Lib.hid hR5
  replace hM5 := Lib.hid hM5
  replace hS5 := Lib.hid hS5
  replace hT5 := Lib.hid hT5
  go_wp2_with (with_reducible refine wpList_load_mid (op := ⟨some 49, _, _, _, _, _⟩) rfl 26 _ rfl _ _ rfl (A.cells s).toList _ (X.setC_regs hS5.out) Tryz.underlying26 rfl (by rw [Array.length_toList]; exact A.info25 _) ?_)
  refine (start_any hM5.out pc s hs p0 p1).mono ?_; rintro e w6 ⟨rfl, hM6, hB6⟩
  have hR6 := hR5.out.turn (hB6.turn (F := F) hFB) fun k hk hf => hd k hf hk
  have hS6 := hB6.has (by omega) hS5.out
  have hT6 := hT5.out.then (hB6.turn (F := fun k => w.heap.size ≤ k) (by omega)) fun k hk => Or.inr hk
  have cp6 : w6.cell? ⟨w.heap.size, 21, none⟩ = some (.int .u32 pc) := hS6.cell 21 _ rfl
  clear hB6 hR5 hM5 hS5 hT5 cp
  replace hR6 := Lib.hid hR6
  replace hM6 := Lib.hid hM6
  replace hS6 := Lib.hid hS6
  replace hT6 := Lib.hid hT6
  go_wp2_with (with_reducible refine wpList_load_mid (op := ⟨some 55, _, _, _, _, _⟩) rfl 26 _ rfl _ _ rfl (A.cells s).toList _ (X.setC_regs hS6.out) Tryz.underlying26 rfl (by rw [Array.length_toList]; exact A.info25 _) ?_)
  refine (rstart_any ⟨_, _, _, _, _, _, _, _, hR6.out⟩ pc s hs p0 p1).mono ?_; rintro e w7 ⟨rfl, hR7, hB7⟩
  have hGE : G E := hR6.out.inE
  have hM7 := hM6.out.turn (hB7.turn (F := G) hGE) hd
  have hT7 := hT6.out.then (hB7.turn (F := fun k => w.heap.size ≤ k) (by show w.heap.size ≤ E; have := hG3 E hGE; omega)) fun k hk => Or.inr hk
  have hTwo : X.Two w B E F G ⟨M.placed (List.replicate (n + 4) 0) 0 xs, s, pc, 0, is.take 20, []⟩ w7 := ⟨hM7, hR7, fun k hk => by have := hFw k hk; omega, fun k hk => by have := hG3 k hk; omega, hd⟩
  replace hTwo := Lib.hid hTwo
  replace hT7 := Lib.hid hT7
  clear hB7 hR6 hM6 hS6 hT6 cp6 hM7 hR7
  go_wp2
  go_ret2
  exact ⟨B, E, rfl, F, G, hTwo.out, hT7.out⟩
end Go.Proofs.YtlmddkciamdldaaGreat

/-
  The contract of rivetref03's May.
-/
namespace Go.Proofs.YtlmddkciamdldaaGreat
open Go.RowKit
set_option linter.unusedVariables false
set_option linter.unusedSimpArgs false
set_option maxRecDepth 100000
set_option maxRecDepth 100000 in
theorem rmay_r0 (k op a b c i : Int) (u : Bool) (w : World)
    (RA : Hid (∀ w, Calls Tryz.prog 59 #[.int .i64 a] w fun e w' => e = .returned (.bool false) ∧ w = w')) :
    Calls Tryz.prog 41 #[.agg #[.int .i64 k, .int .i64 op, .int .i64 a, .int .i64 b, .int .i64 c, .int .i64 i, .bool u]] w fun e w' => e = .returned (.bool false) ∧ Kept w w' := by
  go_enter Tryz.func41, Tryz.ntmps41
  go_wp2_with fail
  refine (RA.out _).mono ?_; rintro e w1 ⟨rfl, rfl⟩
  go_wp2_with fail
  go_ret
  exact ⟨rfl, (Kept.refl w).alloc _ _⟩
set_option maxRecDepth 100000 in
theorem rmay_r1 (k op a b c i : Int) (u : Bool) (w : World)
    (RA : Hid (∀ w, Calls Tryz.prog 59 #[.int .i64 a] w fun e w' => e = .returned (.bool true) ∧ w = w'))
    (RB : Hid (∀ w, Calls Tryz.prog 59 #[.int .i64 b] w fun e w' => e = .returned (.bool false) ∧ w = w')) :
    Calls Tryz.prog 41 #[.agg #[.int .i64 k, .int .i64 op, .int .i64 a, .int .i64 b, .int .i64 c, .int .i64 i, .bool u]] w fun e w' => e = .returned (.bool false) ∧ Kept w w' := by
  go_enter Tryz.func41, Tryz.ntmps41
  go_wp2_with fail
  refine (RA.out _).mono ?_; rintro e w1 ⟨rfl, rfl⟩
  go_wp2_with fail
  refine (RB.out _).mono ?_; rintro e w1 ⟨rfl, rfl⟩
  go_wp2_with fail
  go_ret
  exact ⟨rfl, (Kept.refl w).alloc _ _⟩
set_option maxRecDepth 100000 in
theorem rmay_r2 (k op a b c i : Int) (u : Bool) (w : World)
    (RA : Hid (∀ w, Calls Tryz.prog 59 #[.int .i64 a] w fun e w' => e = .returned (.bool true) ∧ w = w'))
    (RB : Hid (∀ w, Calls Tryz.prog 59 #[.int .i64 b] w fun e w' => e = .returned (.bool true) ∧ w = w'))
    (RC : Hid (∀ w, Calls Tryz.prog 59 #[.int .i64 c] w fun e w' => e = .returned (.bool false) ∧ w = w')) :
    Calls Tryz.prog 41 #[.agg #[.int .i64 k, .int .i64 op, .int .i64 a, .int .i64 b, .int .i64 c, .int .i64 i, .bool u]] w fun e w' => e = .returned (.bool false) ∧ Kept w w' := by
  go_enter Tryz.func41, Tryz.ntmps41
  go_wp2_with fail
  refine (RA.out _).mono ?_; rintro e w1 ⟨rfl, rfl⟩
  go_wp2_with fail
  refine (RB.out _).mono ?_; rintro e w1 ⟨rfl, rfl⟩
  go_wp2_with fail
  refine (RC.out _).mono ?_; rintro e w1 ⟨rfl, rfl⟩
  go_wp2_with fail
  go_ret
  exact ⟨rfl, (Kept.refl w).alloc _ _⟩
set_option maxRecDepth 100000 in
set_option maxHeartbeats 2000000 in
theorem rmay_1f (op a b c i : Int) (w : World)
    (a0 : 0 ≤ a) (a1 : a ≤ 15) (b0 : 0 ≤ b) (b1 : b ≤ 15) (c0 : 0 ≤ c) (c1 : c ≤ 15)
    (RA : Hid (∀ w, Calls Tryz.prog 59 #[.int .i64 a] w fun e w' => e = .returned (.bool true) ∧ w = w'))
    (RB : Hid (∀ w, Calls Tryz.prog 59 #[.int .i64 b] w fun e w' => e = .returned (.bool true) ∧ w = w'))
    (RC : Hid (∀ w, Calls Tryz.prog 59 #[.int .i64 c] w fun e w' => e = .returned (.bool true) ∧ w = w')) :
    Calls Tryz.prog 41 #[.agg #[.int .i64 1, .int .i64 op, .int .i64 a, .int .i64 b, .int .i64 c, .int .i64 i, .bool false]] w fun e w' => e = .returned (.bool (I.may ⟨1, op, a, b, c, i, false⟩)) ∧ Kept w w' := by
  go_enter Tryz.func41, Tryz.ntmps41
  go_wp2_with fail
  refine (RA.out _).mono ?_; rintro e w1 ⟨rfl, rfl⟩
  go_wp2_with fail
  refine (RB.out _).mono ?_; rintro e w1 ⟨rfl, rfl⟩
  go_wp2_with fail
  refine (RC.out _).mono ?_; rintro e w1 ⟨rfl, rfl⟩
  go_wp2_with fail
  all_goals go_ret
  all_goals refine r1bk ?_ (((Kept.refl w).alloc _ _).alloc _ _)
  all_goals (try simp only [bne_iff_ne, ne_eq, beq_iff_eq, bne_eq_false_iff_eq, beq_eq_false_iff_ne] at *)
  all_goals (rw [Bool.eq_iff_iff]; unfold I.may I.May; simp)
  all_goals (try omega)
set_option maxRecDepth 100000 in
set_option maxHeartbeats 2000000 in
theorem rmay_1t (op a b c i : Int) (w : World)
    (a0 : 0 ≤ a) (a1 : a ≤ 15) (b0 : 0 ≤ b) (b1 : b ≤ 15) (c0 : 0 ≤ c) (c1 : c ≤ 15)
    (RA : Hid (∀ w, Calls Tryz.prog 59 #[.int .i64 a] w fun e w' => e = .returned (.bool true) ∧ w = w'))
    (RB : Hid (∀ w, Calls Tryz.prog 59 #[.int .i64 b] w fun e w' => e = .returned (.bool true) ∧ w = w'))
    (RC : Hid (∀ w, Calls Tryz.prog 59 #[.int .i64 c] w fun e w' => e = .returned (.bool true) ∧ w = w')) :
    Calls Tryz.prog 41 #[.agg #[.int .i64 1, .int .i64 op, .int .i64 a, .int .i64 b, .int .i64 c, .int .i64 i, .bool true]] w fun e w' => e = .returned (.bool (I.may ⟨1, op, a, b, c, i, true⟩)) ∧ Kept w w' := by
  go_enter Tryz.func41, Tryz.ntmps41
  go_wp2_with fail
  refine (RA.out _).mono ?_; rintro e w1 ⟨rfl, rfl⟩
  go_wp2_with fail
  refine (RB.out _).mono ?_; rintro e w1 ⟨rfl, rfl⟩
  go_wp2_with fail
  refine (RC.out _).mono ?_; rintro e w1 ⟨rfl, rfl⟩
  go_wp2_with fail
  all_goals go_ret
  all_goals refine r1bk ?_ (((Kept.refl w).alloc _ _).alloc _ _)
  all_goals (try simp only [bne_iff_ne, ne_eq, beq_iff_eq, bne_eq_false_iff_eq, beq_eq_false_iff_ne] at *)
  all_goals (rw [Bool.eq_iff_iff]; unfold I.may I.May; simp)
  all_goals (try omega)
end Go.Proofs.YtlmddkciamdldaaGreat

/-
  The contract of rivetref03's May, the other kinds.
-/
namespace Go.Proofs.YtlmddkciamdldaaGreat
open Go.RowKit
set_option linter.unusedVariables false
set_option linter.unusedSimpArgs false
set_option maxRecDepth 100000
set_option maxRecDepth 100000 in
set_option maxHeartbeats 2000000 in
theorem rmay_2f (op a b c i : Int) (w : World)
    (a0 : 0 ≤ a) (a1 : a ≤ 15) (b0 : 0 ≤ b) (b1 : b ≤ 15) (c0 : 0 ≤ c) (c1 : c ≤ 15)
    (RA : Hid (∀ w, Calls Tryz.prog 59 #[.int .i64 a] w fun e w' => e = .returned (.bool true) ∧ w = w'))
    (RB : Hid (∀ w, Calls Tryz.prog 59 #[.int .i64 b] w fun e w' => e = .returned (.bool true) ∧ w = w'))
    (RC : Hid (∀ w, Calls Tryz.prog 59 #[.int .i64 c] w fun e w' => e = .returned (.bool true) ∧ w = w')) :
    Calls Tryz.prog 41 #[.agg #[.int .i64 2, .int .i64 op, .int .i64 a, .int .i64 b, .int .i64 c, .int .i64 i, .bool false]] w fun e w' => e = .returned (.bool (I.may ⟨2, op, a, b, c, i, false⟩)) ∧ Kept w w' := by
  go_enter Tryz.func41, Tryz.ntmps41
  go_wp2_with fail
  refine (RA.out _).mono ?_; rintro e w1 ⟨rfl, rfl⟩
  go_wp2_with fail
  refine (RB.out _).mono ?_; rintro e w1 ⟨rfl, rfl⟩
  go_wp2_with fail
  refine (RC.out _).mono ?_; rintro e w1 ⟨rfl, rfl⟩
  go_wp2_with fail
  all_goals go_ret
  all_goals refine r1bk ?_ (((Kept.refl w).alloc _ _).alloc _ _)
  all_goals (try simp only [bne_iff_ne, ne_eq, beq_iff_eq, bne_eq_false_iff_eq, beq_eq_false_iff_ne] at *)
  all_goals (rw [Bool.eq_iff_iff]; unfold I.may I.May; simp)
  all_goals (try omega)
set_option maxRecDepth 100000 in
set_option maxHeartbeats 2000000 in
theorem rmay_2t (op a b c i : Int) (w : World)
    (a0 : 0 ≤ a) (a1 : a ≤ 15) (b0 : 0 ≤ b) (b1 : b ≤ 15) (c0 : 0 ≤ c) (c1 : c ≤ 15)
    (RA : Hid (∀ w, Calls Tryz.prog 59 #[.int .i64 a] w fun e w' => e = .returned (.bool true) ∧ w = w'))
    (RB : Hid (∀ w, Calls Tryz.prog 59 #[.int .i64 b] w fun e w' => e = .returned (.bool true) ∧ w = w'))
    (RC : Hid (∀ w, Calls Tryz.prog 59 #[.int .i64 c] w fun e w' => e = .returned (.bool true) ∧ w = w')) :
    Calls Tryz.prog 41 #[.agg #[.int .i64 2, .int .i64 op, .int .i64 a, .int .i64 b, .int .i64 c, .int .i64 i, .bool true]] w fun e w' => e = .returned (.bool (I.may ⟨2, op, a, b, c, i, true⟩)) ∧ Kept w w' := by
  go_enter Tryz.func41, Tryz.ntmps41
  go_wp2_with fail
  refine (RA.out _).mono ?_; rintro e w1 ⟨rfl, rfl⟩
  go_wp2_with fail
  refine (RB.out _).mono ?_; rintro e w1 ⟨rfl, rfl⟩
  go_wp2_with fail
  refine (RC.out _).mono ?_; rintro e w1 ⟨rfl, rfl⟩
  go_wp2_with fail
  all_goals go_ret
  all_goals refine r1bk ?_ (((Kept.refl w).alloc _ _).alloc _ _)
  all_goals (try simp only [bne_iff_ne, ne_eq, beq_iff_eq, bne_eq_false_iff_eq, beq_eq_false_iff_ne] at *)
  all_goals (rw [Bool.eq_iff_iff]; unfold I.may I.May; simp)
  all_goals (try omega)
end Go.Proofs.YtlmddkciamdldaaGreat

/-
  The contract of rivetref03's May, the other kinds.
-/
namespace Go.Proofs.YtlmddkciamdldaaGreat
open Go.RowKit
set_option linter.unusedVariables false
set_option linter.unusedSimpArgs false
set_option maxRecDepth 100000
set_option maxRecDepth 100000 in
set_option maxHeartbeats 2000000 in
theorem rmay_3 (op a b c i : Int) (u : Bool) (w : World)
    (a0 : 0 ≤ a) (a1 : a ≤ 15) (b0 : 0 ≤ b) (b1 : b ≤ 15) (c0 : 0 ≤ c) (c1 : c ≤ 15)
    (RA : Hid (∀ w, Calls Tryz.prog 59 #[.int .i64 a] w fun e w' => e = .returned (.bool true) ∧ w = w'))
    (RB : Hid (∀ w, Calls Tryz.prog 59 #[.int .i64 b] w fun e w' => e = .returned (.bool true) ∧ w = w'))
    (RC : Hid (∀ w, Calls Tryz.prog 59 #[.int .i64 c] w fun e w' => e = .returned (.bool true) ∧ w = w')) :
    Calls Tryz.prog 41 #[.agg #[.int .i64 3, .int .i64 op, .int .i64 a, .int .i64 b, .int .i64 c, .int .i64 i, .bool u]] w fun e w' => e = .returned (.bool (I.may ⟨3, op, a, b, c, i, u⟩)) ∧ Kept w w' := by
  go_enter Tryz.func41, Tryz.ntmps41
  go_wp2_with fail
  refine (RA.out _).mono ?_; rintro e w1 ⟨rfl, rfl⟩
  go_wp2_with fail
  refine (RB.out _).mono ?_; rintro e w1 ⟨rfl, rfl⟩
  go_wp2_with fail
  refine (RC.out _).mono ?_; rintro e w1 ⟨rfl, rfl⟩
  go_wp2_with fail
  all_goals go_ret
  all_goals refine r1bk ?_ (((Kept.refl w).alloc _ _).alloc _ _)
  all_goals (try simp only [bne_iff_ne, ne_eq, beq_iff_eq, bne_eq_false_iff_eq, beq_eq_false_iff_ne] at *)
  all_goals (rw [Bool.eq_iff_iff]; unfold I.may I.May; simp)
  all_goals (try omega)
set_option maxRecDepth 100000 in
set_option maxHeartbeats 2000000 in
theorem rmay_4 (op a b c i : Int) (u : Bool) (w : World)
    (a0 : 0 ≤ a) (a1 : a ≤ 15) (b0 : 0 ≤ b) (b1 : b ≤ 15) (c0 : 0 ≤ c) (c1 : c ≤ 15)
    (RA : Hid (∀ w, Calls Tryz.prog 59 #[.int .i64 a] w fun e w' => e = .returned (.bool true) ∧ w = w'))
    (RB : Hid (∀ w, Calls Tryz.prog 59 #[.int .i64 b] w fun e w' => e = .returned (.bool true) ∧ w = w'))
    (RC : Hid (∀ w, Calls Tryz.prog 59 #[.int .i64 c] w fun e w' => e = .returned (.bool true) ∧ w = w')) :
    Calls Tryz.prog 41 #[.agg #[.int .i64 4, .int .i64 op, .int .i64 a, .int .i64 b, .int .i64 c, .int .i64 i, .bool u]] w fun e w' => e = .returned (.bool (I.may ⟨4, op, a, b, c, i, u⟩)) ∧ Kept w w' := by
  go_enter Tryz.func41, Tryz.ntmps41
  go_wp2_with fail
  refine (RA.out _).mono ?_; rintro e w1 ⟨rfl, rfl⟩
  go_wp2_with fail
  refine (RB.out _).mono ?_; rintro e w1 ⟨rfl, rfl⟩
  go_wp2_with fail
  refine (RC.out _).mono ?_; rintro e w1 ⟨rfl, rfl⟩
  go_wp2_with fail
  all_goals go_ret
  all_goals refine r1bk ?_ (((Kept.refl w).alloc _ _).alloc _ _)
  all_goals (try simp only [bne_iff_ne, ne_eq, beq_iff_eq, bne_eq_false_iff_eq, beq_eq_false_iff_ne] at *)
  all_goals (rw [Bool.eq_iff_iff]; unfold I.may I.May; simp)
  all_goals (try omega)
set_option maxRecDepth 100000 in
set_option maxHeartbeats 2000000 in
theorem rmay_k (k op a b c i : Int) (u : Bool) (w : World) (h1 : (k == 1) = false) (h2 : (k == 2) = false) (h3 : (k == 3) = false) (h4 : (k == 4) = false) (h5 : (k == 5) = false) (h6 : (k == 6) = false) (h7 : (k == 7) = false)
    (a0 : 0 ≤ a) (a1 : a ≤ 15) (b0 : 0 ≤ b) (b1 : b ≤ 15) (c0 : 0 ≤ c) (c1 : c ≤ 15)
    (RA : Hid (∀ w, Calls Tryz.prog 59 #[.int .i64 a] w fun e w' => e = .returned (.bool true) ∧ w = w'))
    (RB : Hid (∀ w, Calls Tryz.prog 59 #[.int .i64 b] w fun e w' => e = .returned (.bool true) ∧ w = w'))
    (RC : Hid (∀ w, Calls Tryz.prog 59 #[.int .i64 c] w fun e w' => e = .returned (.bool true) ∧ w = w')) :
    Calls Tryz.prog 41 #[.agg #[.int .i64 k, .int .i64 op, .int .i64 a, .int .i64 b, .int .i64 c, .int .i64 i, .bool u]] w fun e w' => e = .returned (.bool (I.may ⟨k, op, a, b, c, i, u⟩)) ∧ Kept w w' := by
  go_enter Tryz.func41, Tryz.ntmps41
  go_wp2_with fail
  refine (RA.out _).mono ?_; rintro e w1 ⟨rfl, rfl⟩
  go_wp2_with fail
  refine (RB.out _).mono ?_; rintro e w1 ⟨rfl, rfl⟩
  go_wp2_with fail
  refine (RC.out _).mono ?_; rintro e w1 ⟨rfl, rfl⟩
  go_wp2_with fail
  all_goals go_ret
  all_goals refine r1bk ?_ (((Kept.refl w).alloc _ _).alloc _ _)
  all_goals (try simp only [beq_eq_false_iff_ne] at *)
  all_goals (refine (decide_eq_false ?_).symm; intro hm; unfold I.May at hm; dsimp only at hm; omega)
set_option maxRecDepth 100000 in
set_option maxHeartbeats 2000000 in
theorem rmay_5f (op a b c i : Int) (w : World)
    (a0 : 0 ≤ a) (a1 : a ≤ 15) (b0 : 0 ≤ b) (b1 : b ≤ 15) (c0 : 0 ≤ c) (c1 : c ≤ 15)
    (RA : Hid (∀ w, Calls Tryz.prog 59 #[.int .i64 a] w fun e w' => e = .returned (.bool true) ∧ w = w'))
    (RB : Hid (∀ w, Calls Tryz.prog 59 #[.int .i64 b] w fun e w' => e = .returned (.bool true) ∧ w = w'))
    (RC : Hid (∀ w, Calls Tryz.prog 59 #[.int .i64 c] w fun e w' => e = .returned (.bool true) ∧ w = w')) :
    Calls Tryz.prog 41 #[.agg #[.int .i64 5, .int .i64 op, .int .i64 a, .int .i64 b, .int .i64 c, .int .i64 i, .bool false]] w fun e w' => e = .returned (.bool (I.may ⟨5, op, a, b, c, i, false⟩)) ∧ Kept w w' := by
  have HF := Lib.hid (fun w => show Calls Tryz.prog 60 #[.int .i64 i, .int .i64 20] w fun e w' => e = .returned (.bool (decide (-524288 ≤ i) && decide (i < 524288))) ∧ w = w' from I.fits20 i ▸ rfits_any i 20 w)
  go_enter Tryz.func41, Tryz.ntmps41
  go_wp2_with fail
  refine (RA.out _).mono ?_; rintro e w1 ⟨rfl, rfl⟩
  go_wp2_with fail
  refine (RB.out _).mono ?_; rintro e w1 ⟨rfl, rfl⟩
  go_wp2_with fail
  refine (RC.out _).mono ?_; rintro e w1 ⟨rfl, rfl⟩
  go_wp2_with fail
  all_goals try (refine (HF.out _).mono ?_; rintro e w1 ⟨rfl, rfl⟩; go_wp2_with fail)
  all_goals go_ret
  all_goals refine r1bk ?_ (((Kept.refl w).alloc _ _).alloc _ _)
  all_goals (try simp only [bne_iff_ne, ne_eq, beq_iff_eq, bne_eq_false_iff_eq, beq_eq_false_iff_ne] at *)
  all_goals (rw [Bool.eq_iff_iff]; unfold I.may I.May; simp)
  all_goals (try omega)
set_option maxRecDepth 100000 in
set_option maxHeartbeats 2000000 in
theorem rmay_5t (op a b c i : Int) (w : World)
    (a0 : 0 ≤ a) (a1 : a ≤ 15) (b0 : 0 ≤ b) (b1 : b ≤ 15) (c0 : 0 ≤ c) (c1 : c ≤ 15)
    (RA : Hid (∀ w, Calls Tryz.prog 59 #[.int .i64 a] w fun e w' => e = .returned (.bool true) ∧ w = w'))
    (RB : Hid (∀ w, Calls Tryz.prog 59 #[.int .i64 b] w fun e w' => e = .returned (.bool true) ∧ w = w'))
    (RC : Hid (∀ w, Calls Tryz.prog 59 #[.int .i64 c] w fun e w' => e = .returned (.bool true) ∧ w = w')) :
    Calls Tryz.prog 41 #[.agg #[.int .i64 5, .int .i64 op, .int .i64 a, .int .i64 b, .int .i64 c, .int .i64 i, .bool true]] w fun e w' => e = .returned (.bool (I.may ⟨5, op, a, b, c, i, true⟩)) ∧ Kept w w' := by
  have HF := Lib.hid (fun w => show Calls Tryz.prog 60 #[.int .i64 i, .int .i64 20] w fun e w' => e = .returned (.bool (decide (-524288 ≤ i) && decide (i < 524288))) ∧ w = w' from I.fits20 i ▸ rfits_any i 20 w)
  go_enter Tryz.func41, Tryz.ntmps41
  go_wp2_with fail
  refine (RA.out _).mono ?_; rintro e w1 ⟨rfl, rfl⟩
  go_wp2_with fail
  refine (RB.out _).mono ?_; rintro e w1 ⟨rfl, rfl⟩
  go_wp2_with fail
  refine (RC.out _).mono ?_; rintro e w1 ⟨rfl, rfl⟩
  go_wp2_with fail
  all_goals try (refine (HF.out _).mono ?_; rintro e w1 ⟨rfl, rfl⟩; go_wp2_with fail)
  all_goals go_ret
  all_goals refine r1bk ?_ (((Kept.refl w).alloc _ _).alloc _ _)
  all_goals (try simp only [bne_iff_ne, ne_eq, beq_iff_eq, bne_eq_false_iff_eq, beq_eq_false_iff_ne] at *)
  all_goals (rw [Bool.eq_iff_iff]; unfold I.may I.May; simp)
  all_goals (try omega)
end Go.Proofs.YtlmddkciamdldaaGreat

/-
  The contract of rivetref03's May, the other kinds.
-/
namespace Go.Proofs.YtlmddkciamdldaaGreat
open Go.RowKit
set_option linter.unusedVariables false
set_option linter.unusedSimpArgs false
set_option maxRecDepth 100000
set_option maxRecDepth 100000 in
set_option maxHeartbeats 2000000 in
theorem rmay_6 (op a b c i : Int) (u : Bool) (w : World)
    (a0 : 0 ≤ a) (a1 : a ≤ 15) (b0 : 0 ≤ b) (b1 : b ≤ 15) (c0 : 0 ≤ c) (c1 : c ≤ 15)
    (RA : Hid (∀ w, Calls Tryz.prog 59 #[.int .i64 a] w fun e w' => e = .returned (.bool true) ∧ w = w'))
    (RB : Hid (∀ w, Calls Tryz.prog 59 #[.int .i64 b] w fun e w' => e = .returned (.bool true) ∧ w = w'))
    (RC : Hid (∀ w, Calls Tryz.prog 59 #[.int .i64 c] w fun e w' => e = .returned (.bool true) ∧ w = w')) :
    Calls Tryz.prog 41 #[.agg #[.int .i64 6, .int .i64 op, .int .i64 a, .int .i64 b, .int .i64 c, .int .i64 i, .bool u]] w fun e w' => e = .returned (.bool (I.may ⟨6, op, a, b, c, i, u⟩)) ∧ Kept w w' := by
  have RO := Lib.hid (fun w => show Calls Tryz.prog 59 #[.int .i64 op] w fun e w' => e = .returned (.bool (decide (0 ≤ op) && decide (op ≤ 15))) ∧ w = w' from rreg_any op w)
  go_enter Tryz.func41, Tryz.ntmps41
  go_wp2_with fail
  refine (RA.out _).mono ?_; rintro e w1 ⟨rfl, rfl⟩
  go_wp2_with fail
  refine (RB.out _).mono ?_; rintro e w1 ⟨rfl, rfl⟩
  go_wp2_with fail
  refine (RC.out _).mono ?_; rintro e w1 ⟨rfl, rfl⟩
  go_wp2_with fail
  all_goals try (first | (refine (RO.out _).mono ?_; rintro e w1 ⟨rfl, rfl⟩; go_wp2_with fail))
  all_goals go_ret
  all_goals refine r1bk ?_ (((Kept.refl w).alloc _ _).alloc _ _)
  all_goals (try simp only [bne_iff_ne, ne_eq, beq_iff_eq, bne_eq_false_iff_eq, beq_eq_false_iff_ne] at *)
  all_goals (rw [Bool.eq_iff_iff]; unfold I.may I.May; simp)
  all_goals (try omega)
set_option maxRecDepth 100000 in
set_option maxHeartbeats 2000000 in
theorem rmay_7 (op a b c i : Int) (u : Bool) (w : World)
    (a0 : 0 ≤ a) (a1 : a ≤ 15) (b0 : 0 ≤ b) (b1 : b ≤ 15) (c0 : 0 ≤ c) (c1 : c ≤ 15)
    (RA : Hid (∀ w, Calls Tryz.prog 59 #[.int .i64 a] w fun e w' => e = .returned (.bool true) ∧ w = w'))
    (RB : Hid (∀ w, Calls Tryz.prog 59 #[.int .i64 b] w fun e w' => e = .returned (.bool true) ∧ w = w'))
    (RC : Hid (∀ w, Calls Tryz.prog 59 #[.int .i64 c] w fun e w' => e = .returned (.bool true) ∧ w = w')) :
    Calls Tryz.prog 41 #[.agg #[.int .i64 7, .int .i64 op, .int .i64 a, .int .i64 b, .int .i64 c, .int .i64 i, .bool u]] w fun e w' => e = .returned (.bool (I.may ⟨7, op, a, b, c, i, u⟩)) ∧ Kept w w' := by
  have RO := Lib.hid (fun w => show Calls Tryz.prog 59 #[.int .i64 op] w fun e w' => e = .returned (.bool (decide (0 ≤ op) && decide (op ≤ 15))) ∧ w = w' from rreg_any op w)
  have HF := Lib.hid (fun w => show Calls Tryz.prog 60 #[.int .i64 i, .int .i64 24] w fun e w' => e = .returned (.bool (decide (-8388608 ≤ i) && decide (i < 8388608))) ∧ w = w' from I.fits24 i ▸ rfits_any i 24 w)
  go_enter Tryz.func41, Tryz.ntmps41
  go_wp2_with fail
  refine (RA.out _).mono ?_; rintro e w1 ⟨rfl, rfl⟩
  go_wp2_with fail
  refine (RB.out _).mono ?_; rintro e w1 ⟨rfl, rfl⟩
  go_wp2_with fail
  refine (RC.out _).mono ?_; rintro e w1 ⟨rfl, rfl⟩
  go_wp2_with fail
  all_goals try (first | (refine (RO.out _).mono ?_; rintro e w1 ⟨rfl, rfl⟩; go_wp2_with fail))
  all_goals try (refine (HF.out _).mono ?_; rintro e w1 ⟨rfl, rfl⟩; go_wp2_with fail)
  all_goals go_ret
  all_goals refine r1bk ?_ (((Kept.refl w).alloc _ _).alloc _ _)
  all_goals (try simp only [bne_iff_ne, ne_eq, beq_iff_eq, bne_eq_false_iff_eq, beq_eq_false_iff_ne] at *)
  all_goals (rw [Bool.eq_iff_iff]; unfold I.may I.May; simp)
  all_goals (try omega)
end Go.Proofs.YtlmddkciamdldaaGreat

/-
  The document's examples; Encode and Decode by the letters of what they answer.
-/
namespace Go.Proofs.YtlmddkciamdldaaGreat
open Go.RowKit
set_option linter.unusedVariables false
set_option linter.unusedSimpArgs false
set_option maxRecDepth 100000
end Go.Proofs.YtlmddkciamdldaaGreat

/-
  The law IsaBits: which words are none.
-/
namespace Go.Proofs.YtlmddkciamdldaaGreat
open Go.RowKit
set_option linter.unusedVariables false
set_option linter.unusedSimpArgs false
set_option maxRecDepth 100000
namespace I
end I
end Go.Proofs.YtlmddkciamdldaaGreat

/-
  The law IsaFree: each word that moves something between a register and the memory, and each one that branches by a number, is an instruction.
-/
namespace Go.Proofs.YtlmddkciamdldaaGreat
open Go.RowKit
set_option linter.unusedVariables false
set_option linter.unusedSimpArgs false
set_option maxRecDepth 100000
namespace I
theorem and_mask (x : Int) (hx : U32 x) (n : Nat) (M : Int) (hn : n ≤ 32) (hM : M = ((2 ^ n - 1 : Nat) : Int)) : bits .and .u32 x M = x % ((2 ^ n : Nat) : Int) := by
  obtain ⟨W, rfl⟩ := Int.eq_ofNat_of_zero_le hx.1
  have hW : W < 4294967296 := by have := hx.2; omega
  have hp : 2 ^ n ≤ 4294967296 := F.pow_le32 n hn
  have hq : 1 ≤ 2 ^ n := Nat.one_le_two_pow
  subst hM
  rw [u32_and_nat _ _ hW (by omega), Nat.and_two_pow_sub_one_eq_mod]
  omega
end I
end Go.Proofs.YtlmddkciamdldaaGreat
