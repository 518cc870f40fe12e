/-
  The contract of Decode.
-/
import Derived.Test.YtliofphhoaopkaaIsa7
import Derived.Test.YtliofphhoaopkaaIsa8
namespace Go.Proofs.Ytliofphhoaopkaa
open Go.RowKit
set_option linter.unusedVariables false
set_option linter.unusedSimpArgs false
theorem readReg_any (x : Int) (hx : U32 x) (h0 : x / 1073741824 = 0) (w : World) :
    Calls Try.prog 36 #[.int .u32 x] w fun e w' => e = .returned (.agg #[.int .i64 (I.guess x).k, .int .i64 (I.guess x).op, .int .i64 (I.guess x).a, .int .i64 (I.guess x).b, .int .i64 (I.guess x).c, .int .i64 (I.guess x).i, .bool (I.guess x).u]) ∧ Kept w w' := by
  have Cop := iget_lit x hx 16 4 65536 16 (by omega) (by omega) (by omega) (by omega) rfl rfl (by omega) (by omega)
  have Ca := iget_lit x hx 24 4 16777216 16 (by omega) (by omega) (by omega) (by omega) rfl rfl (by omega) (by omega)
  have Cb := iget_lit x hx 20 4 1048576 16 (by omega) (by omega) (by omega) (by omega) rfl rfl (by omega) (by omega)
  have Cc := iget_lit x hx 0 4 1 16 (by omega) (by omega) (by omega) (by omega) rfl rfl (by omega) (by omega)
  have Cu := isSet_lit x hx 29 536870912 (by omega) (by omega) rfl
  have Cv := isSet_lit x hx 28 268435456 (by omega) (by omega) rfl
  rw [Int.ediv_one] at Cc
  by_cases hz : x / 65536 % 16 = 0
  · rw [hz] at Cop
    by_cases hu : x / 536870912 % 2 = 1
    · rw [decide_eq_true hu] at Cu
      by_cases hv : x / 268435456 % 2 = 1
      · rw [decide_eq_true hv] at Cv
        have e : I.guess x = ⟨4, 0, x / 16777216 % 16, 0, 0, 0, false⟩ := by unfold I.guess; rw [if_pos h0, if_pos ⟨hu, hz⟩, if_pos hv]
        rw [e]
        exact readReg_4 x _ _ _ w (Lib.hid Cop) (Lib.hid Ca) (Lib.hid Cb) (Lib.hid Cc) (Lib.hid Cu) (Lib.hid Cv)
      · rw [decide_eq_false hv] at Cv
        have e : I.guess x = ⟨3, 0, x / 16777216 % 16, 0, 0, 0, false⟩ := by unfold I.guess; rw [if_pos h0, if_pos ⟨hu, hz⟩, if_neg hv]
        rw [e]
        exact readReg_3 x _ _ _ w (Lib.hid Cop) (Lib.hid Ca) (Lib.hid Cb) (Lib.hid Cc) (Lib.hid Cu) (Lib.hid Cv)
    · rw [decide_eq_false hu] at Cu
      have e : I.guess x = ⟨1, 0, x / 16777216 % 16, x / 1048576 % 16, x % 16, 0, false⟩ := by unfold I.guess; rw [if_pos h0, if_neg (fun h => hu h.1), hz, decide_eq_false hu]
      rw [e]
      exact readReg_2 x _ _ _ w (Lib.hid Cop) (Lib.hid Ca) (Lib.hid Cb) (Lib.hid Cc) (Lib.hid Cu)
  · have e : I.guess x = ⟨1, x / 65536 % 16, x / 16777216 % 16, x / 1048576 % 16, x % 16, 0, decide (x / 536870912 % 2 = 1)⟩ := by unfold I.guess; rw [if_pos h0, if_neg (fun h => hz h.2)]
    rw [e]
    exact readReg_1 x _ _ _ _ _ w hz (Lib.hid Cop) (Lib.hid Ca) (Lib.hid Cb) (Lib.hid Cc) (Lib.hid Cu)
theorem read_any (x : Int) (hx : U32 x) (w : World) :
    Calls Try.prog 23 #[.int .u32 x] w fun e w' => e = .returned (.agg #[.int .i64 (I.guess x).k, .int .i64 (I.guess x).op, .int .i64 (I.guess x).a, .int .i64 (I.guess x).b, .int .i64 (I.guess x).c, .int .i64 (I.guess x).i, .bool (I.guess x).u]) ∧ Kept w w' := by
  have C0 := get_lit x hx 30 2 1073741824 4 (by omega) (by omega) (by omega) (by omega) rfl rfl
  have Ca := iget_lit x hx 24 4 16777216 16 (by omega) (by omega) (by omega) (by omega) rfl rfl (by omega) (by omega)
  have Cb := iget_lit x hx 20 4 1048576 16 (by omega) (by omega) (by omega) (by omega) rfl rfl (by omega) (by omega)
  have Cu := isSet_lit x hx 29 536870912 (by omega) (by omega) rfl
  have Cv := isSet_lit x hx 28 268435456 (by omega) (by omega) rfl
  have hf : x / 1073741824 = 0 ∨ x / 1073741824 = 1 ∨ x / 1073741824 = 2 ∨ x / 1073741824 = 3 := by have := hx.1; have := hx.2; omega
  rcases hf with h | h | h | h
  · rw [h] at C0
    exact read_0 x _ _ _ _ _ _ _ w (Lib.hid C0) (Lib.hid (readReg_any x hx h))
  · rw [h] at C0
    have Cop := iget_lit x hx 16 4 65536 16 (by omega) (by omega) (by omega) (by omega) rfl rfl (by omega) (by omega)
    have e : I.guess x = ⟨2, x / 65536 % 16, x / 16777216 % 16, x / 1048576 % 16, 0, if x / 268435456 % 2 = 1 then x % 65536 - 65536 else x % 65536, decide (x / 536870912 % 2 = 1)⟩ := by unfold I.guess; rw [if_neg (by omega), if_pos h]
    rw [e]
    exact read_1 x _ _ _ _ _ w (Lib.hid C0) (Lib.hid Cop) (Lib.hid Ca) (Lib.hid Cb) (Lib.hid (readImm_any x hx)) (Lib.hid Cu)
  · rw [h] at C0
    have Cop := iget_lit x hx 28 2 268435456 4 (by omega) (by omega) (by omega) (by omega) rfl rfl (by omega) (by omega)
    have e : I.guess x = ⟨5, x / 268435456 % 4, x / 16777216 % 16, x / 1048576 % 16, 0, I.sx 524288 (x % 1048576), false⟩ := by unfold I.guess; rw [if_neg (by omega), if_neg (by omega), if_pos h]
    rw [e]
    exact read_2 x _ _ _ _ w (Lib.hid C0) (Lib.hid Cop) (Lib.hid Ca) (Lib.hid Cb) (Lib.hid (sgn_lit x hx 20 _ (I.sx20 x)))
  · rw [h] at C0
    by_cases hu : x / 536870912 % 2 = 1
    · rw [decide_eq_true hu] at Cu
      have e : I.guess x = ⟨7, x / 16777216 % 16, 0, 0, 0, I.sx 8388608 (x % 16777216), decide (x / 268435456 % 2 = 1)⟩ := by unfold I.guess; rw [if_neg (by omega), if_neg (by omega), if_neg (by omega), if_pos hu]
      rw [e]
      exact read_3j x _ _ _ w (Lib.hid C0) (Lib.hid Cu) (Lib.hid Ca) (Lib.hid (sgn_lit x hx 24 _ (I.sx24 x))) (Lib.hid Cv)
    · rw [decide_eq_false hu] at Cu
      have Cc := iget_lit x hx 0 4 1 16 (by omega) (by omega) (by omega) (by omega) rfl rfl (by omega) (by omega)
      rw [Int.ediv_one] at Cc
      have e : I.guess x = ⟨6, x / 16777216 % 16, 0, 0, x % 16, 0, decide (x / 268435456 % 2 = 1)⟩ := by unfold I.guess; rw [if_neg (by omega), if_neg (by omega), if_neg (by omega), if_neg hu]
      rw [e]
      exact read_3b x _ _ _ w (Lib.hid C0) (Lib.hid Cu) (Lib.hid Ca) (Lib.hid Cc) (Lib.hid Cv)
set_option maxHeartbeats 2000000 in
theorem dec_1 (x k op a b c i : Int) (u : Bool) (w : World)
    (CR : Hid (∀ w, Calls Try.prog 23 #[.int .u32 x] w fun e w' => e = .returned (.agg #[.int .i64 k, .int .i64 op, .int .i64 a, .int .i64 b, .int .i64 c, .int .i64 i, .bool u]) ∧ Kept w w'))
    (CE : Hid (∀ w, Calls Try.prog 12 #[.agg #[.int .i64 k, .int .i64 op, .int .i64 a, .int .i64 b, .int .i64 c, .int .i64 i, .bool u]] w fun e w' => e = .returned (.tuple #[.int .u32 0, .int .i64 1]) ∧ Kept w w')) :
    Calls Try.prog 14 #[.int .u32 x] w fun e w' => e = .returned (.tuple #[.agg #[.int .i64 0, .int .i64 0, .int .i64 0, .int .i64 0, .int .i64 0, .int .i64 0, .bool false], .bool false]) ∧ Kept w w' := by
  have X1 := Lib.hid (Box.new 0 0 0 0 0 0 false w)
  have HB := Lib.hid (show Kept w (w.alloc (.cells #[.int .i64 0, .int .i64 0, .int .i64 0, .int .i64 0, .int .i64 0, .int .i64 0, .bool false] 23)) from (Kept.refl w).alloc _ _)
  have HL := Lib.hid (show w.heap.size < (w.alloc (.cells #[.int .i64 0, .int .i64 0, .int .i64 0, .int .i64 0, .int .i64 0, .int .i64 0, .bool false] 23)).heap.size from by simp)
  go_enter Try.func14, Try.ntmps14
  go_wp2_with fail
  refine (CR.out _).mono ?_; rintro e w5 ⟨rfl, hK1⟩
  have HK := Lib.hid hK1
  have HN := Lib.hid (show w.heap.size ≠ w5.heap.size from by have := HK.out.size; have := HL.out; omega)
  clear hK1
  go_upto_region 2 with (fail)
  have XI := Box.new k op a b c i u w5
  have XZ := (X1.out.kept HK.out).alloc (.cells #[.int .i64 k, .int .i64 op, .int .i64 a, .int .i64 b, .int .i64 c, .int .i64 i, .bool u] 23)
  have KK := (HB.out.trans HK.out).alloc #[.int .i64 k, .int .i64 op, .int .i64 a, .int .i64 b, .int .i64 c, .int .i64 i, .bool u] 23
  generalize (w5.alloc (.cells #[.int .i64 k, .int .i64 op, .int .i64 a, .int .i64 b, .int .i64 c, .int .i64 i, .bool u] 23)) = w6 at XI XZ KK ⊢
  generalize w5.heap.size = B2 at HN XI ⊢
  have HI := Lib.hid XI
  have HZ := Lib.hid XZ
  have HKK := Lib.hid KK
  clear HK X1 HB HL XI XZ KK
  obtain ⟨i0, i1, i2, i3, i4, i5, i6⟩ := HI.out.cells
  go_wp2_with fail
  refine (CE.out _).mono ?_; rintro e w7 ⟨rfl, hK6⟩
  clear i0 i1 i2 i3 i4 i5 i6
  obtain ⟨i0, i1, i2, i3, i4, i5, i6⟩ := (HI.out.kept hK6).cells
  obtain ⟨z0, z1, z2, z3, z4, z5, z6⟩ := (HZ.out.kept hK6).cells
  obtain ⟨f0, f1, f2, f3, f4, f5, f6⟩ := (HZ.out.kept hK6).free
  have R := Lib.hid ((HZ.out.kept hK6).stored (k' := 0) (op' := 0) (a' := 0) (b' := 0) (c' := 0) (i' := 0) (u' := false))
  have RK := Lib.hid ((HKK.out.trans hK6).store7 (B' := w.heap.size) (by omega) (0) (0) (0) (0) (0) (0) (false))
  go_wp2_with fail
  clear z0 z1 z2 z3 z4 z5 z6 f0 f1 f2 f3 f4 f5 f6
  have R := R.out
  have RK := RK.out
  unfold store7 at R RK
  generalize (((((((w7.setCell ⟨w.heap.size, 0, none⟩ (.int .i64 (0))).setCell ⟨w.heap.size, 1, none⟩ (.int .i64 (0))).setCell ⟨w.heap.size, 2, none⟩ (.int .i64 (0))).setCell ⟨w.heap.size, 3, none⟩ (.int .i64 (0))).setCell ⟨w.heap.size, 4, none⟩ (.int .i64 (0))).setCell ⟨w.heap.size, 5, none⟩ (.int .i64 (0))).setCell ⟨w.heap.size, 6, none⟩ (.bool (false))) = w9 at R RK ⊢
  obtain ⟨r0, r1, r2, r3, r4, r5, r6⟩ := R.cells
  exact bodyPost_ret (v := .tuple #[.agg #[.int .i64 0, .int .i64 0, .int .i64 0, .int .i64 0, .int .i64 0, .int .i64 0, .bool false], .bool false]) (by simp [results, Try.results14, go_sem, r0, r1, r2, r3, r4, r5, r6]) rfl ⟨rfl, RK⟩
set_option maxHeartbeats 2000000 in
theorem dec_2 (x k op a b c i own : Int) (u : Bool) (hne : ¬ own = x) (hn1 : (own == x) = false) (hn2 : (own != x) = true) (w : World)
    (CR : Hid (∀ w, Calls Try.prog 23 #[.int .u32 x] w fun e w' => e = .returned (.agg #[.int .i64 k, .int .i64 op, .int .i64 a, .int .i64 b, .int .i64 c, .int .i64 i, .bool u]) ∧ Kept w w'))
    (CE : Hid (∀ w, Calls Try.prog 12 #[.agg #[.int .i64 k, .int .i64 op, .int .i64 a, .int .i64 b, .int .i64 c, .int .i64 i, .bool u]] w fun e w' => e = .returned (.tuple #[.int .u32 own, .int .i64 0]) ∧ Kept w w')) :
    Calls Try.prog 14 #[.int .u32 x] w fun e w' => e = .returned (.tuple #[.agg #[.int .i64 0, .int .i64 0, .int .i64 0, .int .i64 0, .int .i64 0, .int .i64 0, .bool false], .bool false]) ∧ Kept w w' := by
  have X1 := Lib.hid (Box.new 0 0 0 0 0 0 false w)
  have HB := Lib.hid (show Kept w (w.alloc (.cells #[.int .i64 0, .int .i64 0, .int .i64 0, .int .i64 0, .int .i64 0, .int .i64 0, .bool false] 23)) from (Kept.refl w).alloc _ _)
  have HL := Lib.hid (show w.heap.size < (w.alloc (.cells #[.int .i64 0, .int .i64 0, .int .i64 0, .int .i64 0, .int .i64 0, .int .i64 0, .bool false] 23)).heap.size from by simp)
  go_enter Try.func14, Try.ntmps14
  go_wp2_with fail
  refine (CR.out _).mono ?_; rintro e w5 ⟨rfl, hK1⟩
  have HK := Lib.hid hK1
  have HN := Lib.hid (show w.heap.size ≠ w5.heap.size from by have := HK.out.size; have := HL.out; omega)
  clear hK1
  go_upto_region 2 with (fail)
  have XI := Box.new k op a b c i u w5
  have XZ := (X1.out.kept HK.out).alloc (.cells #[.int .i64 k, .int .i64 op, .int .i64 a, .int .i64 b, .int .i64 c, .int .i64 i, .bool u] 23)
  have KK := (HB.out.trans HK.out).alloc #[.int .i64 k, .int .i64 op, .int .i64 a, .int .i64 b, .int .i64 c, .int .i64 i, .bool u] 23
  generalize (w5.alloc (.cells #[.int .i64 k, .int .i64 op, .int .i64 a, .int .i64 b, .int .i64 c, .int .i64 i, .bool u] 23)) = w6 at XI XZ KK ⊢
  generalize w5.heap.size = B2 at HN XI ⊢
  have HI := Lib.hid XI
  have HZ := Lib.hid XZ
  have HKK := Lib.hid KK
  clear HK X1 HB HL XI XZ KK
  obtain ⟨i0, i1, i2, i3, i4, i5, i6⟩ := HI.out.cells
  go_wp2_with fail
  refine (CE.out _).mono ?_; rintro e w7 ⟨rfl, hK6⟩
  clear i0 i1 i2 i3 i4 i5 i6
  obtain ⟨i0, i1, i2, i3, i4, i5, i6⟩ := (HI.out.kept hK6).cells
  obtain ⟨z0, z1, z2, z3, z4, z5, z6⟩ := (HZ.out.kept hK6).cells
  obtain ⟨f0, f1, f2, f3, f4, f5, f6⟩ := (HZ.out.kept hK6).free
  have R := Lib.hid ((HZ.out.kept hK6).stored (k' := 0) (op' := 0) (a' := 0) (b' := 0) (c' := 0) (i' := 0) (u' := false))
  have RK := Lib.hid ((HKK.out.trans hK6).store7 (B' := w.heap.size) (by omega) (0) (0) (0) (0) (0) (0) (false))
  go_wp2_with fail
  clear z0 z1 z2 z3 z4 z5 z6 f0 f1 f2 f3 f4 f5 f6
  have R := R.out
  have RK := RK.out
  unfold store7 at R RK
  generalize (((((((w7.setCell ⟨w.heap.size, 0, none⟩ (.int .i64 (0))).setCell ⟨w.heap.size, 1, none⟩ (.int .i64 (0))).setCell ⟨w.heap.size, 2, none⟩ (.int .i64 (0))).setCell ⟨w.heap.size, 3, none⟩ (.int .i64 (0))).setCell ⟨w.heap.size, 4, none⟩ (.int .i64 (0))).setCell ⟨w.heap.size, 5, none⟩ (.int .i64 (0))).setCell ⟨w.heap.size, 6, none⟩ (.bool (false))) = w9 at R RK ⊢
  obtain ⟨r0, r1, r2, r3, r4, r5, r6⟩ := R.cells
  exact bodyPost_ret (v := .tuple #[.agg #[.int .i64 0, .int .i64 0, .int .i64 0, .int .i64 0, .int .i64 0, .int .i64 0, .bool false], .bool false]) (by simp [results, Try.results14, go_sem, r0, r1, r2, r3, r4, r5, r6]) rfl ⟨rfl, RK⟩
set_option maxHeartbeats 2000000 in
theorem dec_3 (x k op a b c i : Int) (u : Bool) (w : World)
    (CR : Hid (∀ w, Calls Try.prog 23 #[.int .u32 x] w fun e w' => e = .returned (.agg #[.int .i64 k, .int .i64 op, .int .i64 a, .int .i64 b, .int .i64 c, .int .i64 i, .bool u]) ∧ Kept w w'))
    (CE : Hid (∀ w, Calls Try.prog 12 #[.agg #[.int .i64 k, .int .i64 op, .int .i64 a, .int .i64 b, .int .i64 c, .int .i64 i, .bool u]] w fun e w' => e = .returned (.tuple #[.int .u32 x, .int .i64 0]) ∧ Kept w w')) :
    Calls Try.prog 14 #[.int .u32 x] w fun e w' => e = .returned (.tuple #[.agg #[.int .i64 k, .int .i64 op, .int .i64 a, .int .i64 b, .int .i64 c, .int .i64 i, .bool u], .bool true]) ∧ Kept w w' := by
  have X1 := Lib.hid (Box.new 0 0 0 0 0 0 false w)
  have HB := Lib.hid (show Kept w (w.alloc (.cells #[.int .i64 0, .int .i64 0, .int .i64 0, .int .i64 0, .int .i64 0, .int .i64 0, .bool false] 23)) from (Kept.refl w).alloc _ _)
  have HL := Lib.hid (show w.heap.size < (w.alloc (.cells #[.int .i64 0, .int .i64 0, .int .i64 0, .int .i64 0, .int .i64 0, .int .i64 0, .bool false] 23)).heap.size from by simp)
  go_enter Try.func14, Try.ntmps14
  go_wp2_with fail
  refine (CR.out _).mono ?_; rintro e w5 ⟨rfl, hK1⟩
  have HK := Lib.hid hK1
  have HN := Lib.hid (show w.heap.size ≠ w5.heap.size from by have := HK.out.size; have := HL.out; omega)
  clear hK1
  go_upto_region 2 with (fail)
  have XI := Box.new k op a b c i u w5
  have XZ := (X1.out.kept HK.out).alloc (.cells #[.int .i64 k, .int .i64 op, .int .i64 a, .int .i64 b, .int .i64 c, .int .i64 i, .bool u] 23)
  have KK := (HB.out.trans HK.out).alloc #[.int .i64 k, .int .i64 op, .int .i64 a, .int .i64 b, .int .i64 c, .int .i64 i, .bool u] 23
  generalize (w5.alloc (.cells #[.int .i64 k, .int .i64 op, .int .i64 a, .int .i64 b, .int .i64 c, .int .i64 i, .bool u] 23)) = w6 at XI XZ KK ⊢
  generalize w5.heap.size = B2 at HN XI ⊢
  have HI := Lib.hid XI
  have HZ := Lib.hid XZ
  have HKK := Lib.hid KK
  clear HK X1 HB HL XI XZ KK
  obtain ⟨i0, i1, i2, i3, i4, i5, i6⟩ := HI.out.cells
  go_wp2_with fail
  refine (CE.out _).mono ?_; rintro e w7 ⟨rfl, hK6⟩
  clear i0 i1 i2 i3 i4 i5 i6
  obtain ⟨i0, i1, i2, i3, i4, i5, i6⟩ := (HI.out.kept hK6).cells
  obtain ⟨z0, z1, z2, z3, z4, z5, z6⟩ := (HZ.out.kept hK6).cells
  obtain ⟨f0, f1, f2, f3, f4, f5, f6⟩ := (HZ.out.kept hK6).free
  have R := Lib.hid ((HZ.out.kept hK6).stored (k' := k) (op' := op) (a' := a) (b' := b) (c' := c) (i' := i) (u' := u))
  have RK := Lib.hid ((HKK.out.trans hK6).store7 (B' := w.heap.size) (by omega) (k) (op) (a) (b) (c) (i) (u))
  go_wp2_with fail
  clear z0 z1 z2 z3 z4 z5 z6 f0 f1 f2 f3 f4 f5 f6
  have R := R.out
  have RK := RK.out
  unfold store7 at R RK
  generalize (((((((w7.setCell ⟨w.heap.size, 0, none⟩ (.int .i64 (k))).setCell ⟨w.heap.size, 1, none⟩ (.int .i64 (op))).setCell ⟨w.heap.size, 2, none⟩ (.int .i64 (a))).setCell ⟨w.heap.size, 3, none⟩ (.int .i64 (b))).setCell ⟨w.heap.size, 4, none⟩ (.int .i64 (c))).setCell ⟨w.heap.size, 5, none⟩ (.int .i64 (i))).setCell ⟨w.heap.size, 6, none⟩ (.bool (u))) = w9 at R RK ⊢
  obtain ⟨r0, r1, r2, r3, r4, r5, r6⟩ := R.cells
  exact bodyPost_ret (v := .tuple #[.agg #[.int .i64 k, .int .i64 op, .int .i64 a, .int .i64 b, .int .i64 c, .int .i64 i, .bool u], .bool true]) (by simp [results, Try.results14, go_sem, r0, r1, r2, r3, r4, r5, r6]) rfl ⟨rfl, RK⟩
theorem dec_any (x : Int) (hx : U32 x) (w : World) :
    Calls Try.prog 14 #[.int .u32 x] w fun e w' => e = .returned (.tuple #[.agg #[.int .i64 (I.dec x).k, .int .i64 (I.dec x).op, .int .i64 (I.dec x).a, .int .i64 (I.dec x).b, .int .i64 (I.dec x).c, .int .i64 (I.dec x).i, .bool (I.dec x).u], .bool (I.is x)]) ∧ Kept w w' := by
  have CR := read_any x hx
  have CE := enc_any (I.guess x).k (I.guess x).op (I.guess x).a (I.guess x).b (I.guess x).c (I.guess x).i (I.guess x).u
  by_cases hm : I.may (I.guess x) = true
  · have e1 : I.err (I.guess x) = 0 := by simp [I.err, hm]
    have e2 : I.enc (I.guess x) = I.word (I.guess x) := by simp [I.enc, hm]
    have CE : ∀ w, Calls Try.prog 12 #[.agg #[.int .i64 (I.guess x).k, .int .i64 (I.guess x).op, .int .i64 (I.guess x).a, .int .i64 (I.guess x).b, .int .i64 (I.guess x).c, .int .i64 (I.guess x).i, .bool (I.guess x).u]] w fun e w' => e = .returned (.tuple #[.int .u32 (I.enc (I.guess x)), .int .i64 (I.err (I.guess x))]) ∧ Kept w w' := CE
    rw [e1, e2] at CE
    by_cases ho : I.word (I.guess x) = x
    · have e3 : I.is x = true := by simp [I.is, hm, ho]
      rw [ho] at CE
      rw [show I.dec x = I.guess x by simp [I.dec, e3], e3]
      exact dec_3 x _ _ _ _ _ _ _ w (Lib.hid CR) (Lib.hid CE)
    · have e3 : I.is x = false := by simp [I.is, ho]
      rw [show I.dec x = ⟨0, 0, 0, 0, 0, 0, false⟩ by simp [I.dec, e3], e3]
      exact dec_2 x _ _ _ _ _ _ _ _ ho (by simpa using ho) (by simpa using ho) w (Lib.hid CR) (Lib.hid CE)
  · have hm : I.may (I.guess x) = false := by simpa using hm
    have e1 : I.err (I.guess x) = 1 := by simp [I.err, hm]
    have e2 : I.enc (I.guess x) = 0 := by simp [I.enc, hm]
    have CE : ∀ w, Calls Try.prog 12 #[.agg #[.int .i64 (I.guess x).k, .int .i64 (I.guess x).op, .int .i64 (I.guess x).a, .int .i64 (I.guess x).b, .int .i64 (I.guess x).c, .int .i64 (I.guess x).i, .bool (I.guess x).u]] w fun e w' => e = .returned (.tuple #[.int .u32 (I.enc (I.guess x)), .int .i64 (I.err (I.guess x))]) ∧ Kept w w' := CE
    rw [e1, e2] at CE
    have e3 : I.is x = false := by simp [I.is, hm]
    rw [show I.dec x = ⟨0, 0, 0, 0, 0, 0, false⟩ by simp [I.dec, e3], e3]
    exact dec_1 x _ _ _ _ _ _ _ w (Lib.hid CR) (Lib.hid CE)
end Go.Proofs.Ytliofphhoaopkaa
