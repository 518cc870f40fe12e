import Derived.ChangeKeysEq
import Derived.Test.YtlmddkciamdldaaGreatPd
/-
  The contract of rivetref03's Encode.
-/
namespace Go.Proofs.YtlmddkciamdldaaGreat
open Go.RowKit
set_option linter.unusedVariables false
set_option linter.unusedSimpArgs false
set_option maxRecDepth 100000
theorem rmay_any (k op a b c i : Int) (u : Bool) (w : World) :
    Calls Tryz.prog 41 #[.agg #[.int .i64 k, .int .i64 op, .int .i64 a, .int .i64 b, .int .i64 c, .int .i64 i, .bool u]] w fun e w' => e = .returned (.bool (I.may ⟨k, op, a, b, c, i, u⟩)) ∧ Kept w w' := by
  have RA := rreg_any a
  have RB := rreg_any b
  have RC := rreg_any c
  by_cases ha : 0 ≤ a ∧ a ≤ 15
  · rw [show I.reg a = true by unfold I.reg; rw [decide_eq_true ha.1, decide_eq_true ha.2]; rfl] at RA
    by_cases hb : 0 ≤ b ∧ b ≤ 15
    · rw [show I.reg b = true by unfold I.reg; rw [decide_eq_true hb.1, decide_eq_true hb.2]; rfl] at RB
      by_cases hc : 0 ≤ c ∧ c ≤ 15
      · rw [show I.reg c = true by unfold I.reg; rw [decide_eq_true hc.1, decide_eq_true hc.2]; rfl] at RC
        rcases I.kinds k with rfl | rfl | rfl | rfl | rfl | rfl | rfl | ⟨h1, h2, h3, h4, h5, h6, h7⟩
        · cases u
          · exact rmay_1f op a b c i w ha.1 ha.2 hb.1 hb.2 hc.1 hc.2 (Lib.hid RA) (Lib.hid RB) (Lib.hid RC)
          · exact rmay_1t op a b c i w ha.1 ha.2 hb.1 hb.2 hc.1 hc.2 (Lib.hid RA) (Lib.hid RB) (Lib.hid RC)
        · cases u
          · exact rmay_2f op a b c i w ha.1 ha.2 hb.1 hb.2 hc.1 hc.2 (Lib.hid RA) (Lib.hid RB) (Lib.hid RC)
          · exact rmay_2t op a b c i w ha.1 ha.2 hb.1 hb.2 hc.1 hc.2 (Lib.hid RA) (Lib.hid RB) (Lib.hid RC)
        · exact rmay_3 op a b c i u w ha.1 ha.2 hb.1 hb.2 hc.1 hc.2 (Lib.hid RA) (Lib.hid RB) (Lib.hid RC)
        · exact rmay_4 op a b c i u w ha.1 ha.2 hb.1 hb.2 hc.1 hc.2 (Lib.hid RA) (Lib.hid RB) (Lib.hid RC)
        · cases u
          · exact rmay_5f op a b c i w ha.1 ha.2 hb.1 hb.2 hc.1 hc.2 (Lib.hid RA) (Lib.hid RB) (Lib.hid RC)
          · exact rmay_5t op a b c i w ha.1 ha.2 hb.1 hb.2 hc.1 hc.2 (Lib.hid RA) (Lib.hid RB) (Lib.hid RC)
        · exact rmay_6 op a b c i u w ha.1 ha.2 hb.1 hb.2 hc.1 hc.2 (Lib.hid RA) (Lib.hid RB) (Lib.hid RC)
        · exact rmay_7 op a b c i u w ha.1 ha.2 hb.1 hb.2 hc.1 hc.2 (Lib.hid RA) (Lib.hid RB) (Lib.hid RC)
        · exact rmay_k k op a b c i u w h1 h2 h3 h4 h5 h6 h7 ha.1 ha.2 hb.1 hb.2 hc.1 hc.2 (Lib.hid RA) (Lib.hid RB) (Lib.hid RC)
      · rw [show I.reg c = false by unfold I.reg; rw [Bool.and_eq_false_iff, decide_eq_false_iff_not, decide_eq_false_iff_not]; omega] at RC
        rw [show I.may ⟨k, op, a, b, c, i, u⟩ = false from decide_eq_false (fun h => hc ⟨h.1.2.2.2.2.1, h.1.2.2.2.2.2⟩)]
        exact rmay_r2 k op a b c i u w (Lib.hid RA) (Lib.hid RB) (Lib.hid RC)
    · rw [show I.reg b = false by unfold I.reg; rw [Bool.and_eq_false_iff, decide_eq_false_iff_not, decide_eq_false_iff_not]; omega] at RB
      rw [show I.may ⟨k, op, a, b, c, i, u⟩ = false from decide_eq_false (fun h => hb ⟨h.1.2.2.1, h.1.2.2.2.1⟩)]
      exact rmay_r1 k op a b c i u w (Lib.hid RA) (Lib.hid RB)
  · rw [show I.reg a = false by unfold I.reg; rw [Bool.and_eq_false_iff, decide_eq_false_iff_not, decide_eq_false_iff_not]; omega] at RA
    rw [show I.may ⟨k, op, a, b, c, i, u⟩ = false from decide_eq_false (fun h => ha ⟨h.1.1, h.1.2.1⟩)]
    exact rmay_r0 k op a b c i u w (Lib.hid RA)
set_option maxRecDepth 100000 in
set_option maxHeartbeats 2000000 in
theorem renc_1 (op a b c i B r : Int) (u : Bool) (w : World) (B0 : 0 ≤ B) (B1 : B ≤ 1)
    (a0 : 0 ≤ a) (a1 : a ≤ 15) (b0 : 0 ≤ b) (b1 : b ≤ 15) (c0 : 0 ≤ c) (c1 : c ≤ 15) (o0 : 0 ≤ op) (o1 : op ≤ 15)
    (HM : Hid (∀ w, Calls Tryz.prog 41 #[.agg #[.int .i64 1, .int .i64 op, .int .i64 a, .int .i64 b, .int .i64 c, .int .i64 i, .bool u]] w fun e w' => e = .returned (.bool true) ∧ Kept w w'))
    (HO : Hid (∀ w, Calls Tryz.prog 42 #[.bool u] w fun e w' => e = .returned (.int .u32 B) ∧ w = w')) (HR : Hid (bits .or .u32 (bits .or .u32 (bits .or .u32 (bits .or .u32 (B * 536870912) (a * 16777216)) (b * 1048576)) (op * 65536)) (c) = r)) :
    Calls Tryz.prog 27 #[.agg #[.int .i64 1, .int .i64 op, .int .i64 a, .int .i64 b, .int .i64 c, .int .i64 i, .bool u]] w fun e w' => e = .returned (.tuple #[.int .u32 r, .int .i64 0]) ∧ Kept w w' := by
  have X0 := Lib.hid (Box.new 1 op a b c i u w)
  have H0 := Lib.hid (show Kept w (w.alloc (.cells #[.int .i64 1, .int .i64 op, .int .i64 a, .int .i64 b, .int .i64 c, .int .i64 i, .bool u] 57)) from (Kept.refl w).alloc _ _)
  go_enter Tryz.func27, Tryz.ntmps27
  go_wp2_with fail
  refine (HM.out _).mono ?_; rintro e w1 ⟨rfl, hK1⟩
  obtain ⟨j0, j1, j2, j3, j4, j5, j6⟩ := (X0.out.kept hK1).cells
  replace H0 := Lib.hid (H0.out.trans hK1)
  replace X0 := Lib.hid (X0.out.kept hK1)
  clear hK1
  go_wp2_with fail
  refine (HO.out _).mono ?_; rintro e w2 ⟨rfl, rfl⟩
  go_wp2_with fail
  have hR := HR.out
  simp only [hR]
  exact bodyPost_ret (v := .tuple #[.int .u32 r, .int .i64 0]) (by simp [results, Tryz.results27, go_sem]) rfl ⟨rfl, H0.out⟩
set_option maxRecDepth 100000 in
set_option maxHeartbeats 2000000 in
theorem renc_2 (op a b c i B S r : Int) (u : Bool) (w : World) (B0 : 0 ≤ B) (B1 : B ≤ 1)
    (a0 : 0 ≤ a) (a1 : a ≤ 15) (b0 : 0 ≤ b) (b1 : b ≤ 15) (c0 : 0 ≤ c) (c1 : c ≤ 15) (o0 : 0 ≤ op) (o1 : op ≤ 15)
    (HM : Hid (∀ w, Calls Tryz.prog 41 #[.agg #[.int .i64 2, .int .i64 op, .int .i64 a, .int .i64 b, .int .i64 c, .int .i64 i, .bool u]] w fun e w' => e = .returned (.bool true) ∧ Kept w w'))
    (HO : Hid (∀ w, Calls Tryz.prog 42 #[.bool u] w fun e w' => e = .returned (.int .u32 B) ∧ w = w')) (HR : Hid (bits .or .u32 (bits .or .u32 (bits .or .u32 (bits .or .u32 (bits .or .u32 (bits .or .u32 (1073741824) (IntKind.u32.wrap (B * 536870912))) (IntKind.u32.wrap (S * 268435456))) (a * 16777216)) (b * 1048576)) (op * 65536)) ((IntKind.u32.wrap i).tmod 65536) = r)) (HS : Hid (∀ w, Calls Tryz.prog 42 #[.bool (decide (i < 0))] w fun e w' => e = .returned (.int .u32 S) ∧ w = w')) (S0 : 0 ≤ S) (S1 : S ≤ 1) :
    Calls Tryz.prog 27 #[.agg #[.int .i64 2, .int .i64 op, .int .i64 a, .int .i64 b, .int .i64 c, .int .i64 i, .bool u]] w fun e w' => e = .returned (.tuple #[.int .u32 r, .int .i64 0]) ∧ Kept w w' := by
  have X0 := Lib.hid (Box.new 2 op a b c i u w)
  have H0 := Lib.hid (show Kept w (w.alloc (.cells #[.int .i64 2, .int .i64 op, .int .i64 a, .int .i64 b, .int .i64 c, .int .i64 i, .bool u] 57)) from (Kept.refl w).alloc _ _)
  go_enter Tryz.func27, Tryz.ntmps27
  go_wp2_with fail
  refine (HM.out _).mono ?_; rintro e w1 ⟨rfl, hK1⟩
  obtain ⟨j0, j1, j2, j3, j4, j5, j6⟩ := (X0.out.kept hK1).cells
  replace H0 := Lib.hid (H0.out.trans hK1)
  replace X0 := Lib.hid (X0.out.kept hK1)
  clear hK1
  go_wp2_with fail
  refine (HO.out _).mono ?_; rintro e w2 ⟨rfl, rfl⟩
  go_wp2_with fail
  clear j0 j1 j2 j3 j4 j5 j6
  have hK5 := (Kept.refl w1).drew
  refine wp_region_held_drew (S := fun w' => w'.cell? ⟨w.heap.size, 0, none⟩ = some (.int .i64 2) ∧ w'.cell? ⟨w.heap.size, 1, none⟩ = some (.int .i64 op) ∧ w'.cell? ⟨w.heap.size, 2, none⟩ = some (.int .i64 a) ∧ w'.cell? ⟨w.heap.size, 3, none⟩ = some (.int .i64 b) ∧ w'.cell? ⟨w.heap.size, 4, none⟩ = some (.int .i64 c) ∧ w'.cell? ⟨w.heap.size, 5, none⟩ = some (.int .i64 i) ∧ w'.cell? ⟨w.heap.size, 6, none⟩ = some (.bool u)) (by kernel_rfl) ?_ (fun hHeld => ?_)
  · exact (X0.out.kept hK5).cells
  refine tk 0 ⟨some 49, .move (.tmp 8), 23, "ref.go:80", #[], none⟩ (v := ?_) hHeld ?_ ?_
  rotate_left
  · (intro w hSw; (try dsimp only at hSw); go_simp; try with_reducible rfl)
  try simp only [Act.put, q0, q1, q2]
  refine tk 1 ⟨some 50, .binOp .shl 23 (.tmp 49) (.const (.int .u64 29)) 59, 23, "ref.go:80", #[eD 0], none⟩ (v := ?_) hHeld ?_ ?_
  rotate_left
  · (intro w hSw; (try dsimp only at hSw); go_simp; try with_reducible rfl)
  try simp only [Act.put, q0, q1, q2]
  refine tk 2 ⟨some 51, .binOp .or 23 (.const (.int .u32 1073741824)) (.tmp 50) 23, 23, "ref.go:80", #[eD 1], none⟩ (v := ?_) hHeld ?_ ?_
  rotate_left
  · (intro w hSw; (try dsimp only at hSw); go_simp; try with_reducible rfl)
  try simp only [Act.put, q0, q1, q2]
  refine tk 3 ⟨some 52, .fieldAddr 57 (.tmp 1) 5, 0, "ref.go:80", #[], none⟩ (v := ?_) hHeld ?_ ?_
  rotate_left
  · (intro w hSw; (try dsimp only at hSw); go_simp; try with_reducible rfl)
  try simp only [Act.put, q0, q1, q2]
  refine tk 4 ⟨some 53, .load 3 (.tmp 52), 3, "ref.go:80", #[eD 3], none⟩ (v := ?_) hHeld ?_ ?_
  rotate_left
  · (intro w hSw; (try dsimp only at hSw); go_simp; try with_reducible rfl)
  try simp only [Act.put, q0, q1, q2]
  refine tk 5 ⟨some 54, .binOp .lss 3 (.tmp 53) (.const (.int .i64 0)) 3, 4, "ref.go:80", #[eD 4], none⟩ (v := ?_) hHeld ?_ ?_
  rotate_left
  · (intro w hSw; (try dsimp only at hSw); go_simp; try with_reducible rfl)
  try simp only [Act.put, q0, q1, q2]
  refine tk 9 ⟨some 58, .move (.tmp 4), 23, "ref.go:80", #[], none⟩ (v := ?_) hHeld ?_ ?_
  rotate_left
  · (intro w hSw; (try dsimp only at hSw); go_simp; try with_reducible rfl)
  try simp only [Act.put, q0, q1, q2]
  refine tk 11 ⟨some 60, .move (.tmp 5), 23, "ref.go:80", #[], none⟩ (v := ?_) hHeld ?_ ?_
  rotate_left
  · (intro w hSw; (try dsimp only at hSw); go_simp; try with_reducible rfl)
  try simp only [Act.put, q0, q1, q2]
  refine tk 13 ⟨some 62, .move (.tmp 6), 23, "ref.go:80", #[], none⟩ (v := ?_) hHeld ?_ ?_
  rotate_left
  · (intro w hSw; (try dsimp only at hSw); go_simp; try with_reducible rfl)
  try simp only [Act.put, q0, q1, q2]
  refine tk 15 ⟨some 64, .fieldAddr 57 (.tmp 1) 5, 0, "ref.go:80", #[], none⟩ (v := ?_) hHeld ?_ ?_
  rotate_left
  · (intro w hSw; (try dsimp only at hSw); go_simp; try with_reducible rfl)
  try simp only [Act.put, q0, q1, q2]
  refine tk 16 ⟨some 65, .load 3 (.tmp 64), 3, "ref.go:80", #[eD 15], none⟩ (v := ?_) hHeld ?_ ?_
  rotate_left
  · (intro w hSw; (try dsimp only at hSw); go_simp; try with_reducible rfl)
  try simp only [Act.put, q0, q1, q2]
  refine tk 17 ⟨some 66, .convert 3 23 (.tmp 65), 23, "ref.go:80", #[eD 16], none⟩ (v := ?_) hHeld ?_ ?_
  rotate_left
  · (intro w hSw; (try dsimp only at hSw); go_simp; try with_reducible rfl)
  try simp only [Act.put, q0, q1, q2]
  refine tk 18 ⟨some 67, .binOp .rem 23 (.tmp 66) (.const (.int .u32 65536)) 23, 23, "ref.go:80", #[eD 17], none⟩ (v := ?_) hHeld ?_ ?_
  rotate_left
  · (intro w hSw; (try dsimp only at hSw); go_simp; try with_reducible rfl)
  try simp only [Act.put, q0, q1, q2]
  refine wpAnyH_ready (rs := [6]) (by kernel_rfl) (by simp) ?_
  refine AllReadyH.cons (o := ⟨some 55, .call { callee := .value (.func 42), args := #[.tmp 54], argTypes := #[4] }, 23, "ref.go:80", #[eD 5], none⟩) rfl (fun K hK => ?_) AllReadyH.nil
  go_simp
  go_at_call 42
  refine (HS.out _).mono ?_
  rintro e w9 ⟨rfl, rfl⟩
  clear hHeld
  refine hK.out _ _ ?_ (fun hHeld => ?_)
  · exact (X0.out.kept hK5).cells
  clear hK K
  try simp only [Act.put, q0, q1, q2]
  refine tk 7 ⟨some 56, .binOp .shl 23 (.tmp 55) (.const (.int .u64 28)) 59, 23, "ref.go:80", #[eD 6], none⟩ (v := ?_) hHeld ?_ ?_
  rotate_left
  · (intro w hSw; (try dsimp only at hSw); go_simp; try with_reducible rfl)
  try simp only [Act.put, q0, q1, q2]
  refine tk 8 ⟨some 57, .binOp .or 23 (.tmp 51) (.tmp 56) 23, 23, "ref.go:80", #[eD 2, eD 7], none⟩ (v := ?_) hHeld ?_ ?_
  rotate_left
  · (intro w hSw; (try dsimp only at hSw); go_simp; try with_reducible rfl)
  try simp only [Act.put, q0, q1, q2]
  refine tk 10 ⟨some 59, .binOp .or 23 (.tmp 57) (.tmp 58) 23, 23, "ref.go:80", #[eD 8, eD 9], none⟩ (v := ?_) hHeld ?_ ?_
  rotate_left
  · (intro w hSw; (try dsimp only at hSw); go_simp; try with_reducible rfl)
  try simp only [Act.put, q0, q1, q2]
  refine tk 12 ⟨some 61, .binOp .or 23 (.tmp 59) (.tmp 60) 23, 23, "ref.go:80", #[eD 10, eD 11], none⟩ (v := ?_) hHeld ?_ ?_
  rotate_left
  · (intro w hSw; (try dsimp only at hSw); go_simp; try with_reducible rfl)
  try simp only [Act.put, q0, q1, q2]
  refine tk 14 ⟨some 63, .binOp .or 23 (.tmp 61) (.tmp 62) 23, 23, "ref.go:80", #[eD 12, eD 13], none⟩ (v := ?_) hHeld ?_ ?_
  rotate_left
  · (intro w hSw; (try dsimp only at hSw); go_simp; try with_reducible rfl)
  try simp only [Act.put, q0, q1, q2]
  refine tk 19 ⟨some 68, .binOp .or 23 (.tmp 63) (.tmp 67) 23, 23, "ref.go:80", #[eD 14, eD 18], none⟩ (v := ?_) hHeld ?_ ?_
  rotate_left
  · (intro w hSw; (try dsimp only at hSw); go_simp; try with_reducible rfl)
  try simp only [Act.put, q0, q1, q2]
  refine tk 20 ⟨some 2, .assign (.tmp 68), 23, "ref.go:80", #[eD 19, eC 6, eP 0, eP 1, eP 2, eP 3, eP 4, eP 5, eP 6, eP 7, eP 8, eP 9, eP 10, eP 11, eP 12, eP 13, eP 14, eP 15, eP 16, eP 17, eP 18, eP 19], none⟩ (v := ?_) hHeld ?_ ?_
  rotate_left
  · (intro w hSw; (try dsimp only at hSw); go_simp; try with_reducible rfl)
  try simp only [Act.put, q0, q1, q2]
  refine tk 21 ⟨some 3, .assign (.const (.int .i64 0)), 46, "ref.go:80", #[eC 20, eP 0, eP 1, eP 2, eP 3, eP 4, eP 5, eP 6, eP 7, eP 8, eP 9, eP 10, eP 11, eP 12, eP 13, eP 14, eP 15, eP 16, eP 17, eP 18, eP 19, eP 20], none⟩ (v := ?_) hHeld ?_ ?_
  rotate_left
  · (intro w hSw; (try dsimp only at hSw); go_simp; try with_reducible rfl)
  try simp only [Act.put, q0, q1, q2]
  refine wpAnyH_done (by kernel_rfl) ?_ _
  go_wp2_with fail
  have hR := HR.out
  simp only [hR]
  exact bodyPost_ret (v := .tuple #[.int .u32 r, .int .i64 0]) (by simp [results, Tryz.results27, go_sem]) rfl ⟨rfl, H0.out.trans hK5⟩
set_option maxRecDepth 100000 in
set_option maxHeartbeats 2000000 in
theorem renc_3 (op a b c i B r : Int) (u : Bool) (w : World) (B0 : 0 ≤ B) (B1 : B ≤ 1)
    (a0 : 0 ≤ a) (a1 : a ≤ 15) (b0 : 0 ≤ b) (b1 : b ≤ 15) (c0 : 0 ≤ c) (c1 : c ≤ 15) (o0 : 0 ≤ op) (o1 : op ≤ 15)
    (HM : Hid (∀ w, Calls Tryz.prog 41 #[.agg #[.int .i64 3, .int .i64 op, .int .i64 a, .int .i64 b, .int .i64 c, .int .i64 i, .bool u]] w fun e w' => e = .returned (.bool true) ∧ Kept w w'))
    (HO : Hid (∀ w, Calls Tryz.prog 42 #[.bool u] w fun e w' => e = .returned (.int .u32 B) ∧ w = w')) (HR : Hid (bits .or .u32 (536870912) (a * 16777216) = r)) :
    Calls Tryz.prog 27 #[.agg #[.int .i64 3, .int .i64 op, .int .i64 a, .int .i64 b, .int .i64 c, .int .i64 i, .bool u]] w fun e w' => e = .returned (.tuple #[.int .u32 r, .int .i64 0]) ∧ Kept w w' := by
  have X0 := Lib.hid (Box.new 3 op a b c i u w)
  have H0 := Lib.hid (show Kept w (w.alloc (.cells #[.int .i64 3, .int .i64 op, .int .i64 a, .int .i64 b, .int .i64 c, .int .i64 i, .bool u] 57)) from (Kept.refl w).alloc _ _)
  go_enter Tryz.func27, Tryz.ntmps27
  go_wp2_with fail
  refine (HM.out _).mono ?_; rintro e w1 ⟨rfl, hK1⟩
  obtain ⟨j0, j1, j2, j3, j4, j5, j6⟩ := (X0.out.kept hK1).cells
  replace H0 := Lib.hid (H0.out.trans hK1)
  replace X0 := Lib.hid (X0.out.kept hK1)
  clear hK1
  go_wp2_with fail
  refine (HO.out _).mono ?_; rintro e w2 ⟨rfl, rfl⟩
  go_wp2_with fail
  have hR := HR.out
  simp only [hR]
  exact bodyPost_ret (v := .tuple #[.int .u32 r, .int .i64 0]) (by simp [results, Tryz.results27, go_sem]) rfl ⟨rfl, H0.out⟩
set_option maxRecDepth 100000 in
set_option maxHeartbeats 2000000 in
theorem renc_4 (op a b c i B r : Int) (u : Bool) (w : World) (B0 : 0 ≤ B) (B1 : B ≤ 1)
    (a0 : 0 ≤ a) (a1 : a ≤ 15) (b0 : 0 ≤ b) (b1 : b ≤ 15) (c0 : 0 ≤ c) (c1 : c ≤ 15) (o0 : 0 ≤ op) (o1 : op ≤ 15)
    (HM : Hid (∀ w, Calls Tryz.prog 41 #[.agg #[.int .i64 4, .int .i64 op, .int .i64 a, .int .i64 b, .int .i64 c, .int .i64 i, .bool u]] w fun e w' => e = .returned (.bool true) ∧ Kept w w'))
    (HO : Hid (∀ w, Calls Tryz.prog 42 #[.bool u] w fun e w' => e = .returned (.int .u32 B) ∧ w = w')) (HR : Hid (bits .or .u32 (805306368) (a * 16777216) = r)) :
    Calls Tryz.prog 27 #[.agg #[.int .i64 4, .int .i64 op, .int .i64 a, .int .i64 b, .int .i64 c, .int .i64 i, .bool u]] w fun e w' => e = .returned (.tuple #[.int .u32 r, .int .i64 0]) ∧ Kept w w' := by
  have X0 := Lib.hid (Box.new 4 op a b c i u w)
  have H0 := Lib.hid (show Kept w (w.alloc (.cells #[.int .i64 4, .int .i64 op, .int .i64 a, .int .i64 b, .int .i64 c, .int .i64 i, .bool u] 57)) from (Kept.refl w).alloc _ _)
  go_enter Tryz.func27, Tryz.ntmps27
  go_wp2_with fail
  refine (HM.out _).mono ?_; rintro e w1 ⟨rfl, hK1⟩
  obtain ⟨j0, j1, j2, j3, j4, j5, j6⟩ := (X0.out.kept hK1).cells
  replace H0 := Lib.hid (H0.out.trans hK1)
  replace X0 := Lib.hid (X0.out.kept hK1)
  clear hK1
  go_wp2_with fail
  refine (HO.out _).mono ?_; rintro e w2 ⟨rfl, rfl⟩
  go_wp2_with fail
  have hR := HR.out
  simp only [hR]
  exact bodyPost_ret (v := .tuple #[.int .u32 r, .int .i64 0]) (by simp [results, Tryz.results27, go_sem]) rfl ⟨rfl, H0.out⟩
set_option maxRecDepth 100000 in
set_option maxHeartbeats 2000000 in
theorem renc_5 (op a b c i B S T r : Int) (u : Bool) (w : World) (B0 : 0 ≤ B) (B1 : B ≤ 1)
    (a0 : 0 ≤ a) (a1 : a ≤ 15) (b0 : 0 ≤ b) (b1 : b ≤ 15) (c0 : 0 ≤ c) (c1 : c ≤ 15) (o0 : 0 ≤ op) (o1 : op ≤ 15)
    (HM : Hid (∀ w, Calls Tryz.prog 41 #[.agg #[.int .i64 5, .int .i64 op, .int .i64 a, .int .i64 b, .int .i64 c, .int .i64 i, .bool u]] w fun e w' => e = .returned (.bool true) ∧ Kept w w'))
    (HO : Hid (∀ w, Calls Tryz.prog 42 #[.bool u] w fun e w' => e = .returned (.int .u32 B) ∧ w = w')) (HR : Hid (bits .or .u32 (bits .or .u32 (bits .or .u32 (bits .or .u32 (bits .or .u32 (2147483648) (IntKind.u32.wrap (S * 536870912))) (IntKind.u32.wrap (T * 268435456))) (a * 16777216)) (b * 1048576)) ((IntKind.u32.wrap i).tmod 1048576) = r)) (HS : Hid (∀ w, Calls Tryz.prog 42 #[.bool (decide (2 ≤ op))] w fun e w' => e = .returned (.int .u32 S) ∧ w = w')) (S0 : 0 ≤ S) (S1 : S ≤ 1) (HT : Hid (∀ w, Calls Tryz.prog 42 #[.bool (op.tmod 2 == 1)] w fun e w' => e = .returned (.int .u32 T) ∧ w = w')) (T0 : 0 ≤ T) (T1 : T ≤ 1) :
    Calls Tryz.prog 27 #[.agg #[.int .i64 5, .int .i64 op, .int .i64 a, .int .i64 b, .int .i64 c, .int .i64 i, .bool u]] w fun e w' => e = .returned (.tuple #[.int .u32 r, .int .i64 0]) ∧ Kept w w' := by
  have X0 := Lib.hid (Box.new 5 op a b c i u w)
  have H0 := Lib.hid (show Kept w (w.alloc (.cells #[.int .i64 5, .int .i64 op, .int .i64 a, .int .i64 b, .int .i64 c, .int .i64 i, .bool u] 57)) from (Kept.refl w).alloc _ _)
  go_enter Tryz.func27, Tryz.ntmps27
  go_wp2_with fail
  refine (HM.out _).mono ?_; rintro e w1 ⟨rfl, hK1⟩
  obtain ⟨j0, j1, j2, j3, j4, j5, j6⟩ := (X0.out.kept hK1).cells
  replace H0 := Lib.hid (H0.out.trans hK1)
  replace X0 := Lib.hid (X0.out.kept hK1)
  clear hK1
  go_wp2_with fail
  refine (HO.out _).mono ?_; rintro e w2 ⟨rfl, rfl⟩
  go_wp2_with fail
  clear j0 j1 j2 j3 j4 j5 j6
  have hK5 := (Kept.refl w1).drew
  refine wp_region_held_drew (S := fun w' => w'.cell? ⟨w.heap.size, 0, none⟩ = some (.int .i64 5) ∧ w'.cell? ⟨w.heap.size, 1, none⟩ = some (.int .i64 op) ∧ w'.cell? ⟨w.heap.size, 2, none⟩ = some (.int .i64 a) ∧ w'.cell? ⟨w.heap.size, 3, none⟩ = some (.int .i64 b) ∧ w'.cell? ⟨w.heap.size, 4, none⟩ = some (.int .i64 c) ∧ w'.cell? ⟨w.heap.size, 5, none⟩ = some (.int .i64 i) ∧ w'.cell? ⟨w.heap.size, 6, none⟩ = some (.bool u)) (by kernel_rfl) ?_ (fun hHeld => ?_)
  · exact (X0.out.kept hK5).cells
  refine tk 0 ⟨some 79, .fieldAddr 57 (.tmp 1) 1, 0, "ref.go:86", #[], none⟩ (v := ?_) hHeld ?_ ?_
  rotate_left
  · (intro w hSw; (try dsimp only at hSw); go_simp; try with_reducible rfl)
  try simp only [Act.put, q0, q1, q2]
  refine tk 1 ⟨some 80, .load 3 (.tmp 79), 3, "ref.go:86", #[eD 0], none⟩ (v := ?_) hHeld ?_ ?_
  rotate_left
  · (intro w hSw; (try dsimp only at hSw); go_simp; try with_reducible rfl)
  try simp only [Act.put, q0, q1, q2]
  refine tk 2 ⟨some 81, .binOp .geq 3 (.tmp 80) (.const (.int .i64 2)) 3, 4, "ref.go:86", #[eD 1], none⟩ (v := ?_) hHeld ?_ ?_
  rotate_left
  · (intro w hSw; (try dsimp only at hSw); go_simp; try with_reducible rfl)
  try simp only [Act.put, q0, q1, q2]
  refine tk 6 ⟨some 85, .fieldAddr 57 (.tmp 1) 1, 0, "ref.go:86", #[], none⟩ (v := ?_) hHeld ?_ ?_
  rotate_left
  · (intro w hSw; (try dsimp only at hSw); go_simp; try with_reducible rfl)
  try simp only [Act.put, q0, q1, q2]
  refine tk 7 ⟨some 86, .load 3 (.tmp 85), 3, "ref.go:86", #[eD 6], none⟩ (v := ?_) hHeld ?_ ?_
  rotate_left
  · (intro w hSw; (try dsimp only at hSw); go_simp; try with_reducible rfl)
  try simp only [Act.put, q0, q1, q2]
  refine tk 8 ⟨some 87, .binOp .rem 3 (.tmp 86) (.const (.int .i64 2)) 3, 3, "ref.go:86", #[eD 7], none⟩ (v := ?_) hHeld ?_ ?_
  rotate_left
  · (intro w hSw; (try dsimp only at hSw); go_simp; try with_reducible rfl)
  try simp only [Act.put, q0, q1, q2]
  refine tk 9 ⟨some 88, .binOp .eql 3 (.tmp 87) (.const (.int .i64 1)) 3, 4, "ref.go:86", #[eD 8], none⟩ (v := ?_) hHeld ?_ ?_
  rotate_left
  · (intro w hSw; (try dsimp only at hSw); go_simp; try with_reducible rfl)
  try simp only [Act.put, q0, q1, q2]
  refine tk 13 ⟨some 92, .move (.tmp 4), 23, "ref.go:86", #[], none⟩ (v := ?_) hHeld ?_ ?_
  rotate_left
  · (intro w hSw; (try dsimp only at hSw); go_simp; try with_reducible rfl)
  try simp only [Act.put, q0, q1, q2]
  refine tk 15 ⟨some 94, .move (.tmp 5), 23, "ref.go:86", #[], none⟩ (v := ?_) hHeld ?_ ?_
  rotate_left
  · (intro w hSw; (try dsimp only at hSw); go_simp; try with_reducible rfl)
  try simp only [Act.put, q0, q1, q2]
  refine tk 17 ⟨some 96, .fieldAddr 57 (.tmp 1) 5, 0, "ref.go:86", #[], none⟩ (v := ?_) hHeld ?_ ?_
  rotate_left
  · (intro w hSw; (try dsimp only at hSw); go_simp; try with_reducible rfl)
  try simp only [Act.put, q0, q1, q2]
  refine tk 18 ⟨some 97, .load 3 (.tmp 96), 3, "ref.go:86", #[eD 17], none⟩ (v := ?_) hHeld ?_ ?_
  rotate_left
  · (intro w hSw; (try dsimp only at hSw); go_simp; try with_reducible rfl)
  try simp only [Act.put, q0, q1, q2]
  refine tk 19 ⟨some 98, .convert 3 23 (.tmp 97), 23, "ref.go:86", #[eD 18], none⟩ (v := ?_) hHeld ?_ ?_
  rotate_left
  · (intro w hSw; (try dsimp only at hSw); go_simp; try with_reducible rfl)
  try simp only [Act.put, q0, q1, q2]
  refine tk 20 ⟨some 99, .binOp .rem 23 (.tmp 98) (.const (.int .u32 1048576)) 23, 23, "ref.go:86", #[eD 19], none⟩ (v := ?_) hHeld ?_ ?_
  rotate_left
  · (intro w hSw; (try dsimp only at hSw); go_simp; try with_reducible rfl)
  try simp only [Act.put, q0, q1, q2]
  refine wpAnyH_ready (rs := [3]) (by kernel_rfl) (by simp) ?_
  refine AllReadyH.cons (o := ⟨some 82, .call { callee := .value (.func 42), args := #[.tmp 81], argTypes := #[4] }, 23, "ref.go:86", #[eD 2], none⟩) rfl (fun K hK => ?_) AllReadyH.nil
  go_simp
  go_at_call 42
  refine (HS.out _).mono ?_
  rintro e w9 ⟨rfl, rfl⟩
  clear hHeld
  refine hK.out _ _ ?_ (fun hHeld => ?_)
  · exact (X0.out.kept hK5).cells
  clear hK K
  try simp only [Act.put, q0, q1, q2]
  refine tk 4 ⟨some 83, .binOp .shl 23 (.tmp 82) (.const (.int .u64 29)) 59, 23, "ref.go:86", #[eD 3], none⟩ (v := ?_) hHeld ?_ ?_
  rotate_left
  · (intro w hSw; (try dsimp only at hSw); go_simp; try with_reducible rfl)
  try simp only [Act.put, q0, q1, q2]
  refine tk 5 ⟨some 84, .binOp .or 23 (.const (.int .u32 2147483648)) (.tmp 83) 23, 23, "ref.go:86", #[eD 4], none⟩ (v := ?_) hHeld ?_ ?_
  rotate_left
  · (intro w hSw; (try dsimp only at hSw); go_simp; try with_reducible rfl)
  try simp only [Act.put, q0, q1, q2]
  refine wpAnyH_ready (rs := [10]) (by kernel_rfl) (by simp) ?_
  refine AllReadyH.cons (o := ⟨some 89, .call { callee := .value (.func 42), args := #[.tmp 88], argTypes := #[4] }, 23, "ref.go:86", #[eD 9, eC 3], none⟩) rfl (fun K hK => ?_) AllReadyH.nil
  go_simp
  go_at_call 42
  refine (HT.out _).mono ?_
  rintro e w9 ⟨rfl, rfl⟩
  clear hHeld
  refine hK.out _ _ ?_ (fun hHeld => ?_)
  · exact (X0.out.kept hK5).cells
  clear hK K
  try simp only [Act.put, q0, q1, q2]
  refine tk 11 ⟨some 90, .binOp .shl 23 (.tmp 89) (.const (.int .u64 28)) 59, 23, "ref.go:86", #[eD 10], none⟩ (v := ?_) hHeld ?_ ?_
  rotate_left
  · (intro w hSw; (try dsimp only at hSw); go_simp; try with_reducible rfl)
  try simp only [Act.put, q0, q1, q2]
  refine tk 12 ⟨some 91, .binOp .or 23 (.tmp 84) (.tmp 90) 23, 23, "ref.go:86", #[eD 5, eD 11], none⟩ (v := ?_) hHeld ?_ ?_
  rotate_left
  · (intro w hSw; (try dsimp only at hSw); go_simp; try with_reducible rfl)
  try simp only [Act.put, q0, q1, q2]
  refine tk 14 ⟨some 93, .binOp .or 23 (.tmp 91) (.tmp 92) 23, 23, "ref.go:86", #[eD 12, eD 13], none⟩ (v := ?_) hHeld ?_ ?_
  rotate_left
  · (intro w hSw; (try dsimp only at hSw); go_simp; try with_reducible rfl)
  try simp only [Act.put, q0, q1, q2]
  refine tk 16 ⟨some 95, .binOp .or 23 (.tmp 93) (.tmp 94) 23, 23, "ref.go:86", #[eD 14, eD 15], none⟩ (v := ?_) hHeld ?_ ?_
  rotate_left
  · (intro w hSw; (try dsimp only at hSw); go_simp; try with_reducible rfl)
  try simp only [Act.put, q0, q1, q2]
  refine tk 21 ⟨some 100, .binOp .or 23 (.tmp 95) (.tmp 99) 23, 23, "ref.go:86", #[eD 16, eD 20], none⟩ (v := ?_) hHeld ?_ ?_
  rotate_left
  · (intro w hSw; (try dsimp only at hSw); go_simp; try with_reducible rfl)
  try simp only [Act.put, q0, q1, q2]
  refine tk 22 ⟨some 2, .assign (.tmp 100), 23, "ref.go:86", #[eD 21, eC 10, eP 0, eP 1, eP 2, eP 3, eP 4, eP 5, eP 6, eP 7, eP 8, eP 9, eP 10, eP 11, eP 12, eP 13, eP 14, eP 15, eP 16, eP 17, eP 18, eP 19, eP 20, eP 21], none⟩ (v := ?_) hHeld ?_ ?_
  rotate_left
  · (intro w hSw; (try dsimp only at hSw); go_simp; try with_reducible rfl)
  try simp only [Act.put, q0, q1, q2]
  refine tk 23 ⟨some 3, .assign (.const (.int .i64 0)), 46, "ref.go:86", #[eC 22, eP 0, eP 1, eP 2, eP 3, eP 4, eP 5, eP 6, eP 7, eP 8, eP 9, eP 10, eP 11, eP 12, eP 13, eP 14, eP 15, eP 16, eP 17, eP 18, eP 19, eP 20, eP 21, eP 22], none⟩ (v := ?_) hHeld ?_ ?_
  rotate_left
  · (intro w hSw; (try dsimp only at hSw); go_simp; try with_reducible rfl)
  try simp only [Act.put, q0, q1, q2]
  refine wpAnyH_done (by kernel_rfl) ?_ _
  go_wp2_with fail
  have hR := HR.out
  simp only [hR]
  exact bodyPost_ret (v := .tuple #[.int .u32 r, .int .i64 0]) (by simp [results, Tryz.results27, go_sem]) rfl ⟨rfl, H0.out.trans hK5⟩
set_option maxRecDepth 100000 in
set_option maxHeartbeats 2000000 in
theorem renc_6 (op a b c i B r : Int) (u : Bool) (w : World) (B0 : 0 ≤ B) (B1 : B ≤ 1)
    (a0 : 0 ≤ a) (a1 : a ≤ 15) (b0 : 0 ≤ b) (b1 : b ≤ 15) (c0 : 0 ≤ c) (c1 : c ≤ 15) (o0 : 0 ≤ op) (o1 : op ≤ 15)
    (HM : Hid (∀ w, Calls Tryz.prog 41 #[.agg #[.int .i64 6, .int .i64 op, .int .i64 a, .int .i64 b, .int .i64 c, .int .i64 i, .bool u]] w fun e w' => e = .returned (.bool true) ∧ Kept w w'))
    (HO : Hid (∀ w, Calls Tryz.prog 42 #[.bool u] w fun e w' => e = .returned (.int .u32 B) ∧ w = w')) (HR : Hid (bits .or .u32 (bits .or .u32 (bits .or .u32 (3221225472) (B * 268435456)) (op * 16777216)) (c) = r)) :
    Calls Tryz.prog 27 #[.agg #[.int .i64 6, .int .i64 op, .int .i64 a, .int .i64 b, .int .i64 c, .int .i64 i, .bool u]] w fun e w' => e = .returned (.tuple #[.int .u32 r, .int .i64 0]) ∧ Kept w w' := by
  have X0 := Lib.hid (Box.new 6 op a b c i u w)
  have H0 := Lib.hid (show Kept w (w.alloc (.cells #[.int .i64 6, .int .i64 op, .int .i64 a, .int .i64 b, .int .i64 c, .int .i64 i, .bool u] 57)) from (Kept.refl w).alloc _ _)
  go_enter Tryz.func27, Tryz.ntmps27
  go_wp2_with fail
  refine (HM.out _).mono ?_; rintro e w1 ⟨rfl, hK1⟩
  obtain ⟨j0, j1, j2, j3, j4, j5, j6⟩ := (X0.out.kept hK1).cells
  replace H0 := Lib.hid (H0.out.trans hK1)
  replace X0 := Lib.hid (X0.out.kept hK1)
  clear hK1
  go_wp2_with fail
  refine (HO.out _).mono ?_; rintro e w2 ⟨rfl, rfl⟩
  go_wp2_with fail
  have hR := HR.out
  simp only [hR]
  exact bodyPost_ret (v := .tuple #[.int .u32 r, .int .i64 0]) (by simp [results, Tryz.results27, go_sem]) rfl ⟨rfl, H0.out⟩
set_option maxRecDepth 100000 in
set_option maxHeartbeats 2000000 in
theorem renc_7 (op a b c i B r : Int) (u : Bool) (w : World) (B0 : 0 ≤ B) (B1 : B ≤ 1)
    (a0 : 0 ≤ a) (a1 : a ≤ 15) (b0 : 0 ≤ b) (b1 : b ≤ 15) (c0 : 0 ≤ c) (c1 : c ≤ 15) (o0 : 0 ≤ op) (o1 : op ≤ 15)
    (HM : Hid (∀ w, Calls Tryz.prog 41 #[.agg #[.int .i64 7, .int .i64 op, .int .i64 a, .int .i64 b, .int .i64 c, .int .i64 i, .bool u]] w fun e w' => e = .returned (.bool true) ∧ Kept w w'))
    (HO : Hid (∀ w, Calls Tryz.prog 42 #[.bool u] w fun e w' => e = .returned (.int .u32 B) ∧ w = w')) (HR : Hid (bits .or .u32 (bits .or .u32 (bits .or .u32 (3758096384) (B * 268435456)) (op * 16777216)) (i % 16777216) = r)) :
    Calls Tryz.prog 27 #[.agg #[.int .i64 7, .int .i64 op, .int .i64 a, .int .i64 b, .int .i64 c, .int .i64 i, .bool u]] w fun e w' => e = .returned (.tuple #[.int .u32 r, .int .i64 0]) ∧ Kept w w' := by
  have X0 := Lib.hid (Box.new 7 op a b c i u w)
  have H0 := Lib.hid (show Kept w (w.alloc (.cells #[.int .i64 7, .int .i64 op, .int .i64 a, .int .i64 b, .int .i64 c, .int .i64 i, .bool u] 57)) from (Kept.refl w).alloc _ _)
  go_enter Tryz.func27, Tryz.ntmps27
  go_wp2_with fail
  refine (HM.out _).mono ?_; rintro e w1 ⟨rfl, hK1⟩
  obtain ⟨j0, j1, j2, j3, j4, j5, j6⟩ := (X0.out.kept hK1).cells
  replace H0 := Lib.hid (H0.out.trans hK1)
  replace X0 := Lib.hid (X0.out.kept hK1)
  clear hK1
  go_wp2_with fail
  refine (HO.out _).mono ?_; rintro e w2 ⟨rfl, rfl⟩
  go_wp2_with fail
  have hR := HR.out
  simp only [hR]
  exact bodyPost_ret (v := .tuple #[.int .u32 r, .int .i64 0]) (by simp [results, Tryz.results27, go_sem]) rfl ⟨rfl, H0.out⟩
end Go.Proofs.YtlmddkciamdldaaGreat

/-
  The contract of rivetref03's Encode, whole.
-/
namespace Go.Proofs.YtlmddkciamdldaaGreat
open Go.RowKit
set_option linter.unusedVariables false
set_option linter.unusedSimpArgs false
set_option maxRecDepth 100000
theorem I.or_low (c a : Int) (k : Nat) (ha0 : 0 ≤ a) (ha : a < ((2 ^ k : Nat) : Int)) (hc0 : 0 ≤ c) (hc : c < 4294967296) (hcm : c % ((2 ^ k : Nat) : Int) = 0) (hk : k ≤ 32) : bits .or .u32 c a = c + a := by
  obtain ⟨A, rfl⟩ := Int.eq_ofNat_of_zero_le ha0
  obtain ⟨C, rfl⟩ := Int.eq_ofNat_of_zero_le hc0
  have hp : 2 ^ k ≤ 4294967296 := F.pow_le32 k hk
  rw [u32_or_nat _ _ (by omega) (by omega), nat_join k C A (by omega) (by omega)]
  omega
theorem I.rsum_1 (op a b c i B S T : Int) (a0 : 0 ≤ a) (a1 : a ≤ 15) (b0 : 0 ≤ b) (b1 : b ≤ 15) (c0 : 0 ≤ c) (c1 : c ≤ 15) (o0 : 0 ≤ op) (o1 : op ≤ 15) (B0 : 0 ≤ B) (B1 : B ≤ 1) (S0 : 0 ≤ S) (S1 : S ≤ 1) (T0 : 0 ≤ T) (T1 : T ≤ 1) : bits .or .u32 (bits .or .u32 (bits .or .u32 (bits .or .u32 (B * 536870912) (a * 16777216)) (b * 1048576)) (op * 65536)) (c) = B * 536870912 + a * 16777216 + b * 1048576 + op * 65536 + c := by
  rw [I.or_low (B * 536870912) (a * 16777216) 28 (by omega) (by omega) (by omega) (by omega) (by omega) (by omega)]
  rw [I.or_low (B * 536870912 + a * 16777216) (b * 1048576) 24 (by omega) (by omega) (by omega) (by omega) (by omega) (by omega)]
  rw [I.or_low (B * 536870912 + a * 16777216 + b * 1048576) (op * 65536) 20 (by omega) (by omega) (by omega) (by omega) (by omega) (by omega)]
  rw [I.or_low (B * 536870912 + a * 16777216 + b * 1048576 + op * 65536) (c) 16 (by omega) (by omega) (by omega) (by omega) (by omega) (by omega)]
theorem I.rsum_2 (op a b c i B S T : Int) (a0 : 0 ≤ a) (a1 : a ≤ 15) (b0 : 0 ≤ b) (b1 : b ≤ 15) (c0 : 0 ≤ c) (c1 : c ≤ 15) (o0 : 0 ≤ op) (o1 : op ≤ 15) (B0 : 0 ≤ B) (B1 : B ≤ 1) (S0 : 0 ≤ S) (S1 : S ≤ 1) (T0 : 0 ≤ T) (T1 : T ≤ 1) : bits .or .u32 (bits .or .u32 (bits .or .u32 (bits .or .u32 (bits .or .u32 (bits .or .u32 (1073741824) (IntKind.u32.wrap (B * 536870912))) (IntKind.u32.wrap (S * 268435456))) (a * 16777216)) (b * 1048576)) (op * 65536)) ((IntKind.u32.wrap i).tmod 65536) = 1073741824 + B * 536870912 + S * 268435456 + a * 16777216 + b * 1048576 + op * 65536 + i % 65536 := by
  rw [show IntKind.u32.wrap (B * 536870912) = B * 536870912 by rw [IntKind.wrap_u32]; omega, show IntKind.u32.wrap (S * 268435456) = S * 268435456 by rw [IntKind.wrap_u32]; omega]
  rw [show (IntKind.u32.wrap i).tmod 65536 = i % 65536 by rw [IntKind.wrap_u32, Int.tmod_eq_emod_of_nonneg (by omega)]; omega]
  rw [I.or_low (1073741824) (B * 536870912) 30 (by omega) (by omega) (by omega) (by omega) (by omega) (by omega)]
  rw [I.or_low (1073741824 + B * 536870912) (S * 268435456) 29 (by omega) (by omega) (by omega) (by omega) (by omega) (by omega)]
  rw [I.or_low (1073741824 + B * 536870912 + S * 268435456) (a * 16777216) 28 (by omega) (by omega) (by omega) (by omega) (by omega) (by omega)]
  rw [I.or_low (1073741824 + B * 536870912 + S * 268435456 + a * 16777216) (b * 1048576) 24 (by omega) (by omega) (by omega) (by omega) (by omega) (by omega)]
  rw [I.or_low (1073741824 + B * 536870912 + S * 268435456 + a * 16777216 + b * 1048576) (op * 65536) 20 (by omega) (by omega) (by omega) (by omega) (by omega) (by omega)]
  rw [I.or_low (1073741824 + B * 536870912 + S * 268435456 + a * 16777216 + b * 1048576 + op * 65536) (i % 65536) 16 (by omega) (by omega) (by omega) (by omega) (by omega) (by omega)]
theorem I.rsum_3 (op a b c i B S T : Int) (a0 : 0 ≤ a) (a1 : a ≤ 15) (b0 : 0 ≤ b) (b1 : b ≤ 15) (c0 : 0 ≤ c) (c1 : c ≤ 15) (o0 : 0 ≤ op) (o1 : op ≤ 15) (B0 : 0 ≤ B) (B1 : B ≤ 1) (S0 : 0 ≤ S) (S1 : S ≤ 1) (T0 : 0 ≤ T) (T1 : T ≤ 1) : bits .or .u32 (536870912) (a * 16777216) = 536870912 + a * 16777216 := by
  rw [I.or_low (536870912) (a * 16777216) 28 (by omega) (by omega) (by omega) (by omega) (by omega) (by omega)]
theorem I.rsum_4 (op a b c i B S T : Int) (a0 : 0 ≤ a) (a1 : a ≤ 15) (b0 : 0 ≤ b) (b1 : b ≤ 15) (c0 : 0 ≤ c) (c1 : c ≤ 15) (o0 : 0 ≤ op) (o1 : op ≤ 15) (B0 : 0 ≤ B) (B1 : B ≤ 1) (S0 : 0 ≤ S) (S1 : S ≤ 1) (T0 : 0 ≤ T) (T1 : T ≤ 1) : bits .or .u32 (805306368) (a * 16777216) = 805306368 + a * 16777216 := by
  rw [I.or_low (805306368) (a * 16777216) 28 (by omega) (by omega) (by omega) (by omega) (by omega) (by omega)]
theorem I.rsum_5 (op a b c i B S T : Int) (a0 : 0 ≤ a) (a1 : a ≤ 15) (b0 : 0 ≤ b) (b1 : b ≤ 15) (c0 : 0 ≤ c) (c1 : c ≤ 15) (o0 : 0 ≤ op) (o1 : op ≤ 15) (B0 : 0 ≤ B) (B1 : B ≤ 1) (S0 : 0 ≤ S) (S1 : S ≤ 1) (T0 : 0 ≤ T) (T1 : T ≤ 1) : bits .or .u32 (bits .or .u32 (bits .or .u32 (bits .or .u32 (bits .or .u32 (2147483648) (IntKind.u32.wrap (S * 536870912))) (IntKind.u32.wrap (T * 268435456))) (a * 16777216)) (b * 1048576)) ((IntKind.u32.wrap i).tmod 1048576) = 2147483648 + S * 536870912 + T * 268435456 + a * 16777216 + b * 1048576 + i % 1048576 := by
  rw [show IntKind.u32.wrap (S * 536870912) = S * 536870912 by rw [IntKind.wrap_u32]; omega, show IntKind.u32.wrap (T * 268435456) = T * 268435456 by rw [IntKind.wrap_u32]; omega]
  rw [show (IntKind.u32.wrap i).tmod 1048576 = i % 1048576 by rw [IntKind.wrap_u32, Int.tmod_eq_emod_of_nonneg (by omega)]; omega]
  rw [I.or_low (2147483648) (S * 536870912) 30 (by omega) (by omega) (by omega) (by omega) (by omega) (by omega)]
  rw [I.or_low (2147483648 + S * 536870912) (T * 268435456) 29 (by omega) (by omega) (by omega) (by omega) (by omega) (by omega)]
  rw [I.or_low (2147483648 + S * 536870912 + T * 268435456) (a * 16777216) 28 (by omega) (by omega) (by omega) (by omega) (by omega) (by omega)]
  rw [I.or_low (2147483648 + S * 536870912 + T * 268435456 + a * 16777216) (b * 1048576) 24 (by omega) (by omega) (by omega) (by omega) (by omega) (by omega)]
  rw [I.or_low (2147483648 + S * 536870912 + T * 268435456 + a * 16777216 + b * 1048576) (i % 1048576) 20 (by omega) (by omega) (by omega) (by omega) (by omega) (by omega)]
theorem I.rsum_6 (op a b c i B S T : Int) (a0 : 0 ≤ a) (a1 : a ≤ 15) (b0 : 0 ≤ b) (b1 : b ≤ 15) (c0 : 0 ≤ c) (c1 : c ≤ 15) (o0 : 0 ≤ op) (o1 : op ≤ 15) (B0 : 0 ≤ B) (B1 : B ≤ 1) (S0 : 0 ≤ S) (S1 : S ≤ 1) (T0 : 0 ≤ T) (T1 : T ≤ 1) : bits .or .u32 (bits .or .u32 (bits .or .u32 (3221225472) (B * 268435456)) (op * 16777216)) (c) = 3221225472 + B * 268435456 + op * 16777216 + c := by
  rw [I.or_low (3221225472) (B * 268435456) 29 (by omega) (by omega) (by omega) (by omega) (by omega) (by omega)]
  rw [I.or_low (3221225472 + B * 268435456) (op * 16777216) 28 (by omega) (by omega) (by omega) (by omega) (by omega) (by omega)]
  rw [I.or_low (3221225472 + B * 268435456 + op * 16777216) (c) 24 (by omega) (by omega) (by omega) (by omega) (by omega) (by omega)]
theorem I.rsum_7 (op a b c i B S T : Int) (a0 : 0 ≤ a) (a1 : a ≤ 15) (b0 : 0 ≤ b) (b1 : b ≤ 15) (c0 : 0 ≤ c) (c1 : c ≤ 15) (o0 : 0 ≤ op) (o1 : op ≤ 15) (B0 : 0 ≤ B) (B1 : B ≤ 1) (S0 : 0 ≤ S) (S1 : S ≤ 1) (T0 : 0 ≤ T) (T1 : T ≤ 1) : bits .or .u32 (bits .or .u32 (bits .or .u32 (3758096384) (B * 268435456)) (op * 16777216)) (i % 16777216) = 3758096384 + B * 268435456 + op * 16777216 + i % 16777216 := by
  rw [I.or_low (3758096384) (B * 268435456) 29 (by omega) (by omega) (by omega) (by omega) (by omega) (by omega)]
  rw [I.or_low (3758096384 + B * 268435456) (op * 16777216) 28 (by omega) (by omega) (by omega) (by omega) (by omega) (by omega)]
  rw [I.or_low (3758096384 + B * 268435456 + op * 16777216) (i % 16777216) 24 (by omega) (by omega) (by omega) (by omega) (by omega) (by omega)]
theorem renc_any (k op a b c i : Int) (u : Bool) (w : World) :
    Calls Tryz.prog 27 #[.agg #[.int .i64 k, .int .i64 op, .int .i64 a, .int .i64 b, .int .i64 c, .int .i64 i, .bool u]] w fun e w' => e = .returned (.tuple #[.int .u32 (I.enc ⟨k, op, a, b, c, i, u⟩), .int .i64 (I.err ⟨k, op, a, b, c, i, u⟩)]) ∧ Kept w w' := by
  have HM := rmay_any k op a b c i u
  by_cases h : I.May ⟨k, op, a, b, c, i, u⟩
  · have e1 : I.may ⟨k, op, a, b, c, i, u⟩ = true := decide_eq_true h
    simp only [I.enc, I.err, e1, reduceIte] at *
    have HO := one_any u
    have B0 := I.bit_lo u
    have B1 := I.bit_hi u
    have h' := h
    unfold I.May at h'
    dsimp only at h'
    obtain ⟨⟨a0, a1, b0, b1, c0, c1⟩, h'⟩ := h'
    have z0 : (0 : Int) ≤ 0 := by omega
    have z1 : (0 : Int) ≤ 1 := by omega
    rcases h' with ⟨rfl, h'⟩ | ⟨rfl, h'⟩ | ⟨rfl | rfl, h'⟩ | ⟨rfl, h'⟩ | ⟨rfl, h'⟩ | ⟨rfl, h'⟩
    · exact renc_1 op a b c i _ _ u w B0 B1 a0 a1 b0 b1 c0 c1 (by omega) (by omega) (Lib.hid HM) (Lib.hid HO) (Lib.hid ((I.rsum_1 op a b c i (I.bit u) 0 0 a0 a1 b0 b1 c0 c1 (by omega) (by omega) B0 B1 z0 z1 z0 z1).trans (by simp [I.word])))
    · exact renc_2 op a b c i _ _ _ u w B0 B1 a0 a1 b0 b1 c0 c1 (by omega) (by omega) (Lib.hid HM) (Lib.hid HO) (Lib.hid ((I.rsum_2 op a b c i _ (I.bit (decide (i < 0))) 0 a0 a1 b0 b1 c0 c1 (by omega) (by omega) B0 B1 (I.bit_lo _) (I.bit_hi _) z0 z1).trans (by simp [I.word]))) (Lib.hid (one_any _)) (I.bit_lo _) (I.bit_hi _)
    · exact renc_3 op a b c i _ _ u w B0 B1 a0 a1 b0 b1 c0 c1 (by omega) (by omega) (Lib.hid HM) (Lib.hid HO) (Lib.hid ((I.rsum_3 op a b c i (I.bit u) 0 0 a0 a1 b0 b1 c0 c1 (by omega) (by omega) B0 B1 z0 z1 z0 z1).trans (by simp [I.word])))
    · exact renc_4 op a b c i _ _ u w B0 B1 a0 a1 b0 b1 c0 c1 (by omega) (by omega) (Lib.hid HM) (Lib.hid HO) (Lib.hid ((I.rsum_4 op a b c i (I.bit u) 0 0 a0 a1 b0 b1 c0 c1 (by omega) (by omega) B0 B1 z0 z1 z0 z1).trans (by simp [I.word])))
    · have q : I.bit (decide (2 ≤ op)) * 536870912 + I.bit (op.tmod 2 == 1) * 268435456 = op * 268435456 := by
        rcases (show op = 0 ∨ op = 1 ∨ op = 2 ∨ op = 3 by omega) with rfl | rfl | rfl | rfl <;> rfl
      exact renc_5 op a b c i _ _ _ _ u w B0 B1 a0 a1 b0 b1 c0 c1 (by omega) (by omega) (Lib.hid HM) (Lib.hid HO) (Lib.hid ((I.rsum_5 op a b c i (I.bit u) (I.bit (decide (2 ≤ op))) (I.bit (op.tmod 2 == 1)) a0 a1 b0 b1 c0 c1 (by omega) (by omega) B0 B1 (I.bit_lo _) (I.bit_hi _) (I.bit_lo _) (I.bit_hi _)).trans (by simp [I.word]; omega))) (Lib.hid (one_any _)) (I.bit_lo _) (I.bit_hi _) (Lib.hid (one_any _)) (I.bit_lo _) (I.bit_hi _)
    · exact renc_6 op a b c i _ _ u w B0 B1 a0 a1 b0 b1 c0 c1 (by omega) (by omega) (Lib.hid HM) (Lib.hid HO) (Lib.hid ((I.rsum_6 op a b c i (I.bit u) 0 0 a0 a1 b0 b1 c0 c1 (by omega) (by omega) B0 B1 z0 z1 z0 z1).trans (by simp [I.word])))
    · exact renc_7 op a b c i _ _ u w B0 B1 a0 a1 b0 b1 c0 c1 (by omega) (by omega) (Lib.hid HM) (Lib.hid HO) (Lib.hid ((I.rsum_7 op a b c i (I.bit u) 0 0 a0 a1 b0 b1 c0 c1 (by omega) (by omega) B0 B1 z0 z1 z0 z1).trans (by simp [I.word])))
  · have e1 : I.may ⟨k, op, a, b, c, i, u⟩ = false := decide_eq_false h
    simp only [I.enc, I.err, e1, Bool.false_eq_true, reduceIte] at *
    have HM := Lib.hid HM
    have HB := Lib.hid (show Kept w (w.alloc (.cells #[.int .i64 k, .int .i64 op, .int .i64 a, .int .i64 b, .int .i64 c, .int .i64 i, .bool u] 57)) from (Kept.refl w).alloc _ _)
    clear h e1
    go_enter Tryz.func27, Tryz.ntmps27
    go_wp2_with fail
    refine (HM.out _).mono ?_; rintro e w1 ⟨rfl, hK⟩
    go_wp2_with fail
    exact bodyPost_ret (v := .tuple #[.int .u32 0, .int .i64 1]) (by simp [results, Tryz.results27, go_sem]) rfl ⟨rfl, HB.out.trans hK⟩
end Go.Proofs.YtlmddkciamdldaaGreat

/-
  The contracts of rivetref03's guess and Decode.
-/
namespace Go.Proofs.YtlmddkciamdldaaGreat
open Go.RowKit
set_option linter.unusedVariables false
set_option linter.unusedSimpArgs false
set_option maxRecDepth 100000
set_option maxRecDepth 100000 in
set_option maxHeartbeats 1000000 in
theorem guess_0a (x a b : Int) (w : World) (x0 : 0 ≤ x) (x1 : x < 4294967296)
    (EF : x / 1073741824 = 0) (EU : (bits .and .u32 (x / 536870912) 1 == 1) = true) (EV : (bits .and .u32 (x / 268435456) 1 == 1) = true) (EA : bits .and .u32 (x / 16777216) 15 = a) (a0 : 0 ≤ a) (a1 : a ≤ 15) (EB : bits .and .u32 (x / 1048576) 15 = b) (b0 : 0 ≤ b) (b1 : b ≤ 15) (EO : bits .and .u32 (x / 65536) 15 = 0) :
    Calls Tryz.prog 48 #[.int .u32 x] w fun e w' => e = .returned (.agg #[.int .i64 4, .int .i64 0, .int .i64 a, .int .i64 0, .int .i64 0, .int .i64 0, .bool false]) ∧ Kept w w' := by
  go_enter Tryz.func48, Tryz.ntmps48
  go_wp2_with fail
  exact bodyPost_ret (v := .agg #[.int .i64 4, .int .i64 0, .int .i64 a, .int .i64 0, .int .i64 0, .int .i64 0, .bool false]) (by simp [results, Tryz.results48, go_sem]) rfl ⟨rfl, (Kept.refl w).alloc _ _⟩
set_option maxRecDepth 100000 in
set_option maxHeartbeats 1000000 in
theorem guess_0b (x a b : Int) (w : World) (x0 : 0 ≤ x) (x1 : x < 4294967296)
    (EF : x / 1073741824 = 0) (EU : (bits .and .u32 (x / 536870912) 1 == 1) = true) (EV : (bits .and .u32 (x / 268435456) 1 == 1) = false) (EA : bits .and .u32 (x / 16777216) 15 = a) (a0 : 0 ≤ a) (a1 : a ≤ 15) (EB : bits .and .u32 (x / 1048576) 15 = b) (b0 : 0 ≤ b) (b1 : b ≤ 15) (EO : bits .and .u32 (x / 65536) 15 = 0) :
    Calls Tryz.prog 48 #[.int .u32 x] w fun e w' => e = .returned (.agg #[.int .i64 3, .int .i64 0, .int .i64 a, .int .i64 0, .int .i64 0, .int .i64 0, .bool false]) ∧ Kept w w' := by
  go_enter Tryz.func48, Tryz.ntmps48
  go_wp2_with fail
  exact bodyPost_ret (v := .agg #[.int .i64 3, .int .i64 0, .int .i64 a, .int .i64 0, .int .i64 0, .int .i64 0, .bool false]) (by simp [results, Tryz.results48, go_sem]) rfl ⟨rfl, (Kept.refl w).alloc _ _⟩
set_option maxRecDepth 100000 in
set_option maxHeartbeats 1000000 in
theorem guess_0c (x a b c op : Int) (v : Bool) (w : World) (x0 : 0 ≤ x) (x1 : x < 4294967296)
    (EF : x / 1073741824 = 0) (EU : (bits .and .u32 (x / 536870912) 1 == 1) = true) (EV : (bits .and .u32 (x / 268435456) 1 == 1) = v) (EA : bits .and .u32 (x / 16777216) 15 = a) (a0 : 0 ≤ a) (a1 : a ≤ 15) (EB : bits .and .u32 (x / 1048576) 15 = b) (b0 : 0 ≤ b) (b1 : b ≤ 15) (EO : bits .and .u32 (x / 65536) 15 = op) (o0 : 0 ≤ op) (o1 : op ≤ 15) (hz : (op == 0) = false) (hz1 : ¬ op = 0) (EC : bits .and .u32 x 15 = c) (c0 : 0 ≤ c) (c1 : c ≤ 15) :
    Calls Tryz.prog 48 #[.int .u32 x] w fun e w' => e = .returned (.agg #[.int .i64 1, .int .i64 op, .int .i64 a, .int .i64 b, .int .i64 c, .int .i64 0, .bool true]) ∧ Kept w w' := by
  go_enter Tryz.func48, Tryz.ntmps48
  go_wp2_with fail
  exact bodyPost_ret (v := .agg #[.int .i64 1, .int .i64 op, .int .i64 a, .int .i64 b, .int .i64 c, .int .i64 0, .bool true]) (by simp [results, Tryz.results48, go_sem]) rfl ⟨rfl, (Kept.refl w).alloc _ _⟩
set_option maxRecDepth 100000 in
set_option maxHeartbeats 1000000 in
theorem guess_0d (x a b c op : Int) (v : Bool) (w : World) (x0 : 0 ≤ x) (x1 : x < 4294967296)
    (EF : x / 1073741824 = 0) (EU : (bits .and .u32 (x / 536870912) 1 == 1) = false) (EV : (bits .and .u32 (x / 268435456) 1 == 1) = v) (EA : bits .and .u32 (x / 16777216) 15 = a) (a0 : 0 ≤ a) (a1 : a ≤ 15) (EB : bits .and .u32 (x / 1048576) 15 = b) (b0 : 0 ≤ b) (b1 : b ≤ 15) (EO : bits .and .u32 (x / 65536) 15 = op) (o0 : 0 ≤ op) (o1 : op ≤ 15) (EC : bits .and .u32 x 15 = c) (c0 : 0 ≤ c) (c1 : c ≤ 15) :
    Calls Tryz.prog 48 #[.int .u32 x] w fun e w' => e = .returned (.agg #[.int .i64 1, .int .i64 op, .int .i64 a, .int .i64 b, .int .i64 c, .int .i64 0, .bool false]) ∧ Kept w w' := by
  go_enter Tryz.func48, Tryz.ntmps48
  go_wp2_with fail
  exact bodyPost_ret (v := .agg #[.int .i64 1, .int .i64 op, .int .i64 a, .int .i64 b, .int .i64 c, .int .i64 0, .bool false]) (by simp [results, Tryz.results48, go_sem]) rfl ⟨rfl, (Kept.refl w).alloc _ _⟩
set_option maxRecDepth 100000 in
set_option maxHeartbeats 1000000 in
theorem guess_1t (x a b m op : Int) (u : Bool) (w : World) (x0 : 0 ≤ x) (x1 : x < 4294967296)
    (EF : x / 1073741824 = 1) (EU : (bits .and .u32 (x / 536870912) 1 == 1) = u) (EV : (bits .and .u32 (x / 268435456) 1 == 1) = true) (EA : bits .and .u32 (x / 16777216) 15 = a) (a0 : 0 ≤ a) (a1 : a ≤ 15) (EB : bits .and .u32 (x / 1048576) 15 = b) (b0 : 0 ≤ b) (b1 : b ≤ 15) (EO : bits .and .u32 (x / 65536) 15 = op) (o0 : 0 ≤ op) (o1 : op ≤ 15) (EM : bits .and .u32 x 65535 = m) (m0 : 0 ≤ m) (m1 : m ≤ 65535) :
    Calls Tryz.prog 48 #[.int .u32 x] w fun e w' => e = .returned (.agg #[.int .i64 2, .int .i64 op, .int .i64 a, .int .i64 b, .int .i64 0, .int .i64 (m - 65536), .bool u]) ∧ Kept w w' := by
  go_enter Tryz.func48, Tryz.ntmps48
  go_wp2_with fail
  exact bodyPost_ret (v := .agg #[.int .i64 2, .int .i64 op, .int .i64 a, .int .i64 b, .int .i64 0, .int .i64 (m - 65536), .bool u]) (by simp [results, Tryz.results48, go_sem]) rfl ⟨rfl, (Kept.refl w).alloc _ _⟩
set_option maxRecDepth 100000 in
set_option maxHeartbeats 1000000 in
theorem guess_1f (x a b m op : Int) (u : Bool) (w : World) (x0 : 0 ≤ x) (x1 : x < 4294967296)
    (EF : x / 1073741824 = 1) (EU : (bits .and .u32 (x / 536870912) 1 == 1) = u) (EV : (bits .and .u32 (x / 268435456) 1 == 1) = false) (EA : bits .and .u32 (x / 16777216) 15 = a) (a0 : 0 ≤ a) (a1 : a ≤ 15) (EB : bits .and .u32 (x / 1048576) 15 = b) (b0 : 0 ≤ b) (b1 : b ≤ 15) (EO : bits .and .u32 (x / 65536) 15 = op) (o0 : 0 ≤ op) (o1 : op ≤ 15) (EM : bits .and .u32 x 65535 = m) (m0 : 0 ≤ m) (m1 : m ≤ 65535) :
    Calls Tryz.prog 48 #[.int .u32 x] w fun e w' => e = .returned (.agg #[.int .i64 2, .int .i64 op, .int .i64 a, .int .i64 b, .int .i64 0, .int .i64 m, .bool u]) ∧ Kept w w' := by
  go_enter Tryz.func48, Tryz.ntmps48
  go_wp2_with fail
  exact bodyPost_ret (v := .agg #[.int .i64 2, .int .i64 op, .int .i64 a, .int .i64 b, .int .i64 0, .int .i64 m, .bool u]) (by simp [results, Tryz.results48, go_sem]) rfl ⟨rfl, (Kept.refl w).alloc _ _⟩
set_option maxRecDepth 100000 in
set_option maxHeartbeats 1000000 in
theorem guess_2 (x a b op i U V : Int) (u : Bool) (v : Bool) (w : World) (x0 : 0 ≤ x) (x1 : x < 4294967296)
    (EF : x / 1073741824 = 2) (EU : (bits .and .u32 (x / 536870912) 1 == 1) = u) (EV : (bits .and .u32 (x / 268435456) 1 == 1) = v) (EA : bits .and .u32 (x / 16777216) 15 = a) (a0 : 0 ≤ a) (a1 : a ≤ 15) (EB : bits .and .u32 (x / 1048576) 15 = b) (b0 : 0 ≤ b) (b1 : b ≤ 15) (EO : bits .and .u32 (x / 65536) 15 = op) (o0 : 0 ≤ op) (o1 : op ≤ 15) (U0 : 0 ≤ U) (U1 : U ≤ 1) (V0 : 0 ≤ V) (V1 : V ≤ 1)
    (CU : Hid (∀ w, Calls Tryz.prog 42 #[.bool u] w fun e w' => e = .returned (.int .u32 U) ∧ w = w'))
    (CV : Hid (∀ w, Calls Tryz.prog 42 #[.bool v] w fun e w' => e = .returned (.int .u32 V) ∧ w = w'))
    (CS : Hid (∀ w, Calls Tryz.prog 67 #[.int .u32 x, .int .i64 20] w fun e w' => e = .returned (.int .i64 i) ∧ w = w')) :
    Calls Tryz.prog 48 #[.int .u32 x] w fun e w' => e = .returned (.agg #[.int .i64 5, .int .i64 (2 * U + V), .int .i64 a, .int .i64 b, .int .i64 0, .int .i64 i, .bool false]) ∧ Kept w w' := by
  go_enter Tryz.func48, Tryz.ntmps48
  go_wp2_with fail
  refine (CU.out _).mono ?_; rintro e w' ⟨rfl, rfl⟩
  go_wp2_with fail
  refine (CV.out _).mono ?_; rintro e w' ⟨rfl, rfl⟩
  go_wp2_with fail
  refine (CS.out _).mono ?_; rintro e w' ⟨rfl, rfl⟩
  go_wp2_with fail
  exact bodyPost_ret (v := .agg #[.int .i64 5, .int .i64 (2 * U + V), .int .i64 a, .int .i64 b, .int .i64 0, .int .i64 i, .bool false]) (by simp [results, Tryz.results48, go_sem]) rfl ⟨rfl, (Kept.refl w).alloc _ _⟩
set_option maxRecDepth 100000 in
set_option maxHeartbeats 1000000 in
theorem guess_3j (x a b op i : Int) (v : Bool) (w : World) (x0 : 0 ≤ x) (x1 : x < 4294967296)
    (EF : x / 1073741824 = 3) (EU : (bits .and .u32 (x / 536870912) 1 == 1) = true) (EV : (bits .and .u32 (x / 268435456) 1 == 1) = v) (EA : bits .and .u32 (x / 16777216) 15 = a) (a0 : 0 ≤ a) (a1 : a ≤ 15) (EB : bits .and .u32 (x / 1048576) 15 = b) (b0 : 0 ≤ b) (b1 : b ≤ 15) (EO : bits .and .u32 (x / 65536) 15 = op) (o0 : 0 ≤ op) (o1 : op ≤ 15)
    (CS : Hid (∀ w, Calls Tryz.prog 67 #[.int .u32 x, .int .i64 24] w fun e w' => e = .returned (.int .i64 i) ∧ w = w')) :
    Calls Tryz.prog 48 #[.int .u32 x] w fun e w' => e = .returned (.agg #[.int .i64 7, .int .i64 a, .int .i64 0, .int .i64 0, .int .i64 0, .int .i64 i, .bool v]) ∧ Kept w w' := by
  go_enter Tryz.func48, Tryz.ntmps48
  go_wp2_with fail
  refine (CS.out _).mono ?_; rintro e w' ⟨rfl, rfl⟩
  go_wp2_with fail
  exact bodyPost_ret (v := .agg #[.int .i64 7, .int .i64 a, .int .i64 0, .int .i64 0, .int .i64 0, .int .i64 i, .bool v]) (by simp [results, Tryz.results48, go_sem]) rfl ⟨rfl, (Kept.refl w).alloc _ _⟩
set_option maxRecDepth 100000 in
set_option maxHeartbeats 1000000 in
theorem guess_3b (x a b op c : Int) (v : Bool) (w : World) (x0 : 0 ≤ x) (x1 : x < 4294967296)
    (EF : x / 1073741824 = 3) (EU : (bits .and .u32 (x / 536870912) 1 == 1) = false) (EV : (bits .and .u32 (x / 268435456) 1 == 1) = v) (EA : bits .and .u32 (x / 16777216) 15 = a) (a0 : 0 ≤ a) (a1 : a ≤ 15) (EB : bits .and .u32 (x / 1048576) 15 = b) (b0 : 0 ≤ b) (b1 : b ≤ 15) (EO : bits .and .u32 (x / 65536) 15 = op) (o0 : 0 ≤ op) (o1 : op ≤ 15) (EC : bits .and .u32 x 15 = c) (c0 : 0 ≤ c) (c1 : c ≤ 15) :
    Calls Tryz.prog 48 #[.int .u32 x] w fun e w' => e = .returned (.agg #[.int .i64 6, .int .i64 a, .int .i64 0, .int .i64 0, .int .i64 c, .int .i64 0, .bool v]) ∧ Kept w w' := by
  go_enter Tryz.func48, Tryz.ntmps48
  go_wp2_with fail
  exact bodyPost_ret (v := .agg #[.int .i64 6, .int .i64 a, .int .i64 0, .int .i64 0, .int .i64 c, .int .i64 0, .bool v]) (by simp [results, Tryz.results48, go_sem]) rfl ⟨rfl, (Kept.refl w).alloc _ _⟩
theorem rsgn_lit (x : Int) (hx : U32 x) (n r : Int) (hr : F.sgnd x (F.clamp n) = r) (w : World) :
    Calls Tryz.prog 67 #[.int .u32 x, .int .i64 n] w fun e w' => e = .returned (.int .i64 r) ∧ w = w' := hr ▸ rsgnd_any x n hx.1 hx.2 w
theorem rguess_any (x : Int) (hx : U32 x) (w : World) :
    Calls Tryz.prog 48 #[.int .u32 x] w fun e w' => e = .returned (.agg #[.int .i64 (I.guess x).k, .int .i64 (I.guess x).op, .int .i64 (I.guess x).a, .int .i64 (I.guess x).b, .int .i64 (I.guess x).c, .int .i64 (I.guess x).i, .bool (I.guess x).u]) ∧ Kept w w' := by
  have x0 := hx.1
  have x1 := hx.2
  have EA : bits .and .u32 (x / 16777216) 15 = x / 16777216 % 16 := I.and_mask _ ⟨by omega, by omega⟩ 4 15 (by omega) rfl
  have EB : bits .and .u32 (x / 1048576) 15 = x / 1048576 % 16 := I.and_mask _ ⟨by omega, by omega⟩ 4 15 (by omega) rfl
  have EO : bits .and .u32 (x / 65536) 15 = x / 65536 % 16 := I.and_mask _ ⟨by omega, by omega⟩ 4 15 (by omega) rfl
  have EC : bits .and .u32 x 15 = x % 16 := I.and_mask _ hx 4 15 (by omega) rfl
  have EM : bits .and .u32 x 65535 = x % 65536 := I.and_mask _ hx 16 65535 (by omega) rfl
  have EU : (bits .and .u32 (x / 536870912) 1 == 1) = decide (x / 536870912 % 2 = 1) := by
    rw [I.and_mask (x / 536870912) ⟨by omega, by omega⟩ 1 1 (by omega) rfl, Bool.eq_iff_iff, beq_iff_eq, decide_eq_true_eq]; rfl
  have EV : (bits .and .u32 (x / 268435456) 1 == 1) = decide (x / 268435456 % 2 = 1) := by
    rw [I.and_mask (x / 268435456) ⟨by omega, by omega⟩ 1 1 (by omega) rfl, Bool.eq_iff_iff, beq_iff_eq, decide_eq_true_eq]; rfl
  have hf : x / 1073741824 = 0 ∨ x / 1073741824 = 1 ∨ x / 1073741824 = 2 ∨ x / 1073741824 = 3 := by omega
  rcases hf with h | h | h | h
  · by_cases hu : x / 536870912 % 2 = 1
    · rw [decide_eq_true hu] at EU
      by_cases hz : x / 65536 % 16 = 0
      · rw [hz] at EO
        by_cases hv : x / 268435456 % 2 = 1
        · rw [decide_eq_true hv] at EV
          rw [show I.guess x = ⟨4, 0, x / 16777216 % 16, 0, 0, 0, false⟩ by unfold I.guess; rw [if_pos h, if_pos ⟨hu, hz⟩, if_pos hv]]
          exact guess_0a x (x / 16777216 % 16) (x / 1048576 % 16) w x0 x1 h EU EV EA (by omega) (by omega) EB (by omega) (by omega) EO
        · rw [decide_eq_false hv] at EV
          rw [show I.guess x = ⟨3, 0, x / 16777216 % 16, 0, 0, 0, false⟩ by unfold I.guess; rw [if_pos h, if_pos ⟨hu, hz⟩, if_neg hv]]
          exact guess_0b x (x / 16777216 % 16) (x / 1048576 % 16) w x0 x1 h EU EV EA (by omega) (by omega) EB (by omega) (by omega) EO
      · rw [show I.guess x = ⟨1, x / 65536 % 16, x / 16777216 % 16, x / 1048576 % 16, x % 16, 0, true⟩ by unfold I.guess; rw [if_pos h, if_neg (fun g => hz g.2), decide_eq_true hu]]
        exact guess_0c x (x / 16777216 % 16) (x / 1048576 % 16) (x % 16) (x / 65536 % 16) _ w x0 x1 h EU EV EA (by omega) (by omega) EB (by omega) (by omega) EO (by omega) (by omega) (by simpa using hz) hz EC (by omega) (by omega)
    · rw [decide_eq_false hu] at EU
      rw [show I.guess x = ⟨1, x / 65536 % 16, x / 16777216 % 16, x / 1048576 % 16, x % 16, 0, false⟩ by unfold I.guess; rw [if_pos h, if_neg (fun g => hu g.1), decide_eq_false hu]]
      exact guess_0d x (x / 16777216 % 16) (x / 1048576 % 16) (x % 16) (x / 65536 % 16) _ w x0 x1 h EU EV EA (by omega) (by omega) EB (by omega) (by omega) EO (by omega) (by omega) EC (by omega) (by omega)
  · by_cases hv : x / 268435456 % 2 = 1
    · rw [decide_eq_true hv] at EV
      rw [show I.guess x = ⟨2, x / 65536 % 16, x / 16777216 % 16, x / 1048576 % 16, 0, x % 65536 - 65536, decide (x / 536870912 % 2 = 1)⟩ by unfold I.guess; rw [if_neg (by omega), if_pos h, if_pos hv]]
      exact guess_1t x (x / 16777216 % 16) (x / 1048576 % 16) (x % 65536) (x / 65536 % 16) _ w x0 x1 h EU EV EA (by omega) (by omega) EB (by omega) (by omega) EO (by omega) (by omega) EM (by omega) (by omega)
    · rw [decide_eq_false hv] at EV
      rw [show I.guess x = ⟨2, x / 65536 % 16, x / 16777216 % 16, x / 1048576 % 16, 0, x % 65536, decide (x / 536870912 % 2 = 1)⟩ by unfold I.guess; rw [if_neg (by omega), if_pos h, if_neg hv]]
      exact guess_1f x (x / 16777216 % 16) (x / 1048576 % 16) (x % 65536) (x / 65536 % 16) _ w x0 x1 h EU EV EA (by omega) (by omega) EB (by omega) (by omega) EO (by omega) (by omega) EM (by omega) (by omega)
  · have hb : ∀ y : Int, I.bit (decide (y % 2 = 1)) = y % 2 := fun y => by
      by_cases q : y % 2 = 1
      · rw [decide_eq_true q, q]; rfl
      · rw [decide_eq_false q]; show (0 : Int) = _; omega
    have e : x / 268435456 % 4 = 2 * I.bit (decide (x / 536870912 % 2 = 1)) + I.bit (decide (x / 268435456 % 2 = 1)) := by rw [hb, hb]; omega
    rw [show I.guess x = ⟨5, 2 * I.bit (decide (x / 536870912 % 2 = 1)) + I.bit (decide (x / 268435456 % 2 = 1)), x / 16777216 % 16, x / 1048576 % 16, 0, I.sx 524288 (x % 1048576), false⟩ by unfold I.guess; rw [if_neg (by omega), if_neg (by omega), if_pos h, e]]
    exact guess_2 x (x / 16777216 % 16) (x / 1048576 % 16) (x / 65536 % 16) _ _ _ _ _ w x0 x1 h EU EV EA (by omega) (by omega) EB (by omega) (by omega) EO (by omega) (by omega) (I.bit_lo _) (I.bit_hi _) (I.bit_lo _) (I.bit_hi _) (Lib.hid (one_any _)) (Lib.hid (one_any _)) (Lib.hid (rsgn_lit x hx 20 _ (I.sx20 x)))
  · by_cases hu : x / 536870912 % 2 = 1
    · rw [decide_eq_true hu] at EU
      rw [show I.guess x = ⟨7, x / 16777216 % 16, 0, 0, 0, I.sx 8388608 (x % 16777216), decide (x / 268435456 % 2 = 1)⟩ by unfold I.guess; rw [if_neg (by omega), if_neg (by omega), if_neg (by omega), if_pos hu]]
      exact guess_3j x (x / 16777216 % 16) (x / 1048576 % 16) (x / 65536 % 16) _ _ w x0 x1 h EU EV EA (by omega) (by omega) EB (by omega) (by omega) EO (by omega) (by omega) (Lib.hid (rsgn_lit x hx 24 _ (I.sx24 x)))
    · rw [decide_eq_false hu] at EU
      rw [show I.guess x = ⟨6, x / 16777216 % 16, 0, 0, x % 16, 0, decide (x / 268435456 % 2 = 1)⟩ by unfold I.guess; rw [if_neg (by omega), if_neg (by omega), if_neg (by omega), if_neg hu]]
      exact guess_3b x (x / 16777216 % 16) (x / 1048576 % 16) (x / 65536 % 16) (x % 16) _ w x0 x1 h EU EV EA (by omega) (by omega) EB (by omega) (by omega) EO (by omega) (by omega) EC (by omega) (by omega)
set_option maxHeartbeats 2000000 in
theorem rdec_1 (x k op a b c i : Int) (u : Bool) (w : World)
    (CR : Hid (∀ w, Calls Tryz.prog 48 #[.int .u32 x] w fun e w' => e = .returned (.agg #[.int .i64 k, .int .i64 op, .int .i64 a, .int .i64 b, .int .i64 c, .int .i64 i, .bool u]) ∧ Kept w w'))
    (CE : Hid (∀ w, Calls Tryz.prog 27 #[.agg #[.int .i64 k, .int .i64 op, .int .i64 a, .int .i64 b, .int .i64 c, .int .i64 i, .bool u]] w fun e w' => e = .returned (.tuple #[.int .u32 0, .int .i64 1]) ∧ Kept w w')) :
    Calls Tryz.prog 30 #[.int .u32 x] w fun e w' => e = .returned (.tuple #[.agg #[.int .i64 0, .int .i64 0, .int .i64 0, .int .i64 0, .int .i64 0, .int .i64 0, .bool false], .bool false]) ∧ Kept w w' := by
  have X1 := Lib.hid (Box.new 0 0 0 0 0 0 false w)
  have HB := Lib.hid (show Kept w (w.alloc (.cells #[.int .i64 0, .int .i64 0, .int .i64 0, .int .i64 0, .int .i64 0, .int .i64 0, .bool false] 57)) from (Kept.refl w).alloc _ _)
  have HL := Lib.hid (show w.heap.size < (w.alloc (.cells #[.int .i64 0, .int .i64 0, .int .i64 0, .int .i64 0, .int .i64 0, .int .i64 0, .bool false] 57)).heap.size from by simp)
  go_enter Tryz.func30, Tryz.ntmps30
  go_wp2_with fail
  refine (CR.out _).mono ?_; rintro e w5 ⟨rfl, hK1⟩
  have HK := Lib.hid hK1
  have HN := Lib.hid (show w.heap.size ≠ w5.heap.size from by have := HK.out.size; have := HL.out; omega)
  clear hK1
  go_upto_region 2 with (fail)
  have XI := Box.new k op a b c i u w5
  have XZ := (X1.out.kept HK.out).alloc (.cells #[.int .i64 k, .int .i64 op, .int .i64 a, .int .i64 b, .int .i64 c, .int .i64 i, .bool u] 57)
  have KK := (HB.out.trans HK.out).alloc #[.int .i64 k, .int .i64 op, .int .i64 a, .int .i64 b, .int .i64 c, .int .i64 i, .bool u] 57
  generalize (w5.alloc (.cells #[.int .i64 k, .int .i64 op, .int .i64 a, .int .i64 b, .int .i64 c, .int .i64 i, .bool u] 57)) = w6 at XI XZ KK ⊢
  generalize w5.heap.size = B2 at HN XI ⊢
  have HI := Lib.hid XI
  have HZ := Lib.hid XZ
  have HKK := Lib.hid KK
  clear HK X1 HB HL XI XZ KK
  obtain ⟨i0, i1, i2, i3, i4, i5, i6⟩ := HI.out.cells
  go_wp2_with fail
  refine (CE.out _).mono ?_; rintro e w7 ⟨rfl, hK6⟩
  clear i0 i1 i2 i3 i4 i5 i6
  obtain ⟨i0, i1, i2, i3, i4, i5, i6⟩ := (HI.out.kept hK6).cells
  obtain ⟨z0, z1, z2, z3, z4, z5, z6⟩ := (HZ.out.kept hK6).cells
  obtain ⟨f0, f1, f2, f3, f4, f5, f6⟩ := (HZ.out.kept hK6).free
  have R := Lib.hid ((HZ.out.kept hK6).stored (k' := 0) (op' := 0) (a' := 0) (b' := 0) (c' := 0) (i' := 0) (u' := false))
  have RK := Lib.hid ((HKK.out.trans hK6).store7 (B' := w.heap.size) (by omega) (0) (0) (0) (0) (0) (0) (false))
  go_wp2_with fail
  clear z0 z1 z2 z3 z4 z5 z6 f0 f1 f2 f3 f4 f5 f6
  have R := R.out
  have RK := RK.out
  unfold store7 at R RK
  generalize (((((((w7.setCell ⟨w.heap.size, 0, none⟩ (.int .i64 (0))).setCell ⟨w.heap.size, 1, none⟩ (.int .i64 (0))).setCell ⟨w.heap.size, 2, none⟩ (.int .i64 (0))).setCell ⟨w.heap.size, 3, none⟩ (.int .i64 (0))).setCell ⟨w.heap.size, 4, none⟩ (.int .i64 (0))).setCell ⟨w.heap.size, 5, none⟩ (.int .i64 (0))).setCell ⟨w.heap.size, 6, none⟩ (.bool (false))) = w9 at R RK ⊢
  obtain ⟨r0, r1, r2, r3, r4, r5, r6⟩ := R.cells
  exact bodyPost_ret (v := .tuple #[.agg #[.int .i64 0, .int .i64 0, .int .i64 0, .int .i64 0, .int .i64 0, .int .i64 0, .bool false], .bool false]) (by simp [results, Tryz.results30, go_sem, r0, r1, r2, r3, r4, r5, r6]) rfl ⟨rfl, RK⟩
set_option maxHeartbeats 2000000 in
theorem rdec_2 (x k op a b c i own : Int) (u : Bool) (hne : ¬ own = x) (hn1 : (own == x) = false) (hn2 : (own != x) = true) (w : World)
    (CR : Hid (∀ w, Calls Tryz.prog 48 #[.int .u32 x] w fun e w' => e = .returned (.agg #[.int .i64 k, .int .i64 op, .int .i64 a, .int .i64 b, .int .i64 c, .int .i64 i, .bool u]) ∧ Kept w w'))
    (CE : Hid (∀ w, Calls Tryz.prog 27 #[.agg #[.int .i64 k, .int .i64 op, .int .i64 a, .int .i64 b, .int .i64 c, .int .i64 i, .bool u]] w fun e w' => e = .returned (.tuple #[.int .u32 own, .int .i64 0]) ∧ Kept w w')) :
    Calls Tryz.prog 30 #[.int .u32 x] w fun e w' => e = .returned (.tuple #[.agg #[.int .i64 0, .int .i64 0, .int .i64 0, .int .i64 0, .int .i64 0, .int .i64 0, .bool false], .bool false]) ∧ Kept w w' := by
  have X1 := Lib.hid (Box.new 0 0 0 0 0 0 false w)
  have HB := Lib.hid (show Kept w (w.alloc (.cells #[.int .i64 0, .int .i64 0, .int .i64 0, .int .i64 0, .int .i64 0, .int .i64 0, .bool false] 57)) from (Kept.refl w).alloc _ _)
  have HL := Lib.hid (show w.heap.size < (w.alloc (.cells #[.int .i64 0, .int .i64 0, .int .i64 0, .int .i64 0, .int .i64 0, .int .i64 0, .bool false] 57)).heap.size from by simp)
  go_enter Tryz.func30, Tryz.ntmps30
  go_wp2_with fail
  refine (CR.out _).mono ?_; rintro e w5 ⟨rfl, hK1⟩
  have HK := Lib.hid hK1
  have HN := Lib.hid (show w.heap.size ≠ w5.heap.size from by have := HK.out.size; have := HL.out; omega)
  clear hK1
  go_upto_region 2 with (fail)
  have XI := Box.new k op a b c i u w5
  have XZ := (X1.out.kept HK.out).alloc (.cells #[.int .i64 k, .int .i64 op, .int .i64 a, .int .i64 b, .int .i64 c, .int .i64 i, .bool u] 57)
  have KK := (HB.out.trans HK.out).alloc #[.int .i64 k, .int .i64 op, .int .i64 a, .int .i64 b, .int .i64 c, .int .i64 i, .bool u] 57
  generalize (w5.alloc (.cells #[.int .i64 k, .int .i64 op, .int .i64 a, .int .i64 b, .int .i64 c, .int .i64 i, .bool u] 57)) = w6 at XI XZ KK ⊢
  generalize w5.heap.size = B2 at HN XI ⊢
  have HI := Lib.hid XI
  have HZ := Lib.hid XZ
  have HKK := Lib.hid KK
  clear HK X1 HB HL XI XZ KK
  obtain ⟨i0, i1, i2, i3, i4, i5, i6⟩ := HI.out.cells
  go_wp2_with fail
  refine (CE.out _).mono ?_; rintro e w7 ⟨rfl, hK6⟩
  clear i0 i1 i2 i3 i4 i5 i6
  obtain ⟨i0, i1, i2, i3, i4, i5, i6⟩ := (HI.out.kept hK6).cells
  obtain ⟨z0, z1, z2, z3, z4, z5, z6⟩ := (HZ.out.kept hK6).cells
  obtain ⟨f0, f1, f2, f3, f4, f5, f6⟩ := (HZ.out.kept hK6).free
  have R := Lib.hid ((HZ.out.kept hK6).stored (k' := 0) (op' := 0) (a' := 0) (b' := 0) (c' := 0) (i' := 0) (u' := false))
  have RK := Lib.hid ((HKK.out.trans hK6).store7 (B' := w.heap.size) (by omega) (0) (0) (0) (0) (0) (0) (false))
  go_wp2_with fail
  clear z0 z1 z2 z3 z4 z5 z6 f0 f1 f2 f3 f4 f5 f6
  have R := R.out
  have RK := RK.out
  unfold store7 at R RK
  generalize (((((((w7.setCell ⟨w.heap.size, 0, none⟩ (.int .i64 (0))).setCell ⟨w.heap.size, 1, none⟩ (.int .i64 (0))).setCell ⟨w.heap.size, 2, none⟩ (.int .i64 (0))).setCell ⟨w.heap.size, 3, none⟩ (.int .i64 (0))).setCell ⟨w.heap.size, 4, none⟩ (.int .i64 (0))).setCell ⟨w.heap.size, 5, none⟩ (.int .i64 (0))).setCell ⟨w.heap.size, 6, none⟩ (.bool (false))) = w9 at R RK ⊢
  obtain ⟨r0, r1, r2, r3, r4, r5, r6⟩ := R.cells
  exact bodyPost_ret (v := .tuple #[.agg #[.int .i64 0, .int .i64 0, .int .i64 0, .int .i64 0, .int .i64 0, .int .i64 0, .bool false], .bool false]) (by simp [results, Tryz.results30, go_sem, r0, r1, r2, r3, r4, r5, r6]) rfl ⟨rfl, RK⟩
set_option maxHeartbeats 2000000 in
theorem rdec_3 (x k op a b c i : Int) (u : Bool) (w : World)
    (CR : Hid (∀ w, Calls Tryz.prog 48 #[.int .u32 x] w fun e w' => e = .returned (.agg #[.int .i64 k, .int .i64 op, .int .i64 a, .int .i64 b, .int .i64 c, .int .i64 i, .bool u]) ∧ Kept w w'))
    (CE : Hid (∀ w, Calls Tryz.prog 27 #[.agg #[.int .i64 k, .int .i64 op, .int .i64 a, .int .i64 b, .int .i64 c, .int .i64 i, .bool u]] w fun e w' => e = .returned (.tuple #[.int .u32 x, .int .i64 0]) ∧ Kept w w')) :
    Calls Tryz.prog 30 #[.int .u32 x] w fun e w' => e = .returned (.tuple #[.agg #[.int .i64 k, .int .i64 op, .int .i64 a, .int .i64 b, .int .i64 c, .int .i64 i, .bool u], .bool true]) ∧ Kept w w' := by
  have X1 := Lib.hid (Box.new 0 0 0 0 0 0 false w)
  have HB := Lib.hid (show Kept w (w.alloc (.cells #[.int .i64 0, .int .i64 0, .int .i64 0, .int .i64 0, .int .i64 0, .int .i64 0, .bool false] 57)) from (Kept.refl w).alloc _ _)
  have HL := Lib.hid (show w.heap.size < (w.alloc (.cells #[.int .i64 0, .int .i64 0, .int .i64 0, .int .i64 0, .int .i64 0, .int .i64 0, .bool false] 57)).heap.size from by simp)
  go_enter Tryz.func30, Tryz.ntmps30
  go_wp2_with fail
  refine (CR.out _).mono ?_; rintro e w5 ⟨rfl, hK1⟩
  have HK := Lib.hid hK1
  have HN := Lib.hid (show w.heap.size ≠ w5.heap.size from by have := HK.out.size; have := HL.out; omega)
  clear hK1
  go_upto_region 2 with (fail)
  have XI := Box.new k op a b c i u w5
  have XZ := (X1.out.kept HK.out).alloc (.cells #[.int .i64 k, .int .i64 op, .int .i64 a, .int .i64 b, .int .i64 c, .int .i64 i, .bool u] 57)
  have KK := (HB.out.trans HK.out).alloc #[.int .i64 k, .int .i64 op, .int .i64 a, .int .i64 b, .int .i64 c, .int .i64 i, .bool u] 57
  generalize (w5.alloc (.cells #[.int .i64 k, .int .i64 op, .int .i64 a, .int .i64 b, .int .i64 c, .int .i64 i, .bool u] 57)) = w6 at XI XZ KK ⊢
  generalize w5.heap.size = B2 at HN XI ⊢
  have HI := Lib.hid XI
  have HZ := Lib.hid XZ
  have HKK := Lib.hid KK
  clear HK X1 HB HL XI XZ KK
  obtain ⟨i0, i1, i2, i3, i4, i5, i6⟩ := HI.out.cells
  go_wp2_with fail
  refine (CE.out _).mono ?_; rintro e w7 ⟨rfl, hK6⟩
  clear i0 i1 i2 i3 i4 i5 i6
  obtain ⟨i0, i1, i2, i3, i4, i5, i6⟩ := (HI.out.kept hK6).cells
  obtain ⟨z0, z1, z2, z3, z4, z5, z6⟩ := (HZ.out.kept hK6).cells
  obtain ⟨f0, f1, f2, f3, f4, f5, f6⟩ := (HZ.out.kept hK6).free
  have R := Lib.hid ((HZ.out.kept hK6).stored (k' := k) (op' := op) (a' := a) (b' := b) (c' := c) (i' := i) (u' := u))
  have RK := Lib.hid ((HKK.out.trans hK6).store7 (B' := w.heap.size) (by omega) (k) (op) (a) (b) (c) (i) (u))
  go_wp2_with fail
  clear z0 z1 z2 z3 z4 z5 z6 f0 f1 f2 f3 f4 f5 f6
  have R := R.out
  have RK := RK.out
  unfold store7 at R RK
  generalize (((((((w7.setCell ⟨w.heap.size, 0, none⟩ (.int .i64 (k))).setCell ⟨w.heap.size, 1, none⟩ (.int .i64 (op))).setCell ⟨w.heap.size, 2, none⟩ (.int .i64 (a))).setCell ⟨w.heap.size, 3, none⟩ (.int .i64 (b))).setCell ⟨w.heap.size, 4, none⟩ (.int .i64 (c))).setCell ⟨w.heap.size, 5, none⟩ (.int .i64 (i))).setCell ⟨w.heap.size, 6, none⟩ (.bool (u))) = w9 at R RK ⊢
  obtain ⟨r0, r1, r2, r3, r4, r5, r6⟩ := R.cells
  exact bodyPost_ret (v := .tuple #[.agg #[.int .i64 k, .int .i64 op, .int .i64 a, .int .i64 b, .int .i64 c, .int .i64 i, .bool u], .bool true]) (by simp [results, Tryz.results30, go_sem, r0, r1, r2, r3, r4, r5, r6]) rfl ⟨rfl, RK⟩
theorem rdec_any (x : Int) (hx : U32 x) (w : World) :
    Calls Tryz.prog 30 #[.int .u32 x] w fun e w' => e = .returned (.tuple #[.agg #[.int .i64 (I.dec x).k, .int .i64 (I.dec x).op, .int .i64 (I.dec x).a, .int .i64 (I.dec x).b, .int .i64 (I.dec x).c, .int .i64 (I.dec x).i, .bool (I.dec x).u], .bool (I.is x)]) ∧ Kept w w' := by
  have CR := rguess_any x hx
  have CE := renc_any (I.guess x).k (I.guess x).op (I.guess x).a (I.guess x).b (I.guess x).c (I.guess x).i (I.guess x).u
  by_cases hm : I.may (I.guess x) = true
  · have e1 : I.err (I.guess x) = 0 := by simp [I.err, hm]
    have e2 : I.enc (I.guess x) = I.word (I.guess x) := by simp [I.enc, hm]
    have CE : ∀ w, Calls Tryz.prog 27 #[.agg #[.int .i64 (I.guess x).k, .int .i64 (I.guess x).op, .int .i64 (I.guess x).a, .int .i64 (I.guess x).b, .int .i64 (I.guess x).c, .int .i64 (I.guess x).i, .bool (I.guess x).u]] w fun e w' => e = .returned (.tuple #[.int .u32 (I.enc (I.guess x)), .int .i64 (I.err (I.guess x))]) ∧ Kept w w' := CE
    rw [e1, e2] at CE
    by_cases ho : I.word (I.guess x) = x
    · have e3 : I.is x = true := by simp [I.is, hm, ho]
      rw [ho] at CE
      rw [show I.dec x = I.guess x by simp [I.dec, e3], e3]
      exact rdec_3 x _ _ _ _ _ _ _ w (Lib.hid CR) (Lib.hid CE)
    · have e3 : I.is x = false := by simp [I.is, ho]
      rw [show I.dec x = ⟨0, 0, 0, 0, 0, 0, false⟩ by simp [I.dec, e3], e3]
      exact rdec_2 x _ _ _ _ _ _ _ _ ho (by simpa using ho) (by simpa using ho) w (Lib.hid CR) (Lib.hid CE)
  · have hm : I.may (I.guess x) = false := by simpa using hm
    have e1 : I.err (I.guess x) = 1 := by simp [I.err, hm]
    have e2 : I.enc (I.guess x) = 0 := by simp [I.enc, hm]
    have CE : ∀ w, Calls Tryz.prog 27 #[.agg #[.int .i64 (I.guess x).k, .int .i64 (I.guess x).op, .int .i64 (I.guess x).a, .int .i64 (I.guess x).b, .int .i64 (I.guess x).c, .int .i64 (I.guess x).i, .bool (I.guess x).u]] w fun e w' => e = .returned (.tuple #[.int .u32 (I.enc (I.guess x)), .int .i64 (I.err (I.guess x))]) ∧ Kept w w' := CE
    rw [e1, e2] at CE
    have e3 : I.is x = false := by simp [I.is, hm]
    rw [show I.dec x = ⟨0, 0, 0, 0, 0, 0, false⟩ by simp [I.dec, e3], e3]
    exact rdec_1 x _ _ _ _ _ _ _ w (Lib.hid CR) (Lib.hid CE)
end Go.Proofs.YtlmddkciamdldaaGreat

/-
  What the laws of stage 6 make: fit.
-/
namespace Go.Proofs.YtlmddkciamdldaaGreat
open Go.RowKit
set_option linter.unusedVariables false
set_option linter.unusedSimpArgs false
set_option maxRecDepth 100000
/-- what fit makes of a word -/
def X.FitTo (v y : Int) : Prop := ∃ (k op a b c i : Int) (u : Bool), (∀ w, Calls Tryz.prog 26 #[.agg #[.int .i64 (bits .and .u32 v 7), .int .i64 (bits .and .u32 (v / 8) 15), .int .i64 (bits .and .u32 (v / 128) 15), .int .i64 (bits .and .u32 (v / 2048) 15), .int .i64 (bits .and .u32 (v / 32768) 15), .int .i64 (bits .and .u32 (v / 524288) 63), .bool (bits .and .u32 (v / 33554432) 1 == 1)]] w fun e w' => e = .returned (.agg #[.int .i64 k, .int .i64 op, .int .i64 a, .int .i64 b, .int .i64 c, .int .i64 i, .bool u]) ∧ Kept w w') ∧
  y = (if bits .and .u32 (v / 67108864) 7 = 0 then v else I.enc ⟨k, op, a, b, c, (if k = 5 ∨ k = 7 then bits .and .u32 (v / 524288) 63 - 32 else i), u⟩)
theorem X.fit_ex (v : Int) : ∃ y, X.FitTo v y := by
  obtain ⟨k, op, a, b, c, i, u, hm, h⟩ := fit_any (bits .and .u32 v 7) (bits .and .u32 (v / 8) 15) (bits .and .u32 (v / 128) 15) (bits .and .u32 (v / 2048) 15) (bits .and .u32 (v / 32768) 15) (bits .and .u32 (v / 524288) 63) (bits .and .u32 (v / 33554432) 1 == 1)
  exact ⟨_, k, op, a, b, c, i, u, h, rfl⟩
noncomputable def X.fit1 (v : Int) : Int := Classical.choose (X.fit_ex v)
theorem X.fit1_to (v : Int) : X.FitTo v (X.fit1 v) := Classical.choose_spec (X.fit_ex v)
theorem I.enc_lo (x : I.Ins) : 0 ≤ I.enc x ∧ I.enc x < 4294967296 := by
  unfold I.enc
  by_cases h : I.May x
  · have : I.may x = true := decide_eq_true h
    rw [if_pos this]; exact ⟨I.word_lo x h, I.word_hi x h⟩
  · have : I.may x = false := decide_eq_false h
    rw [if_neg (by rw [this]; simp)]; omega
theorem X.fit1_ok (v : Int) (h0 : 0 ≤ v) (h1 : v < 4294967296) : 0 ≤ X.fit1 v ∧ X.fit1 v < 4294967296 := by
  obtain ⟨k, op, a, b, c, i, u, _, hy⟩ := X.fit1_to v
  rw [hy]
  split
  · exact ⟨h0, h1⟩
  · exact I.enc_lo _
set_option maxHeartbeats 2000000 in
theorem fitw_some {w : World} {b off n c : Nat} {xs : List Int} (hx : Ws w (some ⟨b, off, none⟩) n c xs) (hn : 0 < n) :
    Calls Tryz.prog 9 #[.slice (some ⟨b, off, none⟩) n c] w fun e w' => ∃ g cap, e = .returned (.slice (some ⟨g, 0, none⟩) (min n 20) cap) ∧ Ws w' (some ⟨g, 0, none⟩) (min n 20) cap ((xs.map X.fit1).take 20) ∧ Below w.heap.size w w' ∧ w.heap.size ≤ g := by
  have hxl := hx.len
  have hX := Lib.hid hx
  have hbw : b < w.heap.size := hx.lt hn
  clear hx
  go_enter Tryz.func9, Tryz.ntmps9
  go_upto_region 2 with (fail)
  have hO := Lib.hid (Own.new w w.heap.size (Nat.le_refl _))
  have hA := (Kept.refl w).alloc #[] 23
  have hb := Lib.hid (show Below w.heap.size w (w.alloc (.cells #[] 23)) from hA.below)
  clear hA
  generalize hg0 : w.heap.size = g0 at *
  generalize w.alloc (Obj.cells #[] 23) = w1 at *
  go_wp2
  go_loopw [3, 4] (fun sl i wr => ∃ k g cap : Nat, k ≤ min n 20 ∧ i = .int .i64 k ∧ sl = .slice (some ⟨g, 0, none⟩) k cap ∧ Own g0 g k cap ((xs.take k).map X.fit1) wr ∧ Below g0 w wr) (fun sl i _ => n - (intOf i).toNat)
  case atStart => exact ⟨0, g0, 0, Nat.zero_le _, rfl, rfl, hO.out, hb.out⟩
  case round =>
    obtain ⟨k, g, cap, hk, rfl, rfl, hOr, hbr⟩ := hrel
    by_cases d1 : k < n ∧ k < 20
    · have d2 : (k : Int) < n := by omega
      have d3 : (k : Int) < 20 := by omega
      have d4 : decide ((k : Int) < n) = true := decide_eq_true d2
      have d5 : decide ((k : Int) < 20) = true := decide_eq_true d3
      obtain ⟨v, hv⟩ : ∃ v, xs[k]? = some v := ⟨_, List.getElem?_eq_getElem (by omega)⟩
      have hvr := hX.out.rng v (List.mem_of_getElem? hv)
      have cv := (hX.out.to (w' := wr) fun ad e _ => by cases e; exact hbr.block _ (by omega)).cellAt k v hv
      have hf := X.fit1_to v
      have hfo := X.fit1_ok v hvr.1 hvr.2
      have htk : ((xs.take (k + 1)).map X.fit1) = ((xs.take k).map X.fit1) ++ [X.fit1 v] := by rw [List.take_add_one, hv]; simp
      obtain ⟨K, op, a, bb, c', i, u, C, hy⟩ := hf
      have hyh := X.fit1 v
      clear hyh
      generalize X.fit1 v = y at *
      have r0 := A.bits_lo .and v 7 (Or.inl rfl) (by omega) (by omega) (by omega) (by omega)
      obtain ⟨p0, hp0⟩ : ∃ p, bits .and .u32 v 7 = p := ⟨_, rfl⟩
      rw [hp0] at r0 C
      have hwp0 : wrap64 p0 = p0 := by unfold wrap64; omega
      have r1 := A.bits_lo .and (v / 8) 15 (Or.inl rfl) (by omega) (by omega) (by omega) (by omega)
      obtain ⟨p1, hp1⟩ : ∃ p, bits .and .u32 (v / 8) 15 = p := ⟨_, rfl⟩
      rw [hp1] at r1 C
      have hwp1 : wrap64 p1 = p1 := by unfold wrap64; omega
      have r2 := A.bits_lo .and (v / 128) 15 (Or.inl rfl) (by omega) (by omega) (by omega) (by omega)
      obtain ⟨p2, hp2⟩ : ∃ p, bits .and .u32 (v / 128) 15 = p := ⟨_, rfl⟩
      rw [hp2] at r2 C
      have hwp2 : wrap64 p2 = p2 := by unfold wrap64; omega
      have r3 := A.bits_lo .and (v / 2048) 15 (Or.inl rfl) (by omega) (by omega) (by omega) (by omega)
      obtain ⟨p3, hp3⟩ : ∃ p, bits .and .u32 (v / 2048) 15 = p := ⟨_, rfl⟩
      rw [hp3] at r3 C
      have hwp3 : wrap64 p3 = p3 := by unfold wrap64; omega
      have r4 := A.bits_lo .and (v / 32768) 15 (Or.inl rfl) (by omega) (by omega) (by omega) (by omega)
      obtain ⟨p4, hp4⟩ : ∃ p, bits .and .u32 (v / 32768) 15 = p := ⟨_, rfl⟩
      rw [hp4] at r4 C
      have hwp4 : wrap64 p4 = p4 := by unfold wrap64; omega
      have r5 := A.bits_lo .and (v / 524288) 63 (Or.inl rfl) (by omega) (by omega) (by omega) (by omega)
      obtain ⟨p5, hp5⟩ : ∃ p, bits .and .u32 (v / 524288) 63 = p := ⟨_, rfl⟩
      rw [hp5] at r5 C hy
      have hwp5 : wrap64 p5 = p5 := by unfold wrap64; omega
      have r6 := A.bits_lo .and (v / 33554432) 1 (Or.inl rfl) (by omega) (by omega) (by omega) (by omega)
      obtain ⟨p6, hp6⟩ : ∃ p, bits .and .u32 (v / 33554432) 1 = p := ⟨_, rfl⟩
      rw [hp6] at r6 C
      have r7 := A.bits_lo .and (v / 67108864) 7 (Or.inl rfl) (by omega) (by omega) (by omega) (by omega)
      obtain ⟨p7, hp7⟩ : ∃ p, bits .and .u32 (v / 67108864) 7 = p := ⟨_, rfl⟩
      rw [hp7] at r7 hy
      have hws : wrap64 (p5 - 32) = p5 - 32 := by unfold wrap64; omega
      replace hOr := Lib.hid hOr
      replace hbr := Lib.hid hbr
      replace hy := Lib.hid hy
      replace htk := Lib.hid htk
      go_wp2_with (fail)
      refine (C _).mono ?_; rintro e w2 ⟨rfl, hK2⟩
      have hOl := World.ownsRow.lt hOr.out g rfl
      by_cases k57 : K = 5 ∨ K = 7
      · rcases k57 with rfl | rfl
        · have hy := hy.out
          rw [if_pos (by omega : (5 : Int) = 5 ∨ (5 : Int) = 7)] at hy
          have hK2' := hK2.alloc #[.int .i64 5, .int .i64 op, .int .i64 a, .int .i64 bb, .int .i64 (c'), .int .i64 (p5 - 32), .bool u] 57
          have hb2 := Lib.hid (below_kept hbr.out hK2' (by have := hbr.out.size; omega))
          have hO2 := Lib.hid (hOr.out.to (w' := w2.alloc (.cells #[.int .i64 5, .int .i64 op, .int .i64 a, .int .i64 bb, .int .i64 (c'), .int .i64 (p5 - 32), .bool u] 57)) (hK2'.below.block g hOl.2))
          have hO2l : g < (w2.alloc (.cells #[.int .i64 5, .int .i64 op, .int .i64 a, .int .i64 bb, .int .i64 (c'), .int .i64 (p5 - 32), .bool u] 57)).heap.size := Nat.lt_of_lt_of_le hOl.2 hK2'.size
          clear hOr hbr C hK2 hK2'
          go_wp2_with (fail)
          refine (renc_any 5 op a bb c' (p5 - 32) u _).mono ?_; rintro e w3 ⟨rfl, hK3⟩
          have hb3 := below_kept hb2.out hK3 (by have := hb2.out.size; omega)
          have hO3 := hO2.out.to (hK3.below.block g hO2l)
          generalize I.enc ⟨5, op, a, bb, c', (p5 - 32), u⟩ = ye at *
          generalize I.err ⟨5, op, a, bb, c', (p5 - 32), u⟩ = yr at *
          have hA := (Kept.refl w3).alloc #[Value.int .u32 y] 23
          have hY := Lib.hid (Ws.one (Has.new #[Value.int .u32 y] 23 w3) hfo.1 hfo.2)
          have hO4 := Lib.hid (hO3.to (w' := w3.alloc (.cells #[Value.int .u32 y] 23)) (hA.below.block g (World.ownsRow.lt hO3 g rfl).2))
          have hb4 := Lib.hid (below_kept hb3 hA (by have := hb3.size; omega))
          have hN4 : g0 ≤ (w3.alloc (.cells #[Value.int .u32 y] 23)).heap.size := by have := hb4.out.size; omega
          replace hN4 := Lib.hid hN4
          clear hb2 hO2 hK3 hb3 hO3 hA
          by_cases p0' : p7 = 0
          · rw [if_pos p0'] at hy
            subst p0' hy
            go_wp2_with (with_reducible refine append_words (o := ⟨some 80, _, _, _, _, _⟩) rfl (.tmp 77) (.tmp 79) rfl g0 g k cap ((xs.take k).map X.fit1) rfl hO4.out _ 1 1 [_] rfl hY.out (by omega) hN4.out ?_; intro g' cap' w5 hO5 hG5; rw [← htk.out] at hO5; replace hO5 := Lib.hid hO5; replace hG5 := Lib.hid (hb4.out.grown hG5 hN4.out (fun k e => by cases e; exact hOl.1)))
            go_roundw
            case rel => exact ⟨k + 1, g', cap', by omega, by go_num, by go_num, hO5.out, hG5.out⟩
            case measure => simp [intOf]; omega
          · rw [if_neg p0'] at hy
            have p2' : (p7 == 0) = false := by simpa using p0'
            subst hy
            go_wp2_with (with_reducible refine append_words (o := ⟨some 80, _, _, _, _, _⟩) rfl (.tmp 77) (.tmp 79) rfl g0 g k cap ((xs.take k).map X.fit1) rfl hO4.out _ 1 1 [_] rfl hY.out (by omega) hN4.out ?_; intro g' cap' w5 hO5 hG5; rw [← htk.out] at hO5; replace hO5 := Lib.hid hO5; replace hG5 := Lib.hid (hb4.out.grown hG5 hN4.out (fun k e => by cases e; exact hOl.1)))
            go_roundw
            case rel => exact ⟨k + 1, g', cap', by omega, by go_num, by go_num, hO5.out, hG5.out⟩
            case measure => simp [intOf]; omega
        · have hy := hy.out
          rw [if_pos (by omega : (7 : Int) = 5 ∨ (7 : Int) = 7)] at hy
          have hK2' := hK2.alloc #[.int .i64 7, .int .i64 op, .int .i64 a, .int .i64 bb, .int .i64 (c'), .int .i64 (p5 - 32), .bool u] 57
          have hb2 := Lib.hid (below_kept hbr.out hK2' (by have := hbr.out.size; omega))
          have hO2 := Lib.hid (hOr.out.to (w' := w2.alloc (.cells #[.int .i64 7, .int .i64 op, .int .i64 a, .int .i64 bb, .int .i64 (c'), .int .i64 (p5 - 32), .bool u] 57)) (hK2'.below.block g hOl.2))
          have hO2l : g < (w2.alloc (.cells #[.int .i64 7, .int .i64 op, .int .i64 a, .int .i64 bb, .int .i64 (c'), .int .i64 (p5 - 32), .bool u] 57)).heap.size := Nat.lt_of_lt_of_le hOl.2 hK2'.size
          clear hOr hbr C hK2 hK2'
          go_wp2_with (fail)
          refine (renc_any 7 op a bb c' (p5 - 32) u _).mono ?_; rintro e w3 ⟨rfl, hK3⟩
          have hb3 := below_kept hb2.out hK3 (by have := hb2.out.size; omega)
          have hO3 := hO2.out.to (hK3.below.block g hO2l)
          generalize I.enc ⟨7, op, a, bb, c', (p5 - 32), u⟩ = ye at *
          generalize I.err ⟨7, op, a, bb, c', (p5 - 32), u⟩ = yr at *
          have hA := (Kept.refl w3).alloc #[Value.int .u32 y] 23
          have hY := Lib.hid (Ws.one (Has.new #[Value.int .u32 y] 23 w3) hfo.1 hfo.2)
          have hO4 := Lib.hid (hO3.to (w' := w3.alloc (.cells #[Value.int .u32 y] 23)) (hA.below.block g (World.ownsRow.lt hO3 g rfl).2))
          have hb4 := Lib.hid (below_kept hb3 hA (by have := hb3.size; omega))
          have hN4 : g0 ≤ (w3.alloc (.cells #[Value.int .u32 y] 23)).heap.size := by have := hb4.out.size; omega
          replace hN4 := Lib.hid hN4
          clear hb2 hO2 hK3 hb3 hO3 hA
          by_cases p0' : p7 = 0
          · rw [if_pos p0'] at hy
            subst p0' hy
            go_wp2_with (with_reducible refine append_words (o := ⟨some 80, _, _, _, _, _⟩) rfl (.tmp 77) (.tmp 79) rfl g0 g k cap ((xs.take k).map X.fit1) rfl hO4.out _ 1 1 [_] rfl hY.out (by omega) hN4.out ?_; intro g' cap' w5 hO5 hG5; rw [← htk.out] at hO5; replace hO5 := Lib.hid hO5; replace hG5 := Lib.hid (hb4.out.grown hG5 hN4.out (fun k e => by cases e; exact hOl.1)))
            go_roundw
            case rel => exact ⟨k + 1, g', cap', by omega, by go_num, by go_num, hO5.out, hG5.out⟩
            case measure => simp [intOf]; omega
          · rw [if_neg p0'] at hy
            have p2' : (p7 == 0) = false := by simpa using p0'
            subst hy
            go_wp2_with (with_reducible refine append_words (o := ⟨some 80, _, _, _, _, _⟩) rfl (.tmp 77) (.tmp 79) rfl g0 g k cap ((xs.take k).map X.fit1) rfl hO4.out _ 1 1 [_] rfl hY.out (by omega) hN4.out ?_; intro g' cap' w5 hO5 hG5; rw [← htk.out] at hO5; replace hO5 := Lib.hid hO5; replace hG5 := Lib.hid (hb4.out.grown hG5 hN4.out (fun k e => by cases e; exact hOl.1)))
            go_roundw
            case rel => exact ⟨k + 1, g', cap', by omega, by go_num, by go_num, hO5.out, hG5.out⟩
            case measure => simp [intOf]; omega
      · have hy := hy.out
        rw [if_neg k57] at hy
        have k5 : ¬ K = 5 := fun e => k57 (Or.inl e)
        have k7 : ¬ K = 7 := fun e => k57 (Or.inr e)
        have k5' : (K == 5) = false := by simpa using k5
        have k7' : (K == 7) = false := by simpa using k7
        have hK2' := hK2.alloc #[.int .i64 K, .int .i64 op, .int .i64 a, .int .i64 bb, .int .i64 (c'), .int .i64 i, .bool u] 57
        have hb2 := Lib.hid (below_kept hbr.out hK2' (by have := hbr.out.size; omega))
        have hO2 := Lib.hid (hOr.out.to (w' := w2.alloc (.cells #[.int .i64 K, .int .i64 op, .int .i64 a, .int .i64 bb, .int .i64 (c'), .int .i64 i, .bool u] 57)) (hK2'.below.block g hOl.2))
        have hO2l : g < (w2.alloc (.cells #[.int .i64 K, .int .i64 op, .int .i64 a, .int .i64 bb, .int .i64 (c'), .int .i64 i, .bool u] 57)).heap.size := Nat.lt_of_lt_of_le hOl.2 hK2'.size
        clear hOr hbr C hK2 hK2'
        go_wp2_with (fail)
        refine (renc_any K op a bb c' i u _).mono ?_; rintro e w3 ⟨rfl, hK3⟩
        have hb3 := below_kept hb2.out hK3 (by have := hb2.out.size; omega)
        have hO3 := hO2.out.to (hK3.below.block g hO2l)
        generalize I.enc ⟨K, op, a, bb, c', i, u⟩ = ye at *
        generalize I.err ⟨K, op, a, bb, c', i, u⟩ = yr at *
        have hA := (Kept.refl w3).alloc #[Value.int .u32 y] 23
        have hY := Lib.hid (Ws.one (Has.new #[Value.int .u32 y] 23 w3) hfo.1 hfo.2)
        have hO4 := Lib.hid (hO3.to (w' := w3.alloc (.cells #[Value.int .u32 y] 23)) (hA.below.block g (World.ownsRow.lt hO3 g rfl).2))
        have hb4 := Lib.hid (below_kept hb3 hA (by have := hb3.size; omega))
        have hN4 : g0 ≤ (w3.alloc (.cells #[Value.int .u32 y] 23)).heap.size := by have := hb4.out.size; omega
        replace hN4 := Lib.hid hN4
        clear hb2 hO2 hK3 hb3 hO3 hA
        by_cases p0' : p7 = 0
        · rw [if_pos p0'] at hy
          subst p0' hy
          go_wp2_with (with_reducible refine append_words (o := ⟨some 80, _, _, _, _, _⟩) rfl (.tmp 77) (.tmp 79) rfl g0 g k cap ((xs.take k).map X.fit1) rfl hO4.out _ 1 1 [_] rfl hY.out (by omega) hN4.out ?_; intro g' cap' w5 hO5 hG5; rw [← htk.out] at hO5; replace hO5 := Lib.hid hO5; replace hG5 := Lib.hid (hb4.out.grown hG5 hN4.out (fun k e => by cases e; exact hOl.1)))
          go_roundw
          case rel => exact ⟨k + 1, g', cap', by omega, by go_num, by go_num, hO5.out, hG5.out⟩
          case measure => simp [intOf]; omega
        · rw [if_neg p0'] at hy
          have p2' : (p7 == 0) = false := by simpa using p0'
          subst hy
          go_wp2_with (with_reducible refine append_words (o := ⟨some 80, _, _, _, _, _⟩) rfl (.tmp 77) (.tmp 79) rfl g0 g k cap ((xs.take k).map X.fit1) rfl hO4.out _ 1 1 [_] rfl hY.out (by omega) hN4.out ?_; intro g' cap' w5 hO5 hG5; rw [← htk.out] at hO5; replace hO5 := Lib.hid hO5; replace hG5 := Lib.hid (hb4.out.grown hG5 hN4.out (fun k e => by cases e; exact hOl.1)))
          go_roundw
          case rel => exact ⟨k + 1, g', cap', by omega, by go_num, by go_num, hO5.out, hG5.out⟩
          case measure => simp [intOf]; omega
    · have hke : k = min n 20 := by omega
      have htk : xs.take k = xs.take 20 := by
        rcases Nat.le_total n 20 with h | h
        · rw [hke, Nat.min_eq_left h, List.take_of_length_le (by omega), List.take_of_length_le (by omega)]
        · rw [hke, Nat.min_eq_right h]
      rw [htk] at hOr
      have hr : ∀ z ∈ (xs.take 20).map X.fit1, 0 ≤ z ∧ z < 4294967296 := by
        intro z hz
        obtain ⟨v, hv, rfl⟩ := List.mem_map.1 hz
        have := hX.out.rng v (List.mem_of_mem_take hv)
        exact X.fit1_ok v this.1 this.2
      have hW := hOr.ws hr
      rw [List.map_take] at hW
      replace hW := Lib.hid hW
      have hOl := World.ownsRow.lt hOr g rfl
      replace hbr := Lib.hid hbr
      clear hOr hX hO hb htk
      by_cases e1 : k < n
      · have d2 : (k : Int) < n := by omega
        have d3 : ¬ (k : Int) < 20 := by omega
        have d4 : decide ((k : Int) < n) = true := decide_eq_true d2
        have d5 : decide ((k : Int) < 20) = false := decide_eq_false d3
        go_wp2
        go_ret
        rw [← hke]
        exact ⟨g, cap, rfl, hW.out, hbr.out, hOl.1⟩
      · have d2 : ¬ (k : Int) < n := by omega
        have d4 : decide ((k : Int) < n) = false := decide_eq_false d2
        go_wp2
        go_ret
        rw [← hke]
        exact ⟨g, cap, rfl, hW.out, hbr.out, hOl.1⟩
theorem fitw_none {w : World} {A : Option Addr} {c : Nat} :
    Calls Tryz.prog 9 #[.slice A 0 c] w fun e w' => ∃ g cap, e = .returned (.slice (some ⟨g, 0, none⟩) 0 cap) ∧ Ws w' (some ⟨g, 0, none⟩) 0 cap [] ∧ Below w.heap.size w w' ∧ w.heap.size ≤ g := by
  go_enter Tryz.func9, Tryz.ntmps9
  go_upto_region 2 with (fail)
  have hW := Lib.hid ((Own.new w w.heap.size (Nat.le_refl _)).ws (by simp))
  have hA := (Kept.refl w).alloc #[] 23
  have hb := Lib.hid (show Below w.heap.size w (w.alloc (.cells #[] 23)) from hA.below)
  clear hA
  generalize hg0 : w.heap.size = g0 at *
  generalize w.alloc (Obj.cells #[] 23) = w1 at *
  go_wp2
  go_loopw [3, 4] (fun sl i wr => i = .int .i64 0 ∧ sl = .slice (some ⟨g0, 0, none⟩) 0 0 ∧ wr = w1) (fun sl i _ => 0)
  case atStart => exact ⟨rfl, rfl, by first | rfl | trivial⟩
  case round =>
    obtain ⟨rfl, rfl, rfl⟩ := hrel
    go_wp2
    go_ret
    exact ⟨g0, 0, rfl, hW.out, by rw [hg0]; exact hb.out, Nat.le_of_eq hg0⟩
theorem fitw_any {w : World} {A : Option Addr} {n c : Nat} {xs : List Int} (hx : Ws w A n c xs) :
    Calls Tryz.prog 9 #[.slice A n c] w fun e w' => ∃ g cap, e = .returned (.slice (some ⟨g, 0, none⟩) (min n 20) cap) ∧ Ws w' (some ⟨g, 0, none⟩) (min n 20) cap ((xs.map X.fit1).take 20) ∧ Below w.heap.size w w' ∧ w.heap.size ≤ g := by
  rcases Nat.eq_zero_or_pos n with rfl | hn
  · have : xs = [] := List.eq_nil_of_length_eq_zero hx.len
    subst this
    exact fitw_none
  · cases A with
    | none => have := hx.nil rfl; have := hx.le; omega
    | some ad =>
      obtain ⟨b, off, rfl⟩ := hx.addr hn
      exact fitw_some hx hn
end Go.Proofs.YtlmddkciamdldaaGreat

/-
  Two registers' values that are the same are equal; operations behind a guard.
-/
namespace Go.Proofs.YtlmddkciamdldaaGreat
open Go.RowKit
set_option linter.unusedVariables false
set_option linter.unusedSimpArgs false
set_option maxRecDepth 100000
theorem A.part_u (xs : Array Value) (j : Nat) (x : Int) (w : World) (hj : xs[j]? = some (.int .u32 x)) : (part 23 xs j).run Tryz.prog w = .ok (.int .u32 x) w := by
  have ha := run_isAgg Tryz.underlying23 w
  simp [part, Sem.run_bind, run_sizeOf (P := Tryz.prog) (e := 23) (m := 1) (by kernel_rfl), ha, TypeDesc.isRow, hj]
theorem A.part_b (xs : Array Value) (j : Nat) (x : Bool) (w : World) (hj : xs[j]? = some (.bool x)) : (part 4 xs j).run Tryz.prog w = .ok (.bool x) w := by
  have ha := run_isAgg Tryz.underlying4 w
  simp [part, Sem.run_bind, run_sizeOf (P := Tryz.prog) (e := 4) (m := 1) (by kernel_rfl), ha, TypeDesc.isRow, hj]
theorem A.part_R (s : A.Regs) (w : World) : (part 24 (A.cells s) 0).run Tryz.prog w = .ok (.agg ((A.cells s).extract 0 16)) w := by
  have ha := run_isAgg Tryz.underlying24 w
  simp [part, Sem.run_bind, run_sizeOf (P := Tryz.prog) (e := 24) (m := 16) (by kernel_rfl), ha, TypeDesc.isRow]
theorem A.items (d : Nat) (xs : Array Value) (w : World) : ∀ is : List Nat, (∀ i ∈ is, ∃ x, xs[i]? = some (.int .u32 x)) → (Op.eqItems (d + 1) 23 1 xs xs is).run Tryz.prog w = .ok true w
  | [], _ => by simp [Op.eqItems]
  | i :: is, h => by
    obtain ⟨x, hx⟩ := h i (by simp)
    have hp := A.part_u xs (i * 1) x w (by simpa using hx)
    have := A.items d xs w is (fun j hj => h j (by simp [hj]))
    simp only [Op.eqItems, Sem.run_bind, hp, Result.andThen_ok, run_equalIn_int w d 23 .u32 .u32 x x Tryz.underlying23]
    simpa using this
theorem A.eq_R (d : Nat) (s : A.Regs) (w : World) : (Op.equalIn (d + 2) 24 (.agg ((A.cells s).extract 0 16)) (.agg ((A.cells s).extract 0 16))).run Tryz.prog w = .ok true w := by
  obtain ⟨i, hi⟩ : ∃ i, Tryz.prog.info? 23 = some i := Option.isSome_iff_exists.1 (show (Tryz.prog.info? 23).isSome = true by kernel_rfl)
  rw [run_equalIn_array w (d + 1) _ _ Tryz.underlying24 hi, show Tryz.prog.cellsOf 23 = 1 by kernel_rfl]
  refine A.items d _ w _ fun j hj => ?_
  have hj' : j < 16 := by simpa using hj
  exact ⟨s.r j, by rw [Array.getElem?_extract]; simp [hj', A.cell_r s j hj']⟩
theorem A.eq_u (d : Nat) (x : Int) (w : World) : (Op.equalIn (d + 2) 23 (.int .u32 x) (.int .u32 x)).run Tryz.prog w = .ok true w := by
  rw [run_equalIn_int w (d + 1) 23 .u32 .u32 x x Tryz.underlying23]; simp
theorem A.eq_b (d : Nat) (x : Bool) (w : World) : (Op.equalIn (d + 2) 4 (.bool x) (.bool x)).run Tryz.prog w = .ok true w := by
  rw [run_equalIn_bool' w (d + 1) 4 x x Tryz.underlying4]; simp
theorem A.eq_regsD (d : Nat) (s : A.Regs) (w : World) : (Op.equalIn (d + 3) 26 (.agg (A.cells s)) (.agg (A.cells s))).run Tryz.prog w = .ok true w := by
  rw [run_equalIn_struct w (d + 2) 26 _ _ Tryz.underlying26 (by kernel_rfl)]
  simp only [Program.fieldsOf, Tryz.underlying26]
  simp only [Op.eqFields]
  rw [if_pos (by decide), if_pos (by decide), if_pos (by decide), if_pos (by decide), if_pos (by decide), if_pos (by decide)]
  simp only [Sem.run_bind, A.part_R, A.eq_R, A.part_u (A.cells s) 16 s.h _ rfl, A.part_b (A.cells s) 17 s.n _ rfl, A.part_b (A.cells s) 18 s.z _ rfl, A.part_b (A.cells s) 19 s.c _ rfl, A.part_b (A.cells s) 20 s.v _ rfl, A.eq_u, A.eq_b, Result.andThen_ok, Bool.not_true, Bool.false_eq_true, if_false, Sem.run_pure]
theorem A.depth : Op.maxDepth = 9997 + 3 := rfl
theorem A.eq_regs (s : A.Regs) (w : World) : (Op.equal 26 (.agg (A.cells s)) (.agg (A.cells s))).run Tryz.prog w = .ok true w := by
  unfold Op.equal
  rw [A.depth]
  exact A.eq_regsD 9997 s w
section
variable {P : Program} {ops : Array Oper} {rest : List Oper} {o : Oper} {a : Act} {w : World} {Q : Exit → Act → World → Prop}
end
theorem A.bin_eq (cs ds : Array Value) : binOp BinOp.eql 26 (.agg cs) (.agg ds) = (do pure (.bool (← Op.equal 26 (.agg cs) (.agg ds)))) := by simp only [binOp]
theorem exec_eq_regs {o : Oper} {a : Act} {w : World} (x y : Operand) (ho : o.op = .binOp .eql 26 x y 26) (s : A.Regs) (hx : a.eval x = .agg (A.cells s)) (hy : a.eval y = .agg (A.cells s)) :
    (execOp a.eval o).run Tryz.prog w = .ok (.value (.bool true)) w := by
  unfold execOp
  simp only [ho, hx, hy, Sem.run_bind]
  rw [run_eqGuard_agg w BinOp.eql 26 x y (A.cells s) (A.cells s) (by kernel_rfl)]
  simp only [Result.andThen_ok, A.bin_eq, Sem.run_bind, A.eq_regs, Sem.run_pure]
end Go.Proofs.YtlmddkciamdldaaGreat

/-
  One machine in a law's walk: Live; the contracts in its words; the document's example.
-/
namespace Go.Proofs.YtlmddkciamdldaaGreat
open Go.RowKit
set_option linter.unusedVariables false
set_option linter.unusedSimpArgs false
set_option maxRecDepth 100000
/-- the machine x, made since w0; nothing of w0 has turned -/
def Live (w0 : World) (B : Nat) (x : X.St) (w : World) : Prop := ∃ F, Mac F B x w ∧ (∀ k, F k → w0.heap.size ≤ k) ∧ Below w0.heap.size w0 w
theorem Live.below {w0 : World} {B : Nat} {x : X.St} {w : World} (h : Live w0 B x w) : Below w0.heap.size w0 w := by obtain ⟨F, h1, h2, h3⟩ := h; exact h3
theorem Live.mac {w0 : World} {B : Nat} {x : X.St} {w : World} (h : Live w0 B x w) : ∃ F, Mac F B x w := by obtain ⟨F, h1, h2, h3⟩ := h; exact ⟨F, h1⟩
theorem Live.turn0 {w0 : World} {B : Nat} {x : X.St} {w w' : World} (h : Live w0 B x w) (hT : Turn T0 w w') : Live w0 B x w' := by
  obtain ⟨F, h1, h2, h3⟩ := h
  exact ⟨F, h1.turn hT fun _ _ h => h, h2, h3.trans (hT.below w0.heap.size h3.size fun _ h => h.elim)⟩
theorem Live.kept {w0 : World} {B : Nat} {x : X.St} {w w' : World} (h : Live w0 B x w) (hK : Kept w w') : Live w0 B x w' := h.turn0 (hK.turn T0)
theorem Live.to {w0 : World} {B : Nat} {x' : X.St} {F F' : Nat → Prop} {w w' : World} (hF : ∀ k, F k → w0.heap.size ≤ k) (hb : Below w0.heap.size w0 w) (hM : Mac F' B x' w') (hT : Turn F w w') (hF' : ∀ k, F' k → F k ∨ w.heap.size ≤ k) : Live w0 B x' w' :=
  ⟨F', hM, fun k hk => by
    rcases hF' k hk with h1 | h1
    · exact hF k h1
    · exact Nat.le_trans hb.size h1, hb.trans (hT.below w0.heap.size hb.size hF)⟩
theorem Live.toB {w0 : World} {B : Nat} {x' : X.St} {F : Nat → Prop} {w w' : World} (hF : ∀ k, F k → w0.heap.size ≤ k) (hb : Below w0.heap.size w0 w) (hM : Mac F B x' w') (hB : But B w w') : Live w0 B x' w' :=
  Live.to hF hb hM (hB.turn hM.inB) fun k hk => Or.inl hk
theorem new_live {w : World} (n : Nat) (hn : n ≤ 4096) {ap : Option Addr} {m c : Nat} {xs : List Int} (hx : Ws w ap m c xs) (hm : m ≤ 1000000000) :
    Calls Tryz.prog 20 #[.int .i64 n, .slice ap m c] w fun e w' => ∃ B, e = .returned (.tuple #[.pointer (some ⟨B, 0, none⟩), .int .i64 0]) ∧ Live w B ⟨List.replicate n 0, A.none', 0, 0, xs, []⟩ w' := by
  refine (new_any n hn hx hm).mono ?_
  rintro e w' ⟨B, he, F, h1, h2, h3⟩
  exact ⟨B, he, F, h1, h3, h2.kept0⟩
theorem step_live {w0 : World} {B : Nat} {x : X.St} {w : World} (h : Live w0 B x w) (hn : x.outs.length < 1000000) :
    Calls Tryz.prog 10 #[.pointer (some ⟨B, 0, none⟩)] w fun e w' => e = .returned (.int .i64 (X.step x).st) ∧ Live w0 B (X.step x) w' := by
  obtain ⟨F, h1, h2, h3⟩ := h
  refine (step_any h1 hn).mono ?_
  rintro e w' ⟨he, F', p1, p2, p3⟩
  exact ⟨he, Live.to h2 h3 p1 p2 p3⟩
theorem place_live {w0 : World} {B : Nat} {x : X.St} {w : World} (h : Live w0 B x w) (k : Nat) (ap : Option Addr) (n c : Nat) (xs : List Int) (hx : Ws w ap n c xs) (hf : k + n ≤ x.ws.length) :
    Calls Tryz.prog 21 #[.pointer (some ⟨B, 0, none⟩), .int .i64 k, .slice ap n c] w fun e w' => e = .returned (.int .i64 0) ∧ Live w0 B ⟨M.placed x.ws k xs, x.s, x.pc, x.st, x.ins, x.outs⟩ w' := by
  obtain ⟨F, h1, h2, h3⟩ := h
  refine (place_any h1 k ap n c xs hx hf).mono ?_
  rintro e w' ⟨he, p1, p2⟩
  exact ⟨he, Live.toB h2 h3 p1 p2⟩
theorem pc_live {w0 : World} {B : Nat} {x : X.St} {w : World} (h : Live w0 B x w) :
    Calls Tryz.prog 15 #[.pointer (some ⟨B, 0, none⟩)] w fun e w' => e = .returned (.int .u32 x.pc) ∧ w = w' := by
  obtain ⟨F, h1⟩ := h.mac; exact pc_any h1
theorem regs_live {w0 : World} {B : Nat} {x : X.St} {w : World} (h : Live w0 B x w) :
    Calls Tryz.prog 16 #[.pointer (some ⟨B, 0, none⟩)] w fun e w' => e = .returned (.agg (A.cells x.s)) ∧ Kept w w' := by
  obtain ⟨F, h1⟩ := h.mac; exact regs_any h1
namespace X
/-- a step that does an instruction -/
theorem step_ins (x : St) (j : I.Ins) (h0 : x.st = 0) (ht : M.wt x.ws x.pc = 0) (hw : M.word x.ws x.pc = I.word j) (hm : I.May j) :
    step x = if doT x j = 0 ∨ doT x j = 1 then ⟨(doX x j).ws, doS x j, doP x j, doT x j, (doX x j).ins, (doX x j).outs⟩ else ⟨(doX x j).ws, x.s, x.pc, doT x j, (doX x j).ins, (doX x j).outs⟩ := by
  have hi : I.is (M.word x.ws x.pc) = true := by rw [hw]; exact I.is_word j hm
  have hd : I.dec (M.word x.ws x.pc) = j := by rw [hw]; exact I.dec_word j hm
  have hT : nextT x = doT x j := by unfold nextT; rw [if_pos ht, if_pos hi, hd]
  unfold step
  rw [if_pos h0, hT]
  unfold nextX
  rw [if_pos ⟨ht, hi⟩, hd]
  by_cases c : doT x j = 0 ∨ doT x j = 1
  · rw [if_pos c, if_pos c]
  · rw [if_neg c, if_neg c]
    have := doX_eq x j
    rw [this.1, this.2.1]
/-- the word that stands at a place -/
theorem at_word (ws : List Int) (k : Nat) (v pc : Int) (hk : ws[k]? = some v) (hp : pc = 4 * k) : M.wt ws pc = 0 ∧ M.word ws pc = v := by
  have hl : k < ws.length := by
    rcases Nat.lt_or_ge k ws.length with h1 | h1
    · exact h1
    · rw [List.getElem?_eq_none h1] at hk; cases hk
  subst hp
  have e1 : M.wt ws (4 * k) = 0 := by
    unfold M.wt M.bt
    rw [if_pos (by omega), if_neg (by omega)]
  refine ⟨e1, ?_⟩
  unfold M.word
  rw [if_pos e1, show ((4 * (k : Int)) / 4).toNat = k by omega, List.getD_eq_getElem?_getD, hk]
  rfl
end X
theorem run_imm_mov (s : A.Regs) (a i : Int) (hs : A.Ok s) (hm : I.May ⟨2, 0, a, 0, 0, i, false⟩) : A.run s ⟨2, 0, a, 0, 0, i, false⟩ = (A.show' (A.set s a.toNat (i % 4294967296)) (i % 4294967296), 0) := by
  rw [A.run_yes s _ hm (Or.inr (Or.inl rfl)) (fun h => by have := h.2.1; simp at this)]
  rfl
theorem X.first : X.step ⟨[1090519045], A.none', 0, 0, [], []⟩ = ⟨[1090519045], A.show' (A.set A.none' 1 5) 5, 4, 0, [], []⟩ := by
  have hm : I.May ⟨2, 0, 1, 0, 0, 5, false⟩ := by unfold I.May; simp
  have hw : I.word ⟨2, 0, 1, 0, 0, 5, false⟩ = 1090519045 := by simp [I.word, I.bit]
  have ha := X.at_word [1090519045] 0 1090519045 0 rfl rfl
  rw [X.step_ins _ ⟨2, 0, 1, 0, 0, 5, false⟩ rfl ha.1 (ha.2.trans hw.symm) hm]
  have hr := run_imm_mov A.none' 1 5 A.ok_none hm
  have e1 : X.doT ⟨[1090519045], A.none', 0, 0, [], []⟩ ⟨2, 0, 1, 0, 0, 5, false⟩ = 0 := by unfold X.doT; rw [if_neg (by simp), if_neg (by simp), hr]
  have e2 : X.doS ⟨[1090519045], A.none', 0, 0, [], []⟩ ⟨2, 0, 1, 0, 0, 5, false⟩ = A.show' (A.set A.none' 1 5) 5 := by unfold X.doS; rw [if_neg (by simp), if_neg (by simp), hr]; rfl
  have e3 : X.doP ⟨[1090519045], A.none', 0, 0, [], []⟩ ⟨2, 0, 1, 0, 0, 5, false⟩ = 4 := by unfold X.doP; rw [if_neg (by simp)]; rfl
  have e4 : X.doX ⟨[1090519045], A.none', 0, 0, [], []⟩ ⟨2, 0, 1, 0, 0, 5, false⟩ = ⟨[1090519045], A.none', 0, 0, [], []⟩ := by unfold X.doX; rw [if_neg (by simp)]
  rw [e1, e2, e3, e4, if_pos (Or.inl rfl)]
theorem A.field_R (s : A.Regs) (W : World) : (Instr.field 26 (.agg (A.cells s)) 0).run Tryz.prog W = .ok (.agg ((A.cells s).extract 0 16)) W := by
  have h := A.part_R s W
  simp only [Instr.field, Sem.run_bind, run_underlying Tryz.underlying26, Result.andThen_ok, asAgg, Sem.run_pure]
  exact h
theorem A.index_R (s : A.Regs) (j : Nat) (hj : j < 16) (W : World) : (Instr.index 24 (.agg ((A.cells s).extract 0 16)) (.int .i64 j)).run Tryz.prog W = .ok (.int .u32 (s.r j)) W :=
  run_index_cell Tryz.underlying24 (by omega) (by omega) Tryz.underlying23 rfl (by kernel_rfl) (by
    rw [Array.getElem?_extract]
    have := A.cell_r s j hj
    simp [hj, this]) W
theorem shown_any (w : World) : Calls Tryz.prog 6 #[] w fun e w' => e = .returned (.bool true) ∧ Turn T0 w w' := by
  go_enter Tryz.func6, Tryz.ntmps6
  go_wp2_with (fail)
  refine (new_live 1 (by omega) (Ws.empty w) (by omega)).mono ?_; rintro e w1 ⟨B, rfl, hL⟩
  have hLb := hL.below.size
  have hL1 := Lib.hid (hL.kept ((Kept.refl w1).alloc #[.int .u32 1090519045] 23))
  have hW1 := Lib.hid (Ws.sole (Has.new #[.int .u32 1090519045] 23 w1) (by omega) (by omega))
  clear hL
  go_wp2_with (fail)
  refine (place_live hL1.out 0 _ 1 1 [1090519045] hW1.out (by simp)).mono ?_; rintro e w2 ⟨rfl, hL2⟩
  replace hL2 : Live w B ⟨[1090519045], A.none', 0, 0, [], []⟩ w2 := hL2
  clear hL1 hW1
  replace hL2 := Lib.hid hL2
  go_wp2_with (fail)
  refine (step_live hL2.out (by simp)).mono ?_; rintro e w3 ⟨rfl, hL3⟩
  rw [X.first] at hL3 ⊢
  replace hL3 := Lib.hid hL3
  clear hL2
  go_wp2_with (fail)
  refine (regs_live hL3.out).mono ?_; rintro e w4 ⟨rfl, hK4⟩
  have hL4 := Lib.hid (hL3.out.kept hK4)
  clear hL3 hK4
  have hf := A.field_R (A.show' (A.set A.none' 1 5) 5)
  have hi : ∀ W, (Instr.index 24 (.agg ((A.cells (A.show' (A.set A.none' 1 5) 5)).extract 0 16)) (.int .i64 1)).run Tryz.prog W = .ok (.int .u32 5) W := A.index_R (A.show' (A.set A.none' 1 5) 5) 1 (by omega)
  generalize A.show' (A.set A.none' 1 5) 5 = s5 at *
  generalize (A.cells s5).extract 0 16 = c5 at *
  go_wp2_with (fail)
  refine (pc_live hL4.out).mono ?_; rintro e w5 ⟨rfl, rfl⟩
  go_wp2
  go_ret
  exact ⟨rfl, ⟨hL4.out.below.os, hL4.out.below.tape, hL4.out.below.output, hL4.out.below.size, fun k hk _ => hL4.out.below.block k hk⟩⟩
end Go.Proofs.YtlmddkciamdldaaGreat

/-
  Machines side by side (Four); what is told of them; comparisons.
-/
namespace Go.Proofs.YtlmddkciamdldaaGreat
open Go.RowKit
set_option linter.unusedVariables false
set_option linter.unusedSimpArgs false
set_option maxRecDepth 100000
structure X.Four (w0 : World) (F1 F2 F3 F4 : Nat → Prop) (w : World) : Prop where
  d12 : ∀ k, F1 k → ¬ F2 k
  d13 : ∀ k, F1 k → ¬ F3 k
  d14 : ∀ k, F1 k → ¬ F4 k
  d23 : ∀ k, F2 k → ¬ F3 k
  d24 : ∀ k, F2 k → ¬ F4 k
  d34 : ∀ k, F3 k → ¬ F4 k
  g1 : ∀ k, F1 k → w0.heap.size ≤ k
  g2 : ∀ k, F2 k → w0.heap.size ≤ k
  g3 : ∀ k, F3 k → w0.heap.size ≤ k
  g4 : ∀ k, F4 k → w0.heap.size ≤ k
  s1 : ∀ k, F1 k → k < w.heap.size
  s2 : ∀ k, F2 k → k < w.heap.size
  s3 : ∀ k, F3 k → k < w.heap.size
  s4 : ∀ k, F4 k → k < w.heap.size
  b : Below w0.heap.size w0 w
theorem X.Four.rot {w0 : World} {F1 F2 F3 F4 : Nat → Prop} {w : World} (h : X.Four w0 F1 F2 F3 F4 w) : X.Four w0 F2 F3 F4 F1 w :=
  ⟨h.d23, h.d24, fun k a b => h.d12 k b a, h.d34, fun k a b => h.d13 k b a, fun k a b => h.d14 k b a, h.g2, h.g3, h.g4, h.g1, h.s2, h.s3, h.s4, h.s1, h.b⟩
theorem X.Four.step {w0 : World} {F1 F2 F3 F4 F1' : Nat → Prop} {w w' : World} (h : X.Four w0 F1 F2 F3 F4 w) (hT : Turn F1 w w') (hs : ∀ k, F1' k → k < w'.heap.size) (hF : ∀ k, F1' k → F1 k ∨ w.heap.size ≤ k) : X.Four w0 F1' F2 F3 F4 w' :=
  ⟨fun k a b => by rcases hF k a with c | c; exact h.d12 k c b; have := h.s2 k b; omega, fun k a b => by rcases hF k a with c | c; exact h.d13 k c b; have := h.s3 k b; omega, fun k a b => by rcases hF k a with c | c; exact h.d14 k c b; have := h.s4 k b; omega, h.d23, h.d24, h.d34,
    fun k a => by rcases hF k a with c | c; exact h.g1 k c; exact Nat.le_trans h.b.size c, h.g2, h.g3, h.g4, hs, fun k a => Nat.lt_of_lt_of_le (h.s2 k a) hT.size, fun k a => Nat.lt_of_lt_of_le (h.s3 k a) hT.size, fun k a => Nat.lt_of_lt_of_le (h.s4 k a) hT.size,
    h.b.trans (hT.below w0.heap.size h.b.size h.g1)⟩
theorem X.Four.turn0 {w0 : World} {F1 F2 F3 F4 : Nat → Prop} {w w' : World} (h : X.Four w0 F1 F2 F3 F4 w) (hT : Turn T0 w w') : X.Four w0 F1 F2 F3 F4 w' :=
  h.step (hT.mono fun _ _ h => h.elim) (fun k a => Nat.lt_of_lt_of_le (h.s1 k a) hT.size) fun k a => Or.inl a
theorem X.Four.start {w0 w : World} (hb : Below w0.heap.size w0 w) : X.Four w0 T0 T0 T0 T0 w :=
  ⟨fun _ h => h.elim, fun _ h => h.elim, fun _ h => h.elim, fun _ h => h.elim, fun _ h => h.elim, fun _ h => h.elim, fun _ h => h.elim, fun _ h => h.elim, fun _ h => h.elim, fun _ h => h.elim, fun _ h => h.elim, fun _ h => h.elim, fun _ h => h.elim, fun _ h => h.elim, hb⟩
/-- a place is filled by what was made since -/
theorem X.Four.put {w0 : World} {F2 F3 F4 F : Nat → Prop} {w w' : World} (h : X.Four w0 T0 F2 F3 F4 w) (hT : Turn T0 w w') (hs : ∀ k, F k → k < w'.heap.size) (hF : ∀ k, F k → w.heap.size ≤ k) : X.Four w0 F F2 F3 F4 w' :=
  h.step hT hs fun k a => Or.inr (hF k a)
theorem Ws.turn {w w' : World} {F : Nat → Prop} {A : Option Addr} {n c : Nat} {xs : List Int} (h : Ws w A n c xs) (hT : Turn F w w') (hF : ∀ ad, A = some ad → 0 < n → ¬ F ad.block) : Ws w' A n c xs :=
  h.to fun ad e hn => hT.block _ (by subst e; exact h.lt hn) (hF ad e hn)
theorem Ws.turn0 {w w' : World} {A : Option Addr} {n c : Nat} {xs : List Int} (h : Ws w A n c xs) (hT : Turn T0 w w') : Ws w' A n c xs := h.turn hT fun _ _ _ h => h
theorem Has.turn0 {w w' : World} {B : Nat} {cs : Array Value} {t : TypeId} (h : Has B cs t w) (hT : Turn T0 w w') : Has B cs t w' := (hT.block _ h.lt id).trans h
theorem below_turn0 {w w' : World} (h : Below w.heap.size w w') : Turn T0 w w' := ⟨h.os, h.tape, h.output, h.size, fun k hk _ => h.block k hk⟩
theorem A.eql (s : A.Regs) (W : World) : (binOp .eql 26 (.agg (A.cells s)) (.agg (A.cells s))).run Tryz.prog W = .ok (.bool true) W := by
  rw [A.bin_eq]; simp [Sem.run_bind, A.eq_regs]
namespace X
theorem bt_st (ws : List Int) (a : Int) : M.bt ws a = 0 ∨ M.bt ws a = 3 := by unfold M.bt; split <;> simp
theorem wt_st (ws : List Int) (a : Int) : M.wt ws a = 0 ∨ M.wt ws a = 3 ∨ M.wt ws a = 4 := by
  unfold M.wt
  split
  · rcases bt_st ws a with h | h <;> simp [h]
  · simp
end X
end Go.Proofs.YtlmddkciamdldaaGreat

/-
  The document's machine: move.
-/
namespace Go.Proofs.YtlmddkciamdldaaGreat
open Go.RowKit
set_option linter.unusedVariables false
set_option linter.unusedSimpArgs false
set_option maxRecDepth 100000
theorem RMacAt.reg {F : Nat → Prop} {E : Nat} {x : X.St} {D C : Nat} {ai : Option Addr} {ni ci : Nat} {ao : Option Addr} {no co : Nat} {w : World} (h : RMacAt F E x D C ai ni ci ao no co w) (j : Nat) (hj : j < 16) : w.cell? ⟨E, 1 + j, none⟩ = some (.int .u32 (x.s.r j)) :=
  h.box.cell _ _ (X.rc_r _ _ _ _ _ _ j hj)
/-- an input is taken -/
theorem RMacAt.eaten {F : Nat → Prop} {E : Nat} {x : X.St} {D C : Nat} {b off n ci : Nat} {ao : Option Addr} {no co : Nat} {w : World} {y : Int} {ys : List Int} (h : RMacAt F E x D C (some ⟨b, off, none⟩) (n + 1) ci ao no co w) (hx : x.ins = y :: ys) (A' : Option Addr)
    (hA : A' = some ⟨b, off + 1, none⟩ ∨ n = 0 ∧ A' = some ⟨b, off, none⟩) : RMacAt F E ⟨x.ws, x.s, x.pc, x.st, ys, x.outs⟩ D C A' n (ci - 1) ao no co (w.setCell ⟨E, 24, none⟩ (.slice A' n (ci - 1))) := by
  have hB : But E w (w.setCell ⟨E, 24, none⟩ (.slice A' n (ci - 1))) := (But.refl E w).setCell _ _
  have hw := h.ins
  rw [hx] at hw
  have hi := h.insF _ rfl (by omega)
  have hAb : ∀ ad, A' = some ad → ad.block = b := by
    intro ad e
    rcases hA with hA | hA
    · rw [hA] at e; cases e; rfl
    · rw [hA.2] at e; cases e; rfl
  have hW : Ws w A' n (ci - 1) ys := hw.drop1 A' (by
    rcases hA with hA | hA
    · exact Or.inl hA
    · exact Or.inr ⟨hA.1, fun e => by rw [hA.2] at e; cases e⟩)
  have hb := h.box.set 24 (.slice A' n (ci - 1))
  rw [X.rc_in] at hb
  exact ⟨fun k hk => Nat.lt_of_lt_of_le (h.sub k hk) hB.size, h.inE, h.inD, h.inC, h.neD, h.neC, hb, h.mem.but hB (Ne.symm h.neD) (Ne.symm h.neC), hW.but hB fun ad e _ => by rw [hAb ad e]; exact hi.2.1, fun ad e _ => by rw [hAb ad e]; exact hi,
    h.out.to fun ad e => hB.block _ (h.sub _ (h.outF ad e).1) (h.outF ad e).2.1, h.outF, h.ok, h.pc0, h.pc1, h.rng⟩
/-- an output is put -/
theorem RMacAt.outed {F : Nat → Prop} {E : Nat} {x : X.St} {D C : Nat} {ai : Option Addr} {ni ci : Nat} {ao : Option Addr} {no co : Nat} {w w1 w3 : World} {A' : Option Addr} {n' c' : Nat} {v : Int} (h : RMacAt F E x D C ai ni ci ao no co w) (hK : Kept w w1)
    (hG : w1.grownBy w3 (Value.ownBlock (.slice ao no co))) (hO : X.Outs A' n' c' (x.outs ++ [v]) w3) (hA : ∀ bd, A' = some bd → ao = some bd ∨ w1.heap.size ≤ bd.block) (v0 : 0 ≤ v) (v1 : v < 4294967296) :
    Has E (X.rc D x.s x.pc x.st (.slice ai ni ci) (.slice ao no co)) 54 w3 ∧ ∃ F' : Nat → Prop, RMacAt F' E ⟨x.ws, x.s, x.pc, x.st, x.ins, x.outs ++ [v]⟩ D C ai ni ci A' n' c' (w3.setCell ⟨E, 25, none⟩ (.slice A' n' c')) ∧
      Turn F w (w3.setCell ⟨E, 25, none⟩ (.slice A' n' c')) ∧ ∀ k, F' k → F k ∨ w.heap.size ≤ k := by
  have hrow : ∀ k, Value.ownBlock (.slice ao no co) = some k → F k ∧ (k ≠ E ∧ k ≠ D ∧ k ≠ C) ∧ ∀ ad, ai = some ad → 0 < ni → ad.block ≠ k := by
    intro k hk
    cases ao with
    | none => cases hk
    | some bd =>
      cases hk
      exact ⟨(h.outF bd rfl).1, (h.outF bd rfl).2, fun ad e hn => (h.insF ad e hn).2.2.2 bd rfl⟩
  have hT1 : Turn F w w1 := hK.turn F
  have hT3 : Turn F w1 w3 := grown_turn hG fun k hk => (hrow k hk).1
  have hEl : E < w.heap.size := h.sub E h.inE
  have hDl : D < w.heap.size := h.sub D h.inD
  have hCl : C < w.heap.size := h.sub C h.inC
  have hsz := hK.size
  have hbE : w3.heap[E]? = w.heap[E]? := (hG.block E (by omega) (fun e => (hrow E e.symm).2.1.1 rfl)).trans (hK.below.block E hEl)
  have hbD : w3.heap[D]? = w.heap[D]? := (hG.block D (by omega) (fun e => (hrow D e.symm).2.1.2.1 rfl)).trans (hK.below.block D hDl)
  have hbC : w3.heap[C]? = w.heap[C]? := (hG.block C (by omega) (fun e => (hrow C e.symm).2.1.2.2 rfl)).trans (hK.below.block C hCl)
  have hm : Has E (X.rc D x.s x.pc x.st (.slice ai ni ci) (.slice ao no co)) 54 w3 := hbE.trans h.box
  have hB4 : But E w3 (w3.setCell ⟨E, 25, none⟩ (.slice A' n' c')) := (But.refl E w3).setCell _ _
  have hs3 : w.heap.size ≤ w3.heap.size := Nat.le_trans hT1.size hT3.size
  have hlt : ∀ ad, A' = some ad → ad.block < w3.heap.size := by
    intro ad e
    subst e
    exact (World.ownsRow.lt hO ad.block rfl).2
  have hA' : ∀ ad, A' = some ad → (F ad.block ∨ w.heap.size ≤ ad.block) ∧ ad.block ≠ E ∧ ad.block ≠ D ∧ ad.block ≠ C := by
    intro ad e
    rcases hA ad e with h1 | h1
    · exact ⟨Or.inl (h.outF ad h1).1, (h.outF ad h1).2⟩
    · exact ⟨Or.inr (Nat.le_trans hT1.size h1), by omega, by omega, by omega⟩
  have hb := hm.set 25 (.slice A' n' c')
  rw [X.rc_out] at hb
  refine ⟨hm, fun k => F k ∨ (w.heap.size ≤ k ∧ k < w3.heap.size), ⟨?_, Or.inl h.inE, Or.inl h.inD, Or.inl h.inC, h.neD, h.neC, hb, ?_, ?_, ?_, ?_, ?_, h.ok, h.pc0, h.pc1, ?_⟩, (hT1.trans hT3).trans (hB4.turn h.inE), ?_⟩
  · intro k hk
    refine Nat.lt_of_lt_of_le ?_ hB4.size
    rcases hk with hk | hk
    · exact Nat.lt_of_lt_of_le (h.sub k hk) hs3
    · exact hk.2
  · exact (h.mem.to hbD hbC).but hB4 (Ne.symm h.neD) (Ne.symm h.neC)
  · refine (h.ins.to (w' := w3) fun ad e hn => ?_).but hB4 fun ad e hn => (h.insF ad e hn).2.1
    have hl := h.sub _ (h.insF ad e hn).1
    exact (hG.block _ (by omega) (fun e' => (hrow _ e'.symm).2.2 ad e hn rfl)).trans (hK.below.block _ hl)
  · intro ad e hn
    have := h.insF ad e hn
    refine ⟨Or.inl this.1, this.2.1, this.2.2.1, fun bd e' => ?_⟩
    rcases hA bd e' with h1 | h1
    · exact this.2.2.2 bd h1
    · have := h.sub _ this.1
      omega
  · exact hO.to fun ad e => hB4.block _ (hlt ad e) (hA' ad e).2.1
  · intro ad e
    refine ⟨?_, (hA' ad e).2⟩
    rcases (hA' ad e).1 with h1 | h1
    · exact Or.inl h1
    · exact Or.inr ⟨h1, hlt ad e⟩
  · intro y hy
    rcases List.mem_append.1 hy with hy | hy
    · exact h.rng y hy
    · simp at hy; omega
  · intro k hk
    rcases hk with hk | hk
    · exact Or.inl hk
    · exact Or.inr hk.1
set_option maxHeartbeats 2000000 in
theorem rmove_0w {F : Nat → Prop} {E : Nat} {x : X.St} {D C : Nat} {ai : Option Addr} {ni ci : Nat} {ao : Option Addr} {no co : Nat} {w : World} (h : RMacAt F E x D C ai ni ci ao no co w) (a b c i y v : Int) (u : Bool) (a0 : 0 ≤ a) (a1 : a < 16) (b0 : 0 ≤ b) (b1 : b < 16)
    (y0 : 0 ≤ y) (y1 : y < 4294967296) (hy : (x.s.r b.toNat + i % 4294967296) % 4294967296 = y) (v0 : 0 ≤ v) (v1 : v < 4294967296) (hp : ¬ y = 4294967232)
    (L : ∀ w, RMacAt F E x D C ai ni ci ao no co w → Calls Tryz.prog 29 #[.pointer (some ⟨D, 0, none⟩), .int .u32 y] w fun e w' => e = .returned (.tuple #[.int .u32 v, .int .i64 0]) ∧ Kept w w') :
    Calls Tryz.prog 31 #[.pointer (some ⟨E, 0, none⟩), .agg #[.int .i64 5, .int .i64 0, .int .i64 a, .int .i64 b, .int .i64 c, .int .i64 i, .bool u]] w fun e w' => e = .returned (.int .i64 0) ∧ But E w w' ∧ ∃ ai' ni' ci', RMacAt F E ⟨x.ws, A.show' (A.set x.s a.toNat v) v, x.pc, x.st, x.ins, x.outs⟩ D C ai' ni' ci' ao no co w' := by
  have rb := h.ok.1 b.toNat (by omega)
  have ra := h.ok.1 a.toNat (by omega)
  go_enter Tryz.func31, Tryz.ntmps31
  go_upto_region 1 with (fail)
  generalize hw1 : w.alloc (Obj.cells _ _) = w1
  have hI : Has w.heap.size #[.int .i64 5, .int .i64 0, .int .i64 a, .int .i64 b, .int .i64 c, .int .i64 i, .bool u] 57 w1 := by rw [← hw1]; exact Has.new _ _ _
  have hK : Kept w w1 := by rw [← hw1]; exact (Kept.refl w).alloc _ _
  clear hw1
  have hM := h.kept hK
  have hEg : E < w.heap.size := h.sub E h.inE
  have hFg : ∀ k, F k → k < w.heap.size := h.sub
  have hFE : F E := h.inE
  have hFC : F C := h.inC
  clear h
  generalize hg : w.heap.size = g at *
  have cr := hM.reg b.toNat (by omega)
  have ca := hM.reg a.toNat (by omega)
  have c2 : w1.cell? ⟨g, 2, none⟩ = some (.int .i64 a) := hI.cell 2 _ rfl
  have c3 : w1.cell? ⟨g, 3, none⟩ = some (.int .i64 b) := hI.cell 3 _ rfl
  have c5 : w1.cell? ⟨g, 5, none⟩ = some (.int .i64 i) := hI.cell 5 _ rfl
  replace hI := Lib.hid hI
  replace hK := Lib.hid hK
  replace hM := Lib.hid hM
  refine WS.start 12 (by kernel_rfl) (by kernel_rfl) ?_
  intro w2 hw2
  have q1 : w2.cell? ⟨E, 1 + b.toNat, none⟩ = some (.int .u32 (x.s.r b.toNat)) := by rw [hw2]; exact cr
  have q2 : w2.cell? ⟨E, 1 + a.toNat, none⟩ = some (.int .u32 (x.s.r a.toNat)) := by rw [hw2]; exact ca
  have q3 : w2.cell? ⟨g, 2, none⟩ = some (.int .i64 a) := by rw [hw2]; exact c2
  have q4 : w2.cell? ⟨g, 3, none⟩ = some (.int .i64 b) := by rw [hw2]; exact c3
  have q5 : w2.cell? ⟨g, 5, none⟩ = some (.int .i64 i) := by rw [hw2]; exact c5
  have hI2 := Lib.hid (show Has g #[.int .i64 5, .int .i64 0, .int .i64 a, .int .i64 b, .int .i64 c, .int .i64 i, .bool u] 57 w2 by rw [hw2]; exact hI.out)
  have hK2 := Lib.hid (show Kept w w2 by rw [hw2]; exact hK.out.drew)
  have hM2 := Lib.hid (show RMacAt F E x D C ai ni ci ao no co w2 by rw [hw2]; exact hM.out.kept (Kept.refl w1).drew)
  clear hw2 cr ca c2 c3 c5 hI hK hM
  generalize x.s.r b.toNat = vb at *
  generalize x.s.r a.toNat = va at *
  have hyw : IntKind.u32.wrap (vb + IntKind.u32.wrap i) = y := by rw [IntKind.wrap_u32, IntKind.wrap_u32]; exact hy
  simp only [List.take_succ_cons, List.take_zero, List.drop_succ_cons, List.drop_zero]
  iterate 12 (refine WS.step rfl (fun K hK => ?_); go_simp; refine hK _ ?_; clear hK K)
  refine WS.nil ?_
  try simp only [hyw]
  go_upto_region 2 with (fail)
  refine WS.start 8 (by kernel_rfl) (by kernel_rfl) ?_
  intro w3 hw3
  have r2 : w3.cell? ⟨E, 1 + a.toNat, none⟩ = some (.int .u32 va) := by rw [hw3]; exact q2
  have r3 : w3.cell? ⟨g, 2, none⟩ = some (.int .i64 a) := by rw [hw3]; exact q3
  have hI3 := Lib.hid (show Has g #[.int .i64 5, .int .i64 0, .int .i64 a, .int .i64 b, .int .i64 c, .int .i64 i, .bool u] 57 w3 by rw [hw3]; exact hI2.out)
  have hK3 := Lib.hid (show Kept w w3 by rw [hw3]; exact hK2.out.drew)
  have hM3 := Lib.hid (show RMacAt F E x D C ai ni ci ao no co w3 by rw [hw3]; exact hM2.out.kept (Kept.refl w2).drew)
  have r1 : w3.cell? ⟨g, 1, none⟩ = some (.int .i64 0) := hI3.out.cell 1 _ rfl
  clear hw3 q1 q2 q3 q4 q5 hI2 hK2 hM2
  simp only [List.take_succ_cons, List.take_zero, List.drop_succ_cons, List.drop_zero]
  iterate 8 (refine WS.step rfl (fun K hK => ?_); go_simp; refine hK _ ?_; clear hK K)
  refine WS.nil ?_
  have cM : w3.cell? ⟨E, 0, none⟩ = some (.pointer (some ⟨D, 0, none⟩)) := hM3.out.box.cell 0 _ rfl
  have hp' : (y == 4294967232) = false := by simpa using hp
  go_wp2_with (fail)
  refine (L _ hM3.out).mono ?_; rintro e w4 ⟨rfl, hK4⟩
  have hM4 := Lib.hid (hM3.out.kept hK4)
  have hK4' := Lib.hid ((hK3.out.trans hK4).but E)
  have hI4 := Lib.hid (hI3.out.kept hK4)
  clear hM3 hK3 hI3 hK4 L r1 r2 r3 cM
  go_upto_region 13 with (fail)
  have t1 : w4.cell? ⟨g, 2, none⟩ = some (.int .i64 a) := hI4.out.cell 2 _ rfl
  have t2 := hM4.out.reg a.toNat (by omega)
  have t3 := hM4.out.box.free (1 + a.toNat)
  refine WS.start 8 (by kernel_rfl) (by kernel_rfl) ?_
  intro wy hwy
  have u1 : wy.cell? ⟨g, 2, none⟩ = some (.int .i64 a) := by rw [hwy]; exact t1
  have u2 : ∃ z, wy.cell? ⟨E, 1 + a.toNat, none⟩ = some (.int .u32 z) := ⟨_, by rw [hwy]; exact t2⟩
  have u3 : wy.frozen? ⟨E, 1 + a.toNat, none⟩ = false := by rw [hwy]; exact t3
  have hMy := hM4.out.kept (Kept.refl w4).drew
  rw [show w4.drew = wy from hwy.symm] at hMy
  have hKy := hK4'.out.drew
  rw [show w4.drew = wy from hwy.symm] at hKy
  obtain ⟨z, u2⟩ := u2
  clear hwy t1 t2 t3 hM4 hK4' hI4
  replace hMy := Lib.hid hMy
  replace hKy := Lib.hid hKy
  simp only [List.take_succ_cons, List.take_zero, List.drop_succ_cons, List.drop_zero]
  iterate 8 (refine WS.step rfl (fun K hK => ?_); go_simp; refine hK _ ?_; clear hK K)
  refine WS.nil ?_
  have hb := hMy.out.box.set (1 + a.toNat) (.int .u32 v)
  rw [X.rc_set _ _ _ _ _ _ a.toNat (by omega)] at hb
  have hB := (But.refl E wy).setCell (1 + a.toNat) (.int .u32 v)
  replace hb := Lib.hid hb
  replace hB := Lib.hid hB
  go_upto_region 14 with (fail)
  generalize wy.setCell _ _ = wx at *
  clear u1 u2 u3
  go_wp2_with (with_reducible refine wpList_load_mid (op := ⟨some 80, _, _, _, _, _⟩) rfl 26 _ rfl _ _ rfl (A.cells (A.set x.s a.toNat v)).toList _ (X.rc_range hb.out) Tryz.underlying26 rfl (by rw [Array.length_toList]; exact A.info25 _) ?_)
  refine (rshow_any _ v v0 v1 _).mono ?_; rintro e wv ⟨rfl, hKv⟩
  have hbv := hb.out.kept hKv
  have hth := hbv.there 1 21 (by rw [X.rc_size]; omega)
  have hb3 := Has.setN (A.cells (A.show' (A.set x.s a.toNat v) v)).toList 1 _ wv hbv
  rw [X.rc_regs] at hb3
  have hB3 : But E wv (wv.setCells E 1 (A.cells (A.show' (A.set x.s a.toNat v) v)).toList) := but_setCells _ _ _ _ (But.refl E wv)
  have hBB := (hB.out.trans (hKv.but E)).trans hB3
  have hMf := Lib.hid (hMy.out.own hBB _ _ _ hb3 (A.ok_show _ _ (A.ok_set _ _ _ hMy.out.ok v0 v1)) hMy.out.pc0 hMy.out.pc1)
  have hBf := Lib.hid (hKy.out.trans hBB)
  clear hb3 hB3 hBB hb hB hbv hKv hMy hKy
  go_wp2_with (with_reducible refine wpList_store_mid rfl 26 _ _ rfl _ _ (A.cells (A.show' (A.set x.s a.toNat v) v)) rfl rfl hth (A.info25 _) (A.one_cells _) ?_; generalize World.setCells _ _ _ _ = wu at *)
  go_ret
  exact ⟨rfl, hBf.out, _, _, _, hMf.out⟩
set_option maxHeartbeats 2000000 in
theorem rmove_0t {F : Nat → Prop} {E : Nat} {x : X.St} {D C : Nat} {ai : Option Addr} {ni ci : Nat} {ao : Option Addr} {no co : Nat} {w : World} (h : RMacAt F E x D C ai ni ci ao no co w) (a b c i y v t : Int) (u : Bool) (a0 : 0 ≤ a) (a1 : a < 16) (b0 : 0 ≤ b) (b1 : b < 16)
    (y0 : 0 ≤ y) (y1 : y < 4294967296) (hy : (x.s.r b.toNat + i % 4294967296) % 4294967296 = y) (ht : ¬ t = 0) (hp : ¬ y = 4294967232)
    (L : ∀ w, RMacAt F E x D C ai ni ci ao no co w → Calls Tryz.prog 29 #[.pointer (some ⟨D, 0, none⟩), .int .u32 y] w fun e w' => e = .returned (.tuple #[.int .u32 v, .int .i64 t]) ∧ Kept w w') :
    Calls Tryz.prog 31 #[.pointer (some ⟨E, 0, none⟩), .agg #[.int .i64 5, .int .i64 0, .int .i64 a, .int .i64 b, .int .i64 c, .int .i64 i, .bool u]] w fun e w' => e = .returned (.int .i64 t) ∧ Kept w w' := by
  have rb := h.ok.1 b.toNat (by omega)
  have ra := h.ok.1 a.toNat (by omega)
  go_enter Tryz.func31, Tryz.ntmps31
  go_upto_region 1 with (fail)
  generalize hw1 : w.alloc (Obj.cells _ _) = w1
  have hI : Has w.heap.size #[.int .i64 5, .int .i64 0, .int .i64 a, .int .i64 b, .int .i64 c, .int .i64 i, .bool u] 57 w1 := by rw [← hw1]; exact Has.new _ _ _
  have hK : Kept w w1 := by rw [← hw1]; exact (Kept.refl w).alloc _ _
  clear hw1
  have hM := h.kept hK
  have hEg : E < w.heap.size := h.sub E h.inE
  have hFg : ∀ k, F k → k < w.heap.size := h.sub
  have hFE : F E := h.inE
  have hFC : F C := h.inC
  clear h
  generalize hg : w.heap.size = g at *
  have cr := hM.reg b.toNat (by omega)
  have ca := hM.reg a.toNat (by omega)
  have c2 : w1.cell? ⟨g, 2, none⟩ = some (.int .i64 a) := hI.cell 2 _ rfl
  have c3 : w1.cell? ⟨g, 3, none⟩ = some (.int .i64 b) := hI.cell 3 _ rfl
  have c5 : w1.cell? ⟨g, 5, none⟩ = some (.int .i64 i) := hI.cell 5 _ rfl
  replace hI := Lib.hid hI
  replace hK := Lib.hid hK
  replace hM := Lib.hid hM
  refine WS.start 12 (by kernel_rfl) (by kernel_rfl) ?_
  intro w2 hw2
  have q1 : w2.cell? ⟨E, 1 + b.toNat, none⟩ = some (.int .u32 (x.s.r b.toNat)) := by rw [hw2]; exact cr
  have q2 : w2.cell? ⟨E, 1 + a.toNat, none⟩ = some (.int .u32 (x.s.r a.toNat)) := by rw [hw2]; exact ca
  have q3 : w2.cell? ⟨g, 2, none⟩ = some (.int .i64 a) := by rw [hw2]; exact c2
  have q4 : w2.cell? ⟨g, 3, none⟩ = some (.int .i64 b) := by rw [hw2]; exact c3
  have q5 : w2.cell? ⟨g, 5, none⟩ = some (.int .i64 i) := by rw [hw2]; exact c5
  have hI2 := Lib.hid (show Has g #[.int .i64 5, .int .i64 0, .int .i64 a, .int .i64 b, .int .i64 c, .int .i64 i, .bool u] 57 w2 by rw [hw2]; exact hI.out)
  have hK2 := Lib.hid (show Kept w w2 by rw [hw2]; exact hK.out.drew)
  have hM2 := Lib.hid (show RMacAt F E x D C ai ni ci ao no co w2 by rw [hw2]; exact hM.out.kept (Kept.refl w1).drew)
  clear hw2 cr ca c2 c3 c5 hI hK hM
  generalize x.s.r b.toNat = vb at *
  generalize x.s.r a.toNat = va at *
  have hyw : IntKind.u32.wrap (vb + IntKind.u32.wrap i) = y := by rw [IntKind.wrap_u32, IntKind.wrap_u32]; exact hy
  simp only [List.take_succ_cons, List.take_zero, List.drop_succ_cons, List.drop_zero]
  iterate 12 (refine WS.step rfl (fun K hK => ?_); go_simp; refine hK _ ?_; clear hK K)
  refine WS.nil ?_
  try simp only [hyw]
  go_upto_region 2 with (fail)
  refine WS.start 8 (by kernel_rfl) (by kernel_rfl) ?_
  intro w3 hw3
  have r2 : w3.cell? ⟨E, 1 + a.toNat, none⟩ = some (.int .u32 va) := by rw [hw3]; exact q2
  have r3 : w3.cell? ⟨g, 2, none⟩ = some (.int .i64 a) := by rw [hw3]; exact q3
  have hI3 := Lib.hid (show Has g #[.int .i64 5, .int .i64 0, .int .i64 a, .int .i64 b, .int .i64 c, .int .i64 i, .bool u] 57 w3 by rw [hw3]; exact hI2.out)
  have hK3 := Lib.hid (show Kept w w3 by rw [hw3]; exact hK2.out.drew)
  have hM3 := Lib.hid (show RMacAt F E x D C ai ni ci ao no co w3 by rw [hw3]; exact hM2.out.kept (Kept.refl w2).drew)
  have r1 : w3.cell? ⟨g, 1, none⟩ = some (.int .i64 0) := hI3.out.cell 1 _ rfl
  clear hw3 q1 q2 q3 q4 q5 hI2 hK2 hM2
  simp only [List.take_succ_cons, List.take_zero, List.drop_succ_cons, List.drop_zero]
  iterate 8 (refine WS.step rfl (fun K hK => ?_); go_simp; refine hK _ ?_; clear hK K)
  refine WS.nil ?_
  have cM : w3.cell? ⟨E, 0, none⟩ = some (.pointer (some ⟨D, 0, none⟩)) := hM3.out.box.cell 0 _ rfl
  have hp' : (y == 4294967232) = false := by simpa using hp
  have ht' : (t == 0) = false := by simpa using ht
  go_wp2_with (fail)
  refine (L _ hM3.out).mono ?_; rintro e w4 ⟨rfl, hK4⟩
  have hK4' := Lib.hid (hK3.out.trans hK4)
  clear hM3 hK3 hI3 hK4 L r1 r2 r3 cM
  go_wp2
  go_ret
  exact ⟨rfl, hK4'.out⟩
set_option maxHeartbeats 2000000 in
theorem rmove_0n {F : Nat → Prop} {E : Nat} {x : X.St} {D C : Nat} {ai : Option Addr} {ni ci : Nat} {ao : Option Addr} {no co : Nat} {w : World} (h : RMacAt F E x D C ai ni ci ao no co w) (a b c i y v' t' : Int) (u : Bool) (a0 : 0 ≤ a) (a1 : a < 16) (b0 : 0 ≤ b) (b1 : b < 16)
    (y0 : 0 ≤ y) (y1 : y < 4294967296) (hy : (x.s.r b.toNat + i % 4294967296) % 4294967296 = y) (hp : y = 4294967232) (hn : x.ins = [])
    (L : ∀ w, RMacAt F E x D C ai ni ci ao no co w → Calls Tryz.prog 29 #[.pointer (some ⟨D, 0, none⟩), .int .u32 y] w fun e w' => e = .returned (.tuple #[.int .u32 v', .int .i64 t']) ∧ Kept w w') :
    Calls Tryz.prog 31 #[.pointer (some ⟨E, 0, none⟩), .agg #[.int .i64 5, .int .i64 0, .int .i64 a, .int .i64 b, .int .i64 c, .int .i64 i, .bool u]] w fun e w' => e = .returned (.int .i64 0) ∧ But E w w' ∧ ∃ ai' ni' ci', RMacAt F E ⟨x.ws, A.show' (A.set x.s a.toNat 0) 0, x.pc, x.st, x.ins, x.outs⟩ D C ai' ni' ci' ao no co w' := by
  have rb := h.ok.1 b.toNat (by omega)
  have ra := h.ok.1 a.toNat (by omega)
  go_enter Tryz.func31, Tryz.ntmps31
  go_upto_region 1 with (fail)
  generalize hw1 : w.alloc (Obj.cells _ _) = w1
  have hI : Has w.heap.size #[.int .i64 5, .int .i64 0, .int .i64 a, .int .i64 b, .int .i64 c, .int .i64 i, .bool u] 57 w1 := by rw [← hw1]; exact Has.new _ _ _
  have hK : Kept w w1 := by rw [← hw1]; exact (Kept.refl w).alloc _ _
  clear hw1
  have hM := h.kept hK
  have hEg : E < w.heap.size := h.sub E h.inE
  have hFg : ∀ k, F k → k < w.heap.size := h.sub
  have hFE : F E := h.inE
  have hFC : F C := h.inC
  clear h
  generalize hg : w.heap.size = g at *
  have cr := hM.reg b.toNat (by omega)
  have ca := hM.reg a.toNat (by omega)
  have c2 : w1.cell? ⟨g, 2, none⟩ = some (.int .i64 a) := hI.cell 2 _ rfl
  have c3 : w1.cell? ⟨g, 3, none⟩ = some (.int .i64 b) := hI.cell 3 _ rfl
  have c5 : w1.cell? ⟨g, 5, none⟩ = some (.int .i64 i) := hI.cell 5 _ rfl
  replace hI := Lib.hid hI
  replace hK := Lib.hid hK
  replace hM := Lib.hid hM
  refine WS.start 12 (by kernel_rfl) (by kernel_rfl) ?_
  intro w2 hw2
  have q1 : w2.cell? ⟨E, 1 + b.toNat, none⟩ = some (.int .u32 (x.s.r b.toNat)) := by rw [hw2]; exact cr
  have q2 : w2.cell? ⟨E, 1 + a.toNat, none⟩ = some (.int .u32 (x.s.r a.toNat)) := by rw [hw2]; exact ca
  have q3 : w2.cell? ⟨g, 2, none⟩ = some (.int .i64 a) := by rw [hw2]; exact c2
  have q4 : w2.cell? ⟨g, 3, none⟩ = some (.int .i64 b) := by rw [hw2]; exact c3
  have q5 : w2.cell? ⟨g, 5, none⟩ = some (.int .i64 i) := by rw [hw2]; exact c5
  have hI2 := Lib.hid (show Has g #[.int .i64 5, .int .i64 0, .int .i64 a, .int .i64 b, .int .i64 c, .int .i64 i, .bool u] 57 w2 by rw [hw2]; exact hI.out)
  have hK2 := Lib.hid (show Kept w w2 by rw [hw2]; exact hK.out.drew)
  have hM2 := Lib.hid (show RMacAt F E x D C ai ni ci ao no co w2 by rw [hw2]; exact hM.out.kept (Kept.refl w1).drew)
  clear hw2 cr ca c2 c3 c5 hI hK hM
  generalize x.s.r b.toNat = vb at *
  generalize x.s.r a.toNat = va at *
  have hyw : IntKind.u32.wrap (vb + IntKind.u32.wrap i) = y := by rw [IntKind.wrap_u32, IntKind.wrap_u32]; exact hy
  simp only [List.take_succ_cons, List.take_zero, List.drop_succ_cons, List.drop_zero]
  iterate 12 (refine WS.step rfl (fun K hK => ?_); go_simp; refine hK _ ?_; clear hK K)
  refine WS.nil ?_
  try simp only [hyw]
  go_upto_region 2 with (fail)
  refine WS.start 8 (by kernel_rfl) (by kernel_rfl) ?_
  intro w3 hw3
  have r2 : w3.cell? ⟨E, 1 + a.toNat, none⟩ = some (.int .u32 va) := by rw [hw3]; exact q2
  have r3 : w3.cell? ⟨g, 2, none⟩ = some (.int .i64 a) := by rw [hw3]; exact q3
  have hI3 := Lib.hid (show Has g #[.int .i64 5, .int .i64 0, .int .i64 a, .int .i64 b, .int .i64 c, .int .i64 i, .bool u] 57 w3 by rw [hw3]; exact hI2.out)
  have hK3 := Lib.hid (show Kept w w3 by rw [hw3]; exact hK2.out.drew)
  have hM3 := Lib.hid (show RMacAt F E x D C ai ni ci ao no co w3 by rw [hw3]; exact hM2.out.kept (Kept.refl w2).drew)
  have r1 : w3.cell? ⟨g, 1, none⟩ = some (.int .i64 0) := hI3.out.cell 1 _ rfl
  clear hw3 q1 q2 q3 q4 q5 hI2 hK2 hM2
  simp only [List.take_succ_cons, List.take_zero, List.drop_succ_cons, List.drop_zero]
  iterate 8 (refine WS.step rfl (fun K hK => ?_); go_simp; refine hK _ ?_; clear hK K)
  refine WS.nil ?_
  have cM : w3.cell? ⟨E, 0, none⟩ = some (.pointer (some ⟨D, 0, none⟩)) := hM3.out.box.cell 0 _ rfl
  have v0 : (0 : Int) ≤ 0 := by omega
  have v1 : (0 : Int) < 4294967296 := by omega
  subst hp
  go_wp2_with (fail)
  refine (L _ hM3.out).mono ?_; rintro e w4 ⟨rfl, hK4⟩
  have hni : ni = 0 := by have := hM3.out.ins.len; rw [hn] at this; simpa using this.symm
  subst hni
  have hM4 := (hM3.out.kept hK4)
  have cin : w4.cell? ⟨E, 24, none⟩ = some (.slice ai 0 ci) := hM4.box.cell 24 _ rfl
  replace hM4 := Lib.hid hM4
  have hK4' := Lib.hid ((hK3.out.trans hK4).but E)
  have hI4 := Lib.hid (hI3.out.kept hK4)
  clear hM3 hK3 hI3 hK4 L r1 r2 r3 cM
  go_upto_region 13 with (fail)
  have t1 : w4.cell? ⟨g, 2, none⟩ = some (.int .i64 a) := hI4.out.cell 2 _ rfl
  have t2 := hM4.out.reg a.toNat (by omega)
  have t3 := hM4.out.box.free (1 + a.toNat)
  refine WS.start 8 (by kernel_rfl) (by kernel_rfl) ?_
  intro wy hwy
  have u1 : wy.cell? ⟨g, 2, none⟩ = some (.int .i64 a) := by rw [hwy]; exact t1
  have u2 : ∃ z, wy.cell? ⟨E, 1 + a.toNat, none⟩ = some (.int .u32 z) := ⟨_, by rw [hwy]; exact t2⟩
  have u3 : wy.frozen? ⟨E, 1 + a.toNat, none⟩ = false := by rw [hwy]; exact t3
  have hMy := hM4.out.kept (Kept.refl w4).drew
  rw [show w4.drew = wy from hwy.symm] at hMy
  have hKy := hK4'.out.drew
  rw [show w4.drew = wy from hwy.symm] at hKy
  obtain ⟨z, u2⟩ := u2
  clear hwy t1 t2 t3 hM4 hK4' hI4
  replace hMy := Lib.hid hMy
  replace hKy := Lib.hid hKy
  simp only [List.take_succ_cons, List.take_zero, List.drop_succ_cons, List.drop_zero]
  iterate 8 (refine WS.step rfl (fun K hK => ?_); go_simp; refine hK _ ?_; clear hK K)
  refine WS.nil ?_
  have hb := hMy.out.box.set (1 + a.toNat) (.int .u32 0)
  rw [X.rc_set _ _ _ _ _ _ a.toNat (by omega)] at hb
  have hB := (But.refl E wy).setCell (1 + a.toNat) (.int .u32 0)
  replace hb := Lib.hid hb
  replace hB := Lib.hid hB
  go_upto_region 14 with (fail)
  generalize wy.setCell _ _ = wx at *
  clear u1 u2 u3
  go_wp2_with (with_reducible refine wpList_load_mid (op := ⟨some 80, _, _, _, _, _⟩) rfl 26 _ rfl _ _ rfl (A.cells (A.set x.s a.toNat 0)).toList _ (X.rc_range hb.out) Tryz.underlying26 rfl (by rw [Array.length_toList]; exact A.info25 _) ?_)
  refine (rshow_any _ 0 v0 v1 _).mono ?_; rintro e wv ⟨rfl, hKv⟩
  have hbv := hb.out.kept hKv
  have hth := hbv.there 1 21 (by rw [X.rc_size]; omega)
  have hb3 := Has.setN (A.cells (A.show' (A.set x.s a.toNat 0) 0)).toList 1 _ wv hbv
  rw [X.rc_regs] at hb3
  have hB3 : But E wv (wv.setCells E 1 (A.cells (A.show' (A.set x.s a.toNat 0) 0)).toList) := but_setCells _ _ _ _ (But.refl E wv)
  have hBB := (hB.out.trans (hKv.but E)).trans hB3
  have hMf := Lib.hid (hMy.out.own hBB _ _ _ hb3 (A.ok_show _ _ (A.ok_set _ _ _ hMy.out.ok v0 v1)) hMy.out.pc0 hMy.out.pc1)
  have hBf := Lib.hid (hKy.out.trans hBB)
  clear hb3 hB3 hBB hb hB hbv hKv hMy hKy
  go_wp2_with (with_reducible refine wpList_store_mid rfl 26 _ _ rfl _ _ (A.cells (A.show' (A.set x.s a.toNat 0) 0)) rfl rfl hth (A.info25 _) (A.one_cells _) ?_; generalize World.setCells _ _ _ _ = wu at *)
  go_ret
  exact ⟨rfl, hBf.out, _, _, _, hMf.out⟩
set_option maxHeartbeats 2000000 in
theorem rmove_0i {F : Nat → Prop} {E : Nat} {x : X.St} {D C : Nat} {ai : Option Addr} {ni ci : Nat} {ao : Option Addr} {no co : Nat} {w : World} (h : RMacAt F E x D C ai ni ci ao no co w) (a b c i y v v' t' : Int) (u : Bool) (a0 : 0 ≤ a) (a1 : a < 16) (b0 : 0 ≤ b) (b1 : b < 16)
    (y0 : 0 ≤ y) (y1 : y < 4294967296) (hy : (x.s.r b.toNat + i % 4294967296) % 4294967296 = y) (ys : List Int) (v0 : 0 ≤ v) (v1 : v < 4294967296) (hp : y = 4294967232) (hn : x.ins = v :: ys)
    (L : ∀ w, RMacAt F E x D C ai ni ci ao no co w → Calls Tryz.prog 29 #[.pointer (some ⟨D, 0, none⟩), .int .u32 y] w fun e w' => e = .returned (.tuple #[.int .u32 v', .int .i64 t']) ∧ Kept w w') :
    Calls Tryz.prog 31 #[.pointer (some ⟨E, 0, none⟩), .agg #[.int .i64 5, .int .i64 0, .int .i64 a, .int .i64 b, .int .i64 c, .int .i64 i, .bool u]] w fun e w' => e = .returned (.int .i64 0) ∧ But E w w' ∧ ∃ ai' ni' ci', RMacAt F E ⟨x.ws, A.show' (A.set x.s a.toNat v) v, x.pc, x.st, ys, x.outs⟩ D C ai' ni' ci' ao no co w' := by
  have rb := h.ok.1 b.toNat (by omega)
  have ra := h.ok.1 a.toNat (by omega)
  go_enter Tryz.func31, Tryz.ntmps31
  go_upto_region 1 with (fail)
  generalize hw1 : w.alloc (Obj.cells _ _) = w1
  have hI : Has w.heap.size #[.int .i64 5, .int .i64 0, .int .i64 a, .int .i64 b, .int .i64 c, .int .i64 i, .bool u] 57 w1 := by rw [← hw1]; exact Has.new _ _ _
  have hK : Kept w w1 := by rw [← hw1]; exact (Kept.refl w).alloc _ _
  clear hw1
  have hM := h.kept hK
  have hEg : E < w.heap.size := h.sub E h.inE
  have hFg : ∀ k, F k → k < w.heap.size := h.sub
  have hFE : F E := h.inE
  have hFC : F C := h.inC
  clear h
  generalize hg : w.heap.size = g at *
  have cr := hM.reg b.toNat (by omega)
  have ca := hM.reg a.toNat (by omega)
  have c2 : w1.cell? ⟨g, 2, none⟩ = some (.int .i64 a) := hI.cell 2 _ rfl
  have c3 : w1.cell? ⟨g, 3, none⟩ = some (.int .i64 b) := hI.cell 3 _ rfl
  have c5 : w1.cell? ⟨g, 5, none⟩ = some (.int .i64 i) := hI.cell 5 _ rfl
  replace hI := Lib.hid hI
  replace hK := Lib.hid hK
  replace hM := Lib.hid hM
  refine WS.start 12 (by kernel_rfl) (by kernel_rfl) ?_
  intro w2 hw2
  have q1 : w2.cell? ⟨E, 1 + b.toNat, none⟩ = some (.int .u32 (x.s.r b.toNat)) := by rw [hw2]; exact cr
  have q2 : w2.cell? ⟨E, 1 + a.toNat, none⟩ = some (.int .u32 (x.s.r a.toNat)) := by rw [hw2]; exact ca
  have q3 : w2.cell? ⟨g, 2, none⟩ = some (.int .i64 a) := by rw [hw2]; exact c2
  have q4 : w2.cell? ⟨g, 3, none⟩ = some (.int .i64 b) := by rw [hw2]; exact c3
  have q5 : w2.cell? ⟨g, 5, none⟩ = some (.int .i64 i) := by rw [hw2]; exact c5
  have hI2 := Lib.hid (show Has g #[.int .i64 5, .int .i64 0, .int .i64 a, .int .i64 b, .int .i64 c, .int .i64 i, .bool u] 57 w2 by rw [hw2]; exact hI.out)
  have hK2 := Lib.hid (show Kept w w2 by rw [hw2]; exact hK.out.drew)
  have hM2 := Lib.hid (show RMacAt F E x D C ai ni ci ao no co w2 by rw [hw2]; exact hM.out.kept (Kept.refl w1).drew)
  clear hw2 cr ca c2 c3 c5 hI hK hM
  generalize x.s.r b.toNat = vb at *
  generalize x.s.r a.toNat = va at *
  have hyw : IntKind.u32.wrap (vb + IntKind.u32.wrap i) = y := by rw [IntKind.wrap_u32, IntKind.wrap_u32]; exact hy
  simp only [List.take_succ_cons, List.take_zero, List.drop_succ_cons, List.drop_zero]
  iterate 12 (refine WS.step rfl (fun K hK => ?_); go_simp; refine hK _ ?_; clear hK K)
  refine WS.nil ?_
  try simp only [hyw]
  go_upto_region 2 with (fail)
  refine WS.start 8 (by kernel_rfl) (by kernel_rfl) ?_
  intro w3 hw3
  have r2 : w3.cell? ⟨E, 1 + a.toNat, none⟩ = some (.int .u32 va) := by rw [hw3]; exact q2
  have r3 : w3.cell? ⟨g, 2, none⟩ = some (.int .i64 a) := by rw [hw3]; exact q3
  have hI3 := Lib.hid (show Has g #[.int .i64 5, .int .i64 0, .int .i64 a, .int .i64 b, .int .i64 c, .int .i64 i, .bool u] 57 w3 by rw [hw3]; exact hI2.out)
  have hK3 := Lib.hid (show Kept w w3 by rw [hw3]; exact hK2.out.drew)
  have hM3 := Lib.hid (show RMacAt F E x D C ai ni ci ao no co w3 by rw [hw3]; exact hM2.out.kept (Kept.refl w2).drew)
  have r1 : w3.cell? ⟨g, 1, none⟩ = some (.int .i64 0) := hI3.out.cell 1 _ rfl
  clear hw3 q1 q2 q3 q4 q5 hI2 hK2 hM2
  simp only [List.take_succ_cons, List.take_zero, List.drop_succ_cons, List.drop_zero]
  iterate 8 (refine WS.step rfl (fun K hK => ?_); go_simp; refine hK _ ?_; clear hK K)
  refine WS.nil ?_
  have cM : w3.cell? ⟨E, 0, none⟩ = some (.pointer (some ⟨D, 0, none⟩)) := hM3.out.box.cell 0 _ rfl
  subst hp
  go_wp2_with (fail)
  refine (L _ hM3.out).mono ?_; rintro e w4 ⟨rfl, hK4⟩
  obtain ⟨m, rfl⟩ : ∃ m, ni = m + 1 := ⟨ys.length, by have := hM3.out.ins.len; rw [hn] at this; simpa using this.symm⟩
  have hw := hM3.out.ins
  rw [hn] at hw
  obtain ⟨bb, off, rfl⟩ : ∃ b off, ai = some ⟨b, off, none⟩ := by
    cases ai with
    | none => have := hw.nil rfl; have := hw.le; omega
    | some ad => obtain ⟨b, off, rfl⟩ := hw.addr (by omega); exact ⟨b, off, rfl⟩
  have hM4 := (hM3.out.kept hK4)
  have cin : w4.cell? ⟨E, 24, none⟩ = some (.slice (some ⟨bb, off, none⟩) (m + 1) ci) := hM4.box.cell 24 _ rfl
  have fin := hM4.box.free 24
  have hw4 := hM4.ins
  rw [hn] at hw4
  have cv : w4.cell? ⟨bb, off, none⟩ = some (.int .u32 v) := hw4.cellAt 0 v rfl
  have hle := hw4.le
  have hmx := hw4.max
  replace hM4 := Lib.hid hM4
  have hK4' := Lib.hid ((hK3.out.trans hK4).but E)
  have hI4 := Lib.hid (hI3.out.kept hK4)
  clear hM3 hK3 hI3 hK4 L r1 r2 r3 cM hw hw4
  go_upto_region 11 with (fail)
  have hE1 := fun A' hA => hM4.out.eaten hn A' hA
  replace hE1 := Lib.hid hE1
  go_upto_region 12 with (fail)
  generalize hA' : (if ci = 1 then (some ⟨bb, off, none⟩ : Option Addr) else some ⟨bb, off + 1, none⟩) = A' at *
  have hM5 := hE1.out A' (by
    by_cases c1 : ci = 1
    · rw [if_pos c1] at hA'; exact Or.inr ⟨by omega, hA'.symm⟩
    · rw [if_neg c1] at hA'; exact Or.inl hA'.symm)
  clear hA'
  have hB5 : But E w4 (w4.setCell ⟨E, 24, none⟩ (.slice A' m (ci - 1))) := (But.refl E w4).setCell _ _
  have hI5 := Lib.hid (hB5.has (by omega) hI4.out)
  have hK5 := Lib.hid (hK4'.out.trans hB5)
  replace hM5 := Lib.hid hM5
  clear hE1 hM4 hK4' hI4 hB5 cin fin cv
  generalize w4.setCell _ _ = w5 at *
  go_upto_region 13 with (fail)
  have t1 : w5.cell? ⟨g, 2, none⟩ = some (.int .i64 a) := hI5.out.cell 2 _ rfl
  have t2 := hM5.out.reg a.toNat (by omega)
  have t3 := hM5.out.box.free (1 + a.toNat)
  refine WS.start 8 (by kernel_rfl) (by kernel_rfl) ?_
  intro wy hwy
  have u1 : wy.cell? ⟨g, 2, none⟩ = some (.int .i64 a) := by rw [hwy]; exact t1
  have u2 : ∃ z, wy.cell? ⟨E, 1 + a.toNat, none⟩ = some (.int .u32 z) := ⟨_, by rw [hwy]; exact t2⟩
  have u3 : wy.frozen? ⟨E, 1 + a.toNat, none⟩ = false := by rw [hwy]; exact t3
  have hMy := hM5.out.kept (Kept.refl w5).drew
  rw [show w5.drew = wy from hwy.symm] at hMy
  have hKy := hK5.out.drew
  rw [show w5.drew = wy from hwy.symm] at hKy
  obtain ⟨z, u2⟩ := u2
  clear hwy t1 t2 t3 hM5 hK5 hI5
  replace hMy := Lib.hid hMy
  replace hKy := Lib.hid hKy
  simp only [List.take_succ_cons, List.take_zero, List.drop_succ_cons, List.drop_zero]
  iterate 8 (refine WS.step rfl (fun K hK => ?_); go_simp; refine hK _ ?_; clear hK K)
  refine WS.nil ?_
  have hb := hMy.out.box.set (1 + a.toNat) (.int .u32 v)
  rw [X.rc_set _ _ _ _ _ _ a.toNat (by omega)] at hb
  have hB := (But.refl E wy).setCell (1 + a.toNat) (.int .u32 v)
  replace hb := Lib.hid hb
  replace hB := Lib.hid hB
  go_upto_region 14 with (fail)
  generalize wy.setCell _ _ = wx at *
  clear u1 u2 u3
  go_wp2_with (with_reducible refine wpList_load_mid (op := ⟨some 80, _, _, _, _, _⟩) rfl 26 _ rfl _ _ rfl (A.cells (A.set x.s a.toNat v)).toList _ (X.rc_range hb.out) Tryz.underlying26 rfl (by rw [Array.length_toList]; exact A.info25 _) ?_)
  refine (rshow_any _ v v0 v1 _).mono ?_; rintro e wv ⟨rfl, hKv⟩
  have hbv := hb.out.kept hKv
  have hth := hbv.there 1 21 (by rw [X.rc_size]; omega)
  have hb3 := Has.setN (A.cells (A.show' (A.set x.s a.toNat v) v)).toList 1 _ wv hbv
  rw [X.rc_regs] at hb3
  have hB3 : But E wv (wv.setCells E 1 (A.cells (A.show' (A.set x.s a.toNat v) v)).toList) := but_setCells _ _ _ _ (But.refl E wv)
  have hBB := (hB.out.trans (hKv.but E)).trans hB3
  have hMf := Lib.hid (hMy.out.own hBB _ _ _ hb3 (A.ok_show _ _ (A.ok_set _ _ _ hMy.out.ok v0 v1)) hMy.out.pc0 hMy.out.pc1)
  have hBf := Lib.hid (hKy.out.trans hBB)
  clear hb3 hB3 hBB hb hB hbv hKv hMy hKy
  go_wp2_with (with_reducible refine wpList_store_mid rfl 26 _ _ rfl _ _ (A.cells (A.show' (A.set x.s a.toNat v) v)) rfl rfl hth (A.info25 _) (A.one_cells _) ?_; generalize World.setCells _ _ _ _ = wu at *)
  go_ret
  exact ⟨rfl, hBf.out, _, _, _, hMf.out⟩
set_option maxHeartbeats 2000000 in
theorem rmove_1w {F : Nat → Prop} {E : Nat} {x : X.St} {D C : Nat} {ai : Option Addr} {ni ci : Nat} {ao : Option Addr} {no co : Nat} {w : World} (h : RMacAt F E x D C ai ni ci ao no co w) (a b c i y v : Int) (u : Bool) (a0 : 0 ≤ a) (a1 : a < 16) (b0 : 0 ≤ b) (b1 : b < 16)
    (y0 : 0 ≤ y) (y1 : y < 4294967296) (hy : (x.s.r b.toNat + i % 4294967296) % 4294967296 = y) (v0 : 0 ≤ v) (v256 : v < 256)
    (L : ∀ w, RMacAt F E x D C ai ni ci ao no co w → Calls Tryz.prog 50 #[.pointer (some ⟨D, 0, none⟩), .int .u32 y] w fun e w' => e = .returned (.tuple #[.int .u8 v, .int .i64 0]) ∧ w = w') :
    Calls Tryz.prog 31 #[.pointer (some ⟨E, 0, none⟩), .agg #[.int .i64 5, .int .i64 1, .int .i64 a, .int .i64 b, .int .i64 c, .int .i64 i, .bool u]] w fun e w' => e = .returned (.int .i64 0) ∧ But E w w' ∧ ∃ ai' ni' ci', RMacAt F E ⟨x.ws, A.show' (A.set x.s a.toNat v) v, x.pc, x.st, x.ins, x.outs⟩ D C ai' ni' ci' ao no co w' := by
  have rb := h.ok.1 b.toNat (by omega)
  have ra := h.ok.1 a.toNat (by omega)
  go_enter Tryz.func31, Tryz.ntmps31
  go_upto_region 1 with (fail)
  generalize hw1 : w.alloc (Obj.cells _ _) = w1
  have hI : Has w.heap.size #[.int .i64 5, .int .i64 1, .int .i64 a, .int .i64 b, .int .i64 c, .int .i64 i, .bool u] 57 w1 := by rw [← hw1]; exact Has.new _ _ _
  have hK : Kept w w1 := by rw [← hw1]; exact (Kept.refl w).alloc _ _
  clear hw1
  have hM := h.kept hK
  have hEg : E < w.heap.size := h.sub E h.inE
  have hFg : ∀ k, F k → k < w.heap.size := h.sub
  have hFE : F E := h.inE
  have hFC : F C := h.inC
  clear h
  generalize hg : w.heap.size = g at *
  have cr := hM.reg b.toNat (by omega)
  have ca := hM.reg a.toNat (by omega)
  have c2 : w1.cell? ⟨g, 2, none⟩ = some (.int .i64 a) := hI.cell 2 _ rfl
  have c3 : w1.cell? ⟨g, 3, none⟩ = some (.int .i64 b) := hI.cell 3 _ rfl
  have c5 : w1.cell? ⟨g, 5, none⟩ = some (.int .i64 i) := hI.cell 5 _ rfl
  replace hI := Lib.hid hI
  replace hK := Lib.hid hK
  replace hM := Lib.hid hM
  refine WS.start 12 (by kernel_rfl) (by kernel_rfl) ?_
  intro w2 hw2
  have q1 : w2.cell? ⟨E, 1 + b.toNat, none⟩ = some (.int .u32 (x.s.r b.toNat)) := by rw [hw2]; exact cr
  have q2 : w2.cell? ⟨E, 1 + a.toNat, none⟩ = some (.int .u32 (x.s.r a.toNat)) := by rw [hw2]; exact ca
  have q3 : w2.cell? ⟨g, 2, none⟩ = some (.int .i64 a) := by rw [hw2]; exact c2
  have q4 : w2.cell? ⟨g, 3, none⟩ = some (.int .i64 b) := by rw [hw2]; exact c3
  have q5 : w2.cell? ⟨g, 5, none⟩ = some (.int .i64 i) := by rw [hw2]; exact c5
  have hI2 := Lib.hid (show Has g #[.int .i64 5, .int .i64 1, .int .i64 a, .int .i64 b, .int .i64 c, .int .i64 i, .bool u] 57 w2 by rw [hw2]; exact hI.out)
  have hK2 := Lib.hid (show Kept w w2 by rw [hw2]; exact hK.out.drew)
  have hM2 := Lib.hid (show RMacAt F E x D C ai ni ci ao no co w2 by rw [hw2]; exact hM.out.kept (Kept.refl w1).drew)
  clear hw2 cr ca c2 c3 c5 hI hK hM
  generalize x.s.r b.toNat = vb at *
  generalize x.s.r a.toNat = va at *
  have hyw : IntKind.u32.wrap (vb + IntKind.u32.wrap i) = y := by rw [IntKind.wrap_u32, IntKind.wrap_u32]; exact hy
  simp only [List.take_succ_cons, List.take_zero, List.drop_succ_cons, List.drop_zero]
  iterate 12 (refine WS.step rfl (fun K hK => ?_); go_simp; refine hK _ ?_; clear hK K)
  refine WS.nil ?_
  try simp only [hyw]
  go_upto_region 2 with (fail)
  refine WS.start 8 (by kernel_rfl) (by kernel_rfl) ?_
  intro w3 hw3
  have r2 : w3.cell? ⟨E, 1 + a.toNat, none⟩ = some (.int .u32 va) := by rw [hw3]; exact q2
  have r3 : w3.cell? ⟨g, 2, none⟩ = some (.int .i64 a) := by rw [hw3]; exact q3
  have hI3 := Lib.hid (show Has g #[.int .i64 5, .int .i64 1, .int .i64 a, .int .i64 b, .int .i64 c, .int .i64 i, .bool u] 57 w3 by rw [hw3]; exact hI2.out)
  have hK3 := Lib.hid (show Kept w w3 by rw [hw3]; exact hK2.out.drew)
  have hM3 := Lib.hid (show RMacAt F E x D C ai ni ci ao no co w3 by rw [hw3]; exact hM2.out.kept (Kept.refl w2).drew)
  have r1 : w3.cell? ⟨g, 1, none⟩ = some (.int .i64 1) := hI3.out.cell 1 _ rfl
  clear hw3 q1 q2 q3 q4 q5 hI2 hK2 hM2
  simp only [List.take_succ_cons, List.take_zero, List.drop_succ_cons, List.drop_zero]
  iterate 8 (refine WS.step rfl (fun K hK => ?_); go_simp; refine hK _ ?_; clear hK K)
  refine WS.nil ?_
  have cM : w3.cell? ⟨E, 0, none⟩ = some (.pointer (some ⟨D, 0, none⟩)) := hM3.out.box.cell 0 _ rfl
  have v1 : v < 4294967296 := by omega
  have hv : IntKind.u32.wrap v = v := by rw [IntKind.wrap_u32]; omega
  go_wp2_with (fail)
  refine (L _ hM3.out).mono ?_; rintro e w4 ⟨rfl, rfl⟩
  have hM4 := hM3
  have hK4' := Lib.hid (hK3.out.but E)
  have hI4 := hI3
  clear hM3 hK3 hI3 L r1 r2 r3 cM
  go_upto_region 19 with (fail)
  have t1 : w3.cell? ⟨g, 2, none⟩ = some (.int .i64 a) := hI4.out.cell 2 _ rfl
  have t2 := hM4.out.reg a.toNat (by omega)
  have t3 := hM4.out.box.free (1 + a.toNat)
  refine WS.start 9 (by kernel_rfl) (by kernel_rfl) ?_
  intro wy hwy
  have u1 : wy.cell? ⟨g, 2, none⟩ = some (.int .i64 a) := by rw [hwy]; exact t1
  have u2 : ∃ z, wy.cell? ⟨E, 1 + a.toNat, none⟩ = some (.int .u32 z) := ⟨_, by rw [hwy]; exact t2⟩
  have u3 : wy.frozen? ⟨E, 1 + a.toNat, none⟩ = false := by rw [hwy]; exact t3
  have hMy := hM4.out.kept (Kept.refl w3).drew
  rw [show w3.drew = wy from hwy.symm] at hMy
  have hKy := hK4'.out.drew
  rw [show w3.drew = wy from hwy.symm] at hKy
  obtain ⟨z, u2⟩ := u2
  clear hwy t1 t2 t3 hM4 hK4' hI4
  replace hMy := Lib.hid hMy
  replace hKy := Lib.hid hKy
  simp only [List.take_succ_cons, List.take_zero, List.drop_succ_cons, List.drop_zero]
  iterate 9 (refine WS.step rfl (fun K hK => ?_); go_simp; refine hK _ ?_; clear hK K)
  refine WS.nil ?_
  have hb := hMy.out.box.set (1 + a.toNat) (.int .u32 v)
  rw [X.rc_set _ _ _ _ _ _ a.toNat (by omega)] at hb
  have hB := (But.refl E wy).setCell (1 + a.toNat) (.int .u32 v)
  replace hb := Lib.hid hb
  replace hB := Lib.hid hB
  go_upto_region 20 with (fail)
  generalize wy.setCell _ _ = wx at *
  clear u1 u2 u3
  go_wp2_with (with_reducible refine wpList_load_mid (op := ⟨some 112, _, _, _, _, _⟩) rfl 26 _ rfl _ _ rfl (A.cells (A.set x.s a.toNat v)).toList _ (X.rc_range hb.out) Tryz.underlying26 rfl (by rw [Array.length_toList]; exact A.info25 _) ?_)
  refine (rshow_any _ v v0 v1 _).mono ?_; rintro e wv ⟨rfl, hKv⟩
  have hbv := hb.out.kept hKv
  have hth := hbv.there 1 21 (by rw [X.rc_size]; omega)
  have hb3 := Has.setN (A.cells (A.show' (A.set x.s a.toNat v) v)).toList 1 _ wv hbv
  rw [X.rc_regs] at hb3
  have hB3 : But E wv (wv.setCells E 1 (A.cells (A.show' (A.set x.s a.toNat v) v)).toList) := but_setCells _ _ _ _ (But.refl E wv)
  have hBB := (hB.out.trans (hKv.but E)).trans hB3
  have hMf := Lib.hid (hMy.out.own hBB _ _ _ hb3 (A.ok_show _ _ (A.ok_set _ _ _ hMy.out.ok v0 v1)) hMy.out.pc0 hMy.out.pc1)
  have hBf := Lib.hid (hKy.out.trans hBB)
  clear hb3 hB3 hBB hb hB hbv hKv hMy hKy
  go_wp2_with (with_reducible refine wpList_store_mid rfl 26 _ _ rfl _ _ (A.cells (A.show' (A.set x.s a.toNat v) v)) rfl rfl hth (A.info25 _) (A.one_cells _) ?_; generalize World.setCells _ _ _ _ = wu at *)
  go_ret
  exact ⟨rfl, hBf.out, _, _, _, hMf.out⟩
set_option maxHeartbeats 2000000 in
theorem rmove_1t {F : Nat → Prop} {E : Nat} {x : X.St} {D C : Nat} {ai : Option Addr} {ni ci : Nat} {ao : Option Addr} {no co : Nat} {w : World} (h : RMacAt F E x D C ai ni ci ao no co w) (a b c i y v t : Int) (u : Bool) (a0 : 0 ≤ a) (a1 : a < 16) (b0 : 0 ≤ b) (b1 : b < 16)
    (y0 : 0 ≤ y) (y1 : y < 4294967296) (hy : (x.s.r b.toNat + i % 4294967296) % 4294967296 = y) (ht : ¬ t = 0)
    (L : ∀ w, RMacAt F E x D C ai ni ci ao no co w → Calls Tryz.prog 50 #[.pointer (some ⟨D, 0, none⟩), .int .u32 y] w fun e w' => e = .returned (.tuple #[.int .u8 v, .int .i64 t]) ∧ w = w') :
    Calls Tryz.prog 31 #[.pointer (some ⟨E, 0, none⟩), .agg #[.int .i64 5, .int .i64 1, .int .i64 a, .int .i64 b, .int .i64 c, .int .i64 i, .bool u]] w fun e w' => e = .returned (.int .i64 t) ∧ Kept w w' := by
  have rb := h.ok.1 b.toNat (by omega)
  have ra := h.ok.1 a.toNat (by omega)
  go_enter Tryz.func31, Tryz.ntmps31
  go_upto_region 1 with (fail)
  generalize hw1 : w.alloc (Obj.cells _ _) = w1
  have hI : Has w.heap.size #[.int .i64 5, .int .i64 1, .int .i64 a, .int .i64 b, .int .i64 c, .int .i64 i, .bool u] 57 w1 := by rw [← hw1]; exact Has.new _ _ _
  have hK : Kept w w1 := by rw [← hw1]; exact (Kept.refl w).alloc _ _
  clear hw1
  have hM := h.kept hK
  have hEg : E < w.heap.size := h.sub E h.inE
  have hFg : ∀ k, F k → k < w.heap.size := h.sub
  have hFE : F E := h.inE
  have hFC : F C := h.inC
  clear h
  generalize hg : w.heap.size = g at *
  have cr := hM.reg b.toNat (by omega)
  have ca := hM.reg a.toNat (by omega)
  have c2 : w1.cell? ⟨g, 2, none⟩ = some (.int .i64 a) := hI.cell 2 _ rfl
  have c3 : w1.cell? ⟨g, 3, none⟩ = some (.int .i64 b) := hI.cell 3 _ rfl
  have c5 : w1.cell? ⟨g, 5, none⟩ = some (.int .i64 i) := hI.cell 5 _ rfl
  replace hI := Lib.hid hI
  replace hK := Lib.hid hK
  replace hM := Lib.hid hM
  refine WS.start 12 (by kernel_rfl) (by kernel_rfl) ?_
  intro w2 hw2
  have q1 : w2.cell? ⟨E, 1 + b.toNat, none⟩ = some (.int .u32 (x.s.r b.toNat)) := by rw [hw2]; exact cr
  have q2 : w2.cell? ⟨E, 1 + a.toNat, none⟩ = some (.int .u32 (x.s.r a.toNat)) := by rw [hw2]; exact ca
  have q3 : w2.cell? ⟨g, 2, none⟩ = some (.int .i64 a) := by rw [hw2]; exact c2
  have q4 : w2.cell? ⟨g, 3, none⟩ = some (.int .i64 b) := by rw [hw2]; exact c3
  have q5 : w2.cell? ⟨g, 5, none⟩ = some (.int .i64 i) := by rw [hw2]; exact c5
  have hI2 := Lib.hid (show Has g #[.int .i64 5, .int .i64 1, .int .i64 a, .int .i64 b, .int .i64 c, .int .i64 i, .bool u] 57 w2 by rw [hw2]; exact hI.out)
  have hK2 := Lib.hid (show Kept w w2 by rw [hw2]; exact hK.out.drew)
  have hM2 := Lib.hid (show RMacAt F E x D C ai ni ci ao no co w2 by rw [hw2]; exact hM.out.kept (Kept.refl w1).drew)
  clear hw2 cr ca c2 c3 c5 hI hK hM
  generalize x.s.r b.toNat = vb at *
  generalize x.s.r a.toNat = va at *
  have hyw : IntKind.u32.wrap (vb + IntKind.u32.wrap i) = y := by rw [IntKind.wrap_u32, IntKind.wrap_u32]; exact hy
  simp only [List.take_succ_cons, List.take_zero, List.drop_succ_cons, List.drop_zero]
  iterate 12 (refine WS.step rfl (fun K hK => ?_); go_simp; refine hK _ ?_; clear hK K)
  refine WS.nil ?_
  try simp only [hyw]
  go_upto_region 2 with (fail)
  refine WS.start 8 (by kernel_rfl) (by kernel_rfl) ?_
  intro w3 hw3
  have r2 : w3.cell? ⟨E, 1 + a.toNat, none⟩ = some (.int .u32 va) := by rw [hw3]; exact q2
  have r3 : w3.cell? ⟨g, 2, none⟩ = some (.int .i64 a) := by rw [hw3]; exact q3
  have hI3 := Lib.hid (show Has g #[.int .i64 5, .int .i64 1, .int .i64 a, .int .i64 b, .int .i64 c, .int .i64 i, .bool u] 57 w3 by rw [hw3]; exact hI2.out)
  have hK3 := Lib.hid (show Kept w w3 by rw [hw3]; exact hK2.out.drew)
  have hM3 := Lib.hid (show RMacAt F E x D C ai ni ci ao no co w3 by rw [hw3]; exact hM2.out.kept (Kept.refl w2).drew)
  have r1 : w3.cell? ⟨g, 1, none⟩ = some (.int .i64 1) := hI3.out.cell 1 _ rfl
  clear hw3 q1 q2 q3 q4 q5 hI2 hK2 hM2
  simp only [List.take_succ_cons, List.take_zero, List.drop_succ_cons, List.drop_zero]
  iterate 8 (refine WS.step rfl (fun K hK => ?_); go_simp; refine hK _ ?_; clear hK K)
  refine WS.nil ?_
  have cM : w3.cell? ⟨E, 0, none⟩ = some (.pointer (some ⟨D, 0, none⟩)) := hM3.out.box.cell 0 _ rfl
  have ht' : (t == 0) = false := by simpa using ht
  go_wp2_with (fail)
  refine (L _ hM3.out).mono ?_; rintro e w4 ⟨rfl, rfl⟩
  clear hM3 hI3 L r1 r2 r3 cM
  go_wp2
  go_ret
  exact ⟨rfl, hK3.out⟩
set_option maxHeartbeats 2000000 in
theorem rmove_3 {F : Nat → Prop} {E : Nat} {x : X.St} {D C : Nat} {ai : Option Addr} {ni ci : Nat} {ao : Option Addr} {no co : Nat} {w : World} (h : RMacAt F E x D C ai ni ci ao no co w) (a b c i y t z : Int) (u : Bool) (a0 : 0 ≤ a) (a1 : a < 16) (b0 : 0 ≤ b) (b1 : b < 16)
    (y0 : 0 ≤ y) (y1 : y < 4294967296) (hy : (x.s.r b.toNat + i % 4294967296) % 4294967296 = y) (hz : x.s.r a.toNat % 256 = z) (W' : List Int)
    (L : ∀ w, RMacAt F E x D C ai ni ci ao no co w → Calls Tryz.prog 51 #[.pointer (some ⟨D, 0, none⟩), .int .u32 y, .int .u8 z] w fun e w' => e = .returned (.int .i64 t) ∧ But C w w' ∧ RMacAt F E ⟨W', x.s, x.pc, x.st, x.ins, x.outs⟩ D C ai ni ci ao no co w') :
    Calls Tryz.prog 31 #[.pointer (some ⟨E, 0, none⟩), .agg #[.int .i64 5, .int .i64 3, .int .i64 a, .int .i64 b, .int .i64 c, .int .i64 i, .bool u]] w fun e w' => e = .returned (.int .i64 t) ∧ But C w w' ∧ RMacAt F E ⟨W', x.s, x.pc, x.st, x.ins, x.outs⟩ D C ai ni ci ao no co w' := by
  have rb := h.ok.1 b.toNat (by omega)
  have ra := h.ok.1 a.toNat (by omega)
  go_enter Tryz.func31, Tryz.ntmps31
  go_upto_region 1 with (fail)
  generalize hw1 : w.alloc (Obj.cells _ _) = w1
  have hI : Has w.heap.size #[.int .i64 5, .int .i64 3, .int .i64 a, .int .i64 b, .int .i64 c, .int .i64 i, .bool u] 57 w1 := by rw [← hw1]; exact Has.new _ _ _
  have hK : Kept w w1 := by rw [← hw1]; exact (Kept.refl w).alloc _ _
  clear hw1
  have hM := h.kept hK
  have hEg : E < w.heap.size := h.sub E h.inE
  have hFg : ∀ k, F k → k < w.heap.size := h.sub
  have hFE : F E := h.inE
  have hFC : F C := h.inC
  clear h
  generalize hg : w.heap.size = g at *
  have cr := hM.reg b.toNat (by omega)
  have ca := hM.reg a.toNat (by omega)
  have c2 : w1.cell? ⟨g, 2, none⟩ = some (.int .i64 a) := hI.cell 2 _ rfl
  have c3 : w1.cell? ⟨g, 3, none⟩ = some (.int .i64 b) := hI.cell 3 _ rfl
  have c5 : w1.cell? ⟨g, 5, none⟩ = some (.int .i64 i) := hI.cell 5 _ rfl
  replace hI := Lib.hid hI
  replace hK := Lib.hid hK
  replace hM := Lib.hid hM
  refine WS.start 12 (by kernel_rfl) (by kernel_rfl) ?_
  intro w2 hw2
  have q1 : w2.cell? ⟨E, 1 + b.toNat, none⟩ = some (.int .u32 (x.s.r b.toNat)) := by rw [hw2]; exact cr
  have q2 : w2.cell? ⟨E, 1 + a.toNat, none⟩ = some (.int .u32 (x.s.r a.toNat)) := by rw [hw2]; exact ca
  have q3 : w2.cell? ⟨g, 2, none⟩ = some (.int .i64 a) := by rw [hw2]; exact c2
  have q4 : w2.cell? ⟨g, 3, none⟩ = some (.int .i64 b) := by rw [hw2]; exact c3
  have q5 : w2.cell? ⟨g, 5, none⟩ = some (.int .i64 i) := by rw [hw2]; exact c5
  have hI2 := Lib.hid (show Has g #[.int .i64 5, .int .i64 3, .int .i64 a, .int .i64 b, .int .i64 c, .int .i64 i, .bool u] 57 w2 by rw [hw2]; exact hI.out)
  have hK2 := Lib.hid (show Kept w w2 by rw [hw2]; exact hK.out.drew)
  have hM2 := Lib.hid (show RMacAt F E x D C ai ni ci ao no co w2 by rw [hw2]; exact hM.out.kept (Kept.refl w1).drew)
  clear hw2 cr ca c2 c3 c5 hI hK hM
  generalize x.s.r b.toNat = vb at *
  generalize x.s.r a.toNat = va at *
  have hyw : IntKind.u32.wrap (vb + IntKind.u32.wrap i) = y := by rw [IntKind.wrap_u32, IntKind.wrap_u32]; exact hy
  simp only [List.take_succ_cons, List.take_zero, List.drop_succ_cons, List.drop_zero]
  iterate 12 (refine WS.step rfl (fun K hK => ?_); go_simp; refine hK _ ?_; clear hK K)
  refine WS.nil ?_
  try simp only [hyw]
  go_upto_region 2 with (fail)
  refine WS.start 8 (by kernel_rfl) (by kernel_rfl) ?_
  intro w3 hw3
  have r2 : w3.cell? ⟨E, 1 + a.toNat, none⟩ = some (.int .u32 va) := by rw [hw3]; exact q2
  have r3 : w3.cell? ⟨g, 2, none⟩ = some (.int .i64 a) := by rw [hw3]; exact q3
  have hI3 := Lib.hid (show Has g #[.int .i64 5, .int .i64 3, .int .i64 a, .int .i64 b, .int .i64 c, .int .i64 i, .bool u] 57 w3 by rw [hw3]; exact hI2.out)
  have hK3 := Lib.hid (show Kept w w3 by rw [hw3]; exact hK2.out.drew)
  have hM3 := Lib.hid (show RMacAt F E x D C ai ni ci ao no co w3 by rw [hw3]; exact hM2.out.kept (Kept.refl w2).drew)
  have r1 : w3.cell? ⟨g, 1, none⟩ = some (.int .i64 3) := hI3.out.cell 1 _ rfl
  clear hw3 q1 q2 q3 q4 q5 hI2 hK2 hM2
  simp only [List.take_succ_cons, List.take_zero, List.drop_succ_cons, List.drop_zero]
  iterate 8 (refine WS.step rfl (fun K hK => ?_); go_simp; refine hK _ ?_; clear hK K)
  refine WS.nil ?_
  have cM : w3.cell? ⟨E, 0, none⟩ = some (.pointer (some ⟨D, 0, none⟩)) := hM3.out.box.cell 0 _ rfl
  have hzw : IntKind.u8.wrap z = z := by rw [show IntKind.u8.wrap z = z % 256 by simp [IntKind.wrap, IntKind.bits, IntKind.signed]]; omega
  go_wp2_with (fail)
  rw [hz]
  refine (L _ hM3.out).mono ?_; rintro e w4 ⟨rfl, hB4, hM4⟩
  have hBf := Lib.hid ((hK3.out.but C).trans hB4)
  replace hM4 := Lib.hid hM4
  clear hM3 hK3 hI3 L r1 r2 r3 cM hB4
  go_wp2
  go_ret
  exact ⟨rfl, hBf.out, hM4.out⟩
set_option maxHeartbeats 2000000 in
theorem rmove_2 {F : Nat → Prop} {E : Nat} {x : X.St} {D C : Nat} {ai : Option Addr} {ni ci : Nat} {ao : Option Addr} {no co : Nat} {w : World} (h : RMacAt F E x D C ai ni ci ao no co w) (a b c i y t z : Int) (u : Bool) (a0 : 0 ≤ a) (a1 : a < 16) (b0 : 0 ≤ b) (b1 : b < 16)
    (y0 : 0 ≤ y) (y1 : y < 4294967296) (hy : (x.s.r b.toNat + i % 4294967296) % 4294967296 = y) (hz : x.s.r a.toNat = z) (h1 : ¬ y = 4294967236) (h2 : ¬ y = 4294967240) (W' : List Int)
    (L : ∀ w, RMacAt F E x D C ai ni ci ao no co w → Calls Tryz.prog 52 #[.pointer (some ⟨D, 0, none⟩), .int .u32 y, .int .u32 z] w fun e w' => e = .returned (.int .i64 t) ∧ But C w w' ∧ RMacAt F E ⟨W', x.s, x.pc, x.st, x.ins, x.outs⟩ D C ai ni ci ao no co w') :
    Calls Tryz.prog 31 #[.pointer (some ⟨E, 0, none⟩), .agg #[.int .i64 5, .int .i64 2, .int .i64 a, .int .i64 b, .int .i64 c, .int .i64 i, .bool u]] w fun e w' => e = .returned (.int .i64 t) ∧ But C w w' ∧ RMacAt F E ⟨W', x.s, x.pc, x.st, x.ins, x.outs⟩ D C ai ni ci ao no co w' := by
  have rb := h.ok.1 b.toNat (by omega)
  have ra := h.ok.1 a.toNat (by omega)
  go_enter Tryz.func31, Tryz.ntmps31
  go_upto_region 1 with (fail)
  generalize hw1 : w.alloc (Obj.cells _ _) = w1
  have hI : Has w.heap.size #[.int .i64 5, .int .i64 2, .int .i64 a, .int .i64 b, .int .i64 c, .int .i64 i, .bool u] 57 w1 := by rw [← hw1]; exact Has.new _ _ _
  have hK : Kept w w1 := by rw [← hw1]; exact (Kept.refl w).alloc _ _
  clear hw1
  have hM := h.kept hK
  have hEg : E < w.heap.size := h.sub E h.inE
  have hFg : ∀ k, F k → k < w.heap.size := h.sub
  have hFE : F E := h.inE
  have hFC : F C := h.inC
  clear h
  generalize hg : w.heap.size = g at *
  have cr := hM.reg b.toNat (by omega)
  have ca := hM.reg a.toNat (by omega)
  have c2 : w1.cell? ⟨g, 2, none⟩ = some (.int .i64 a) := hI.cell 2 _ rfl
  have c3 : w1.cell? ⟨g, 3, none⟩ = some (.int .i64 b) := hI.cell 3 _ rfl
  have c5 : w1.cell? ⟨g, 5, none⟩ = some (.int .i64 i) := hI.cell 5 _ rfl
  replace hI := Lib.hid hI
  replace hK := Lib.hid hK
  replace hM := Lib.hid hM
  refine WS.start 12 (by kernel_rfl) (by kernel_rfl) ?_
  intro w2 hw2
  have q1 : w2.cell? ⟨E, 1 + b.toNat, none⟩ = some (.int .u32 (x.s.r b.toNat)) := by rw [hw2]; exact cr
  have q2 : w2.cell? ⟨E, 1 + a.toNat, none⟩ = some (.int .u32 (x.s.r a.toNat)) := by rw [hw2]; exact ca
  have q3 : w2.cell? ⟨g, 2, none⟩ = some (.int .i64 a) := by rw [hw2]; exact c2
  have q4 : w2.cell? ⟨g, 3, none⟩ = some (.int .i64 b) := by rw [hw2]; exact c3
  have q5 : w2.cell? ⟨g, 5, none⟩ = some (.int .i64 i) := by rw [hw2]; exact c5
  have hI2 := Lib.hid (show Has g #[.int .i64 5, .int .i64 2, .int .i64 a, .int .i64 b, .int .i64 c, .int .i64 i, .bool u] 57 w2 by rw [hw2]; exact hI.out)
  have hK2 := Lib.hid (show Kept w w2 by rw [hw2]; exact hK.out.drew)
  have hM2 := Lib.hid (show RMacAt F E x D C ai ni ci ao no co w2 by rw [hw2]; exact hM.out.kept (Kept.refl w1).drew)
  clear hw2 cr ca c2 c3 c5 hI hK hM
  generalize x.s.r b.toNat = vb at *
  generalize x.s.r a.toNat = va at *
  have hyw : IntKind.u32.wrap (vb + IntKind.u32.wrap i) = y := by rw [IntKind.wrap_u32, IntKind.wrap_u32]; exact hy
  simp only [List.take_succ_cons, List.take_zero, List.drop_succ_cons, List.drop_zero]
  iterate 12 (refine WS.step rfl (fun K hK => ?_); go_simp; refine hK _ ?_; clear hK K)
  refine WS.nil ?_
  try simp only [hyw]
  go_upto_region 2 with (fail)
  refine WS.start 8 (by kernel_rfl) (by kernel_rfl) ?_
  intro w3 hw3
  have r2 : w3.cell? ⟨E, 1 + a.toNat, none⟩ = some (.int .u32 va) := by rw [hw3]; exact q2
  have r3 : w3.cell? ⟨g, 2, none⟩ = some (.int .i64 a) := by rw [hw3]; exact q3
  have hI3 := Lib.hid (show Has g #[.int .i64 5, .int .i64 2, .int .i64 a, .int .i64 b, .int .i64 c, .int .i64 i, .bool u] 57 w3 by rw [hw3]; exact hI2.out)
  have hK3 := Lib.hid (show Kept w w3 by rw [hw3]; exact hK2.out.drew)
  have hM3 := Lib.hid (show RMacAt F E x D C ai ni ci ao no co w3 by rw [hw3]; exact hM2.out.kept (Kept.refl w2).drew)
  have r1 : w3.cell? ⟨g, 1, none⟩ = some (.int .i64 2) := hI3.out.cell 1 _ rfl
  clear hw3 q1 q2 q3 q4 q5 hI2 hK2 hM2
  simp only [List.take_succ_cons, List.take_zero, List.drop_succ_cons, List.drop_zero]
  iterate 8 (refine WS.step rfl (fun K hK => ?_); go_simp; refine hK _ ?_; clear hK K)
  refine WS.nil ?_
  have cM : w3.cell? ⟨E, 0, none⟩ = some (.pointer (some ⟨D, 0, none⟩)) := hM3.out.box.cell 0 _ rfl
  have h1' : (y == 4294967236) = false := by simpa using h1
  have h2' : (y == 4294967240) = false := by simpa using h2
  go_wp2_with (fail)
  try rw [hz]
  refine (L _ hM3.out).mono ?_; rintro e w4 ⟨rfl, hB4, hM4⟩
  have hBf := Lib.hid ((hK3.out.but C).trans hB4)
  replace hM4 := Lib.hid hM4
  clear hM3 hK3 hI3 L r1 r2 r3 cM hB4
  go_wp2
  go_ret
  exact ⟨rfl, hBf.out, hM4.out⟩
set_option maxHeartbeats 2000000 in
theorem rmove_2h {F : Nat → Prop} {E : Nat} {x : X.St} {D C : Nat} {ai : Option Addr} {ni ci : Nat} {ao : Option Addr} {no co : Nat} {w : World} (h : RMacAt F E x D C ai ni ci ao no co w) (a b c i y z : Int) (u : Bool) (a0 : 0 ≤ a) (a1 : a < 16) (b0 : 0 ≤ b) (b1 : b < 16)
    (y0 : 0 ≤ y) (y1 : y < 4294967296) (hy : (x.s.r b.toNat + i % 4294967296) % 4294967296 = y) (h2 : y = 4294967240) :
    Calls Tryz.prog 31 #[.pointer (some ⟨E, 0, none⟩), .agg #[.int .i64 5, .int .i64 2, .int .i64 a, .int .i64 b, .int .i64 c, .int .i64 i, .bool u]] w fun e w' => e = .returned (.int .i64 1) ∧ Kept w w' := by
  have rb := h.ok.1 b.toNat (by omega)
  have ra := h.ok.1 a.toNat (by omega)
  go_enter Tryz.func31, Tryz.ntmps31
  go_upto_region 1 with (fail)
  generalize hw1 : w.alloc (Obj.cells _ _) = w1
  have hI : Has w.heap.size #[.int .i64 5, .int .i64 2, .int .i64 a, .int .i64 b, .int .i64 c, .int .i64 i, .bool u] 57 w1 := by rw [← hw1]; exact Has.new _ _ _
  have hK : Kept w w1 := by rw [← hw1]; exact (Kept.refl w).alloc _ _
  clear hw1
  have hM := h.kept hK
  have hEg : E < w.heap.size := h.sub E h.inE
  have hFg : ∀ k, F k → k < w.heap.size := h.sub
  have hFE : F E := h.inE
  have hFC : F C := h.inC
  clear h
  generalize hg : w.heap.size = g at *
  have cr := hM.reg b.toNat (by omega)
  have ca := hM.reg a.toNat (by omega)
  have c2 : w1.cell? ⟨g, 2, none⟩ = some (.int .i64 a) := hI.cell 2 _ rfl
  have c3 : w1.cell? ⟨g, 3, none⟩ = some (.int .i64 b) := hI.cell 3 _ rfl
  have c5 : w1.cell? ⟨g, 5, none⟩ = some (.int .i64 i) := hI.cell 5 _ rfl
  replace hI := Lib.hid hI
  replace hK := Lib.hid hK
  replace hM := Lib.hid hM
  refine WS.start 12 (by kernel_rfl) (by kernel_rfl) ?_
  intro w2 hw2
  have q1 : w2.cell? ⟨E, 1 + b.toNat, none⟩ = some (.int .u32 (x.s.r b.toNat)) := by rw [hw2]; exact cr
  have q2 : w2.cell? ⟨E, 1 + a.toNat, none⟩ = some (.int .u32 (x.s.r a.toNat)) := by rw [hw2]; exact ca
  have q3 : w2.cell? ⟨g, 2, none⟩ = some (.int .i64 a) := by rw [hw2]; exact c2
  have q4 : w2.cell? ⟨g, 3, none⟩ = some (.int .i64 b) := by rw [hw2]; exact c3
  have q5 : w2.cell? ⟨g, 5, none⟩ = some (.int .i64 i) := by rw [hw2]; exact c5
  have hI2 := Lib.hid (show Has g #[.int .i64 5, .int .i64 2, .int .i64 a, .int .i64 b, .int .i64 c, .int .i64 i, .bool u] 57 w2 by rw [hw2]; exact hI.out)
  have hK2 := Lib.hid (show Kept w w2 by rw [hw2]; exact hK.out.drew)
  have hM2 := Lib.hid (show RMacAt F E x D C ai ni ci ao no co w2 by rw [hw2]; exact hM.out.kept (Kept.refl w1).drew)
  clear hw2 cr ca c2 c3 c5 hI hK hM
  generalize x.s.r b.toNat = vb at *
  generalize x.s.r a.toNat = va at *
  have hyw : IntKind.u32.wrap (vb + IntKind.u32.wrap i) = y := by rw [IntKind.wrap_u32, IntKind.wrap_u32]; exact hy
  simp only [List.take_succ_cons, List.take_zero, List.drop_succ_cons, List.drop_zero]
  iterate 12 (refine WS.step rfl (fun K hK => ?_); go_simp; refine hK _ ?_; clear hK K)
  refine WS.nil ?_
  try simp only [hyw]
  go_upto_region 2 with (fail)
  refine WS.start 8 (by kernel_rfl) (by kernel_rfl) ?_
  intro w3 hw3
  have r2 : w3.cell? ⟨E, 1 + a.toNat, none⟩ = some (.int .u32 va) := by rw [hw3]; exact q2
  have r3 : w3.cell? ⟨g, 2, none⟩ = some (.int .i64 a) := by rw [hw3]; exact q3
  have hI3 := Lib.hid (show Has g #[.int .i64 5, .int .i64 2, .int .i64 a, .int .i64 b, .int .i64 c, .int .i64 i, .bool u] 57 w3 by rw [hw3]; exact hI2.out)
  have hK3 := Lib.hid (show Kept w w3 by rw [hw3]; exact hK2.out.drew)
  have hM3 := Lib.hid (show RMacAt F E x D C ai ni ci ao no co w3 by rw [hw3]; exact hM2.out.kept (Kept.refl w2).drew)
  have r1 : w3.cell? ⟨g, 1, none⟩ = some (.int .i64 2) := hI3.out.cell 1 _ rfl
  clear hw3 q1 q2 q3 q4 q5 hI2 hK2 hM2
  simp only [List.take_succ_cons, List.take_zero, List.drop_succ_cons, List.drop_zero]
  iterate 8 (refine WS.step rfl (fun K hK => ?_); go_simp; refine hK _ ?_; clear hK K)
  refine WS.nil ?_
  have cM : w3.cell? ⟨E, 0, none⟩ = some (.pointer (some ⟨D, 0, none⟩)) := hM3.out.box.cell 0 _ rfl
  subst h2
  clear hM3 hI3 r2 r3 cM
  go_wp2
  go_ret
  exact ⟨rfl, hK3.out⟩
set_option maxHeartbeats 2000000 in
theorem rmove_2o {F : Nat → Prop} {E : Nat} {x : X.St} {D C : Nat} {ai : Option Addr} {ni ci : Nat} {ao : Option Addr} {no co : Nat} {w : World} (h : RMacAt F E x D C ai ni ci ao no co w) (a b c i y z : Int) (u : Bool) (a0 : 0 ≤ a) (a1 : a < 16) (b0 : 0 ≤ b) (b1 : b < 16)
    (y0 : 0 ≤ y) (y1 : y < 4294967296) (hy : (x.s.r b.toNat + i % 4294967296) % 4294967296 = y) (hz : x.s.r a.toNat = z) (z0 : 0 ≤ z) (z1 : z < 4294967296) (h1 : y = 4294967236) (hn : x.outs.length < 1000000) :
    Calls Tryz.prog 31 #[.pointer (some ⟨E, 0, none⟩), .agg #[.int .i64 5, .int .i64 2, .int .i64 a, .int .i64 b, .int .i64 c, .int .i64 i, .bool u]] w fun e w' => e = .returned (.int .i64 0) ∧ ∃ F' ao' no' co', RMacAt F' E ⟨x.ws, x.s, x.pc, x.st, x.ins, x.outs ++ [z]⟩ D C ai ni ci ao' no' co' w' ∧ Turn F w w' ∧ ∀ k, F' k → F k ∨ w.heap.size ≤ k := by
  have rb := h.ok.1 b.toNat (by omega)
  have ra := h.ok.1 a.toNat (by omega)
  go_enter Tryz.func31, Tryz.ntmps31
  go_upto_region 1 with (fail)
  generalize hw1 : w.alloc (Obj.cells _ _) = w1
  have hI : Has w.heap.size #[.int .i64 5, .int .i64 2, .int .i64 a, .int .i64 b, .int .i64 c, .int .i64 i, .bool u] 57 w1 := by rw [← hw1]; exact Has.new _ _ _
  have hK : Kept w w1 := by rw [← hw1]; exact (Kept.refl w).alloc _ _
  clear hw1
  have hM := h.kept hK
  have hEg : E < w.heap.size := h.sub E h.inE
  have hFg : ∀ k, F k → k < w.heap.size := h.sub
  have hFE : F E := h.inE
  have hFC : F C := h.inC
  clear h
  generalize hg : w.heap.size = g at *
  have cr := hM.reg b.toNat (by omega)
  have ca := hM.reg a.toNat (by omega)
  have c2 : w1.cell? ⟨g, 2, none⟩ = some (.int .i64 a) := hI.cell 2 _ rfl
  have c3 : w1.cell? ⟨g, 3, none⟩ = some (.int .i64 b) := hI.cell 3 _ rfl
  have c5 : w1.cell? ⟨g, 5, none⟩ = some (.int .i64 i) := hI.cell 5 _ rfl
  replace hI := Lib.hid hI
  replace hK := Lib.hid hK
  replace hM := Lib.hid hM
  refine WS.start 12 (by kernel_rfl) (by kernel_rfl) ?_
  intro w2 hw2
  have q1 : w2.cell? ⟨E, 1 + b.toNat, none⟩ = some (.int .u32 (x.s.r b.toNat)) := by rw [hw2]; exact cr
  have q2 : w2.cell? ⟨E, 1 + a.toNat, none⟩ = some (.int .u32 (x.s.r a.toNat)) := by rw [hw2]; exact ca
  have q3 : w2.cell? ⟨g, 2, none⟩ = some (.int .i64 a) := by rw [hw2]; exact c2
  have q4 : w2.cell? ⟨g, 3, none⟩ = some (.int .i64 b) := by rw [hw2]; exact c3
  have q5 : w2.cell? ⟨g, 5, none⟩ = some (.int .i64 i) := by rw [hw2]; exact c5
  have hI2 := Lib.hid (show Has g #[.int .i64 5, .int .i64 2, .int .i64 a, .int .i64 b, .int .i64 c, .int .i64 i, .bool u] 57 w2 by rw [hw2]; exact hI.out)
  have hK2 := Lib.hid (show Kept w w2 by rw [hw2]; exact hK.out.drew)
  have hM2 := Lib.hid (show RMacAt F E x D C ai ni ci ao no co w2 by rw [hw2]; exact hM.out.kept (Kept.refl w1).drew)
  clear hw2 cr ca c2 c3 c5 hI hK hM
  generalize x.s.r b.toNat = vb at *
  generalize x.s.r a.toNat = va at *
  have hyw : IntKind.u32.wrap (vb + IntKind.u32.wrap i) = y := by rw [IntKind.wrap_u32, IntKind.wrap_u32]; exact hy
  simp only [List.take_succ_cons, List.take_zero, List.drop_succ_cons, List.drop_zero]
  iterate 12 (refine WS.step rfl (fun K hK => ?_); go_simp; refine hK _ ?_; clear hK K)
  refine WS.nil ?_
  try simp only [hyw]
  go_upto_region 2 with (fail)
  refine WS.start 8 (by kernel_rfl) (by kernel_rfl) ?_
  intro w3 hw3
  have r2 : w3.cell? ⟨E, 1 + a.toNat, none⟩ = some (.int .u32 va) := by rw [hw3]; exact q2
  have r3 : w3.cell? ⟨g, 2, none⟩ = some (.int .i64 a) := by rw [hw3]; exact q3
  have hI3 := Lib.hid (show Has g #[.int .i64 5, .int .i64 2, .int .i64 a, .int .i64 b, .int .i64 c, .int .i64 i, .bool u] 57 w3 by rw [hw3]; exact hI2.out)
  have hK3 := Lib.hid (show Kept w w3 by rw [hw3]; exact hK2.out.drew)
  have hM3 := Lib.hid (show RMacAt F E x D C ai ni ci ao no co w3 by rw [hw3]; exact hM2.out.kept (Kept.refl w2).drew)
  have r1 : w3.cell? ⟨g, 1, none⟩ = some (.int .i64 2) := hI3.out.cell 1 _ rfl
  clear hw3 q1 q2 q3 q4 q5 hI2 hK2 hM2
  simp only [List.take_succ_cons, List.take_zero, List.drop_succ_cons, List.drop_zero]
  iterate 8 (refine WS.step rfl (fun K hK => ?_); go_simp; refine hK _ ?_; clear hK K)
  refine WS.nil ?_
  have cM : w3.cell? ⟨E, 0, none⟩ = some (.pointer (some ⟨D, 0, none⟩)) := hM3.out.box.cell 0 _ rfl
  subst h1
  subst hz
  go_upto_region 25 with (fail)
  have hc : w3.cell? ⟨E, 25, none⟩ = some (.slice ao no co) := hM3.out.box.cell 25 _ rfl
  have hfr := hM3.out.box.free 25
  have hA := Lib.hid ((Kept.refl w3).alloc #[Value.int .u32 va] 23)
  have hY := Lib.hid (Ws.sole (Has.new #[Value.int .u32 va] 23 w3) z0 z1)
  have hO := Lib.hid (hM3.out.out.to (w' := w3.alloc (.cells #[Value.int .u32 va] 23)) fun ad e => hA.out.below.block _ (hM3.out.sub _ (hM3.out.outF ad e).1))
  have hno := hM3.out.out.len
  have hsz3 : w.heap.size ≤ w3.heap.size := hK3.out.size
  go_wp2_with (with_reducible refine append_out (o := ⟨some 139, _, _, _, _, _⟩) rfl (.tmp 136) (.tmp 138) rfl ao no co x.outs rfl hO.out ⟨w3.heap.size, 0, none⟩ 1 1 [va] rfl hY.out (by omega) (by omega) ?_; intro A' cap' w5 hO5 hG5 hN5; have hD := hM3.out.outed hA.out hG5 hO5 hN5 z0 z1; have hc5 : w5.cell? ⟨E, 25, none⟩ = some (.slice ao no co) := hD.1.cell 25 _ rfl; have hf5 := hD.1.free 25; replace hD := Lib.hid hD.2; clear hc hfr hO hY hA hO5 hG5 hN5)
  go_ret
  obtain ⟨F', q1, q2, q3⟩ := hD.out
  exact ⟨rfl, F', A', _, cap', q1, (hK3.out.turn F).trans q2, fun k hk => by rcases q3 k hk with h1 | h1; exact Or.inl h1; exact Or.inr (by omega)⟩
end Go.Proofs.YtlmddkciamdldaaGreat

/-
  The contracts of the document's own answers for package word (rivetref01): each answers what package word answers.
-/
namespace Go.Proofs.YtlmddkciamdldaaGreat
open Go.RowKit
set_option linter.unusedVariables false
set_option linter.unusedSimpArgs false
set_option maxRecDepth 100000

set_option maxHeartbeats 400000 in
theorem rone_any (c : Bool) (w : World) :
    Calls Tryz.prog 68 #[.bool c] w fun e w' => e = .returned (.int .i64 (W.one c)) ∧ w = w' := by
  cases c
  all_goals
    go_enter Tryz.func68, Tryz.ntmps68
    go_wp2
    go_ret
    exact ret1 rfl
set_option maxHeartbeats 400000 in
theorem rout_any (x : Int) (w : World) :
    Calls Tryz.prog 69 #[.int .i64 x] w fun e w' => e = .returned (.bool (!W.inS x)) ∧ w = w' := by
  by_cases h : x < -2147483648
  · go_enter Tryz.func69, Tryz.ntmps69
    go_wp2
    go_ret
    exact ret1b (by simp [W.inS]; omega)
  · go_enter Tryz.func69, Tryz.ntmps69
    go_wp2
    go_ret
    exact ret1b (by rw [Bool.eq_iff_iff]; simp [W.inS]; omega)
set_option maxHeartbeats 400000 in
theorem rsigned_any (a : Int) (h0 : 0 ≤ a) (h1 : a < 4294967296) (w : World) :
    Calls Tryz.prog 70 #[.int .u32 a] w fun e w' => e = .returned (.int .i64 (W.sgn a)) ∧ w = w' := by
  by_cases h : a < 2147483648
  all_goals
    go_enter Tryz.func70, Tryz.ntmps70
    go_wp2
    go_ret
    exact ret1 (by unfold W.sgn; split <;> omega)
set_option maxHeartbeats 400000 in
theorem radd_any (a b : Int) (c : Bool) (h0 : 0 ≤ a) (h1 : a < 4294967296) (h2 : 0 ≤ b) (h3 : b < 4294967296) (w : World) :
    Calls Tryz.prog 55 #[.int .u32 a, .int .u32 b, .bool c] w fun e w' =>
      e = .returned (.tuple #[.int .u32 (W.low (a + b + W.one c)), .bool (W.over (a + b + W.one c)), .bool (!W.inS (W.sgn a + W.sgn b + W.one c))]) ∧ w = w' := by
  have o1 := W.one_lo c
  have o2 := W.one_hi c
  have s1 := W.sgn_lo a h0
  have s2 := W.sgn_hi a h1
  have s3 := W.sgn_lo b h2
  have s4 := W.sgn_hi b h3
  go_enter Tryz.func55, Tryz.ntmps55
  go_wp2_with (first
    | (go_at_call 68; refine (rone_any _ _).mono ?_; rintro e w' ⟨rfl, rfl⟩)
    | (go_at_call 70; refine (rsigned_any _ (by omega) (by omega) _).mono ?_; rintro e w' ⟨rfl, rfl⟩)
    | (go_at_call 69; refine (rout_any _ _).mono ?_; rintro e w' ⟨rfl, rfl⟩))
  go_ret3
  exact ret3 (by unfold W.low; omega) (by rw [Bool.eq_iff_iff]; simp [W.over]; omega) rfl
set_option maxHeartbeats 400000 in
theorem rsub_any (a b : Int) (c : Bool) (h0 : 0 ≤ a) (h1 : a < 4294967296) (h2 : 0 ≤ b) (h3 : b < 4294967296) (w : World) :
    Calls Tryz.prog 56 #[.int .u32 a, .int .u32 b, .bool c] w fun e w' =>
      e = .returned (.tuple #[.int .u32 (W.low (a - b - W.one c)), .bool (W.neg (a - b - W.one c)), .bool (!W.inS (W.sgn a - W.sgn b - W.one c))]) ∧ w = w' := by
  have o1 := W.one_lo c
  have o2 := W.one_hi c
  have s1 := W.sgn_lo a h0
  have s2 := W.sgn_hi a h1
  have s3 := W.sgn_lo b h2
  have s4 := W.sgn_hi b h3
  go_enter Tryz.func56, Tryz.ntmps56
  go_wp2_with (first
    | (go_at_call 68; refine (rone_any _ _).mono ?_; rintro e w' ⟨rfl, rfl⟩)
    | (go_at_call 70; refine (rsigned_any _ (by omega) (by omega) _).mono ?_; rintro e w' ⟨rfl, rfl⟩)
    | (go_at_call 69; refine (rout_any _ _).mono ?_; rintro e w' ⟨rfl, rfl⟩))
  go_ret3
  exact ret3 (by unfold W.low; omega) rfl rfl
set_option maxHeartbeats 400000 in
theorem rmul_any (a b : Int) (u : Bool) (h0 : 0 ≤ a) (h1 : a < 4294967296) (h2 : 0 ≤ b) (h3 : b < 4294967296) (w : World) :
    Calls Tryz.prog 57 #[.int .u32 a, .int .u32 b, .bool u] w fun e w' =>
      e = .returned (.tuple #[.int .u32 (W.low (W.prod u a b)), .int .u32 (W.low (W.prod u a b / 4294967296))]) ∧ w = w' := by
  have p1 := W.mul_lo (a % 65536) (b % 65536) (by omega) (by omega)
  have p2 := W.mul_hi (a % 65536) (b % 65536) 65535 65535 (by omega) (by omega) (by omega) (by omega)
  have q1 := W.mul_lo (a % 65536) (b / 65536) (by omega) (by omega)
  have q2 := W.mul_hi (a % 65536) (b / 65536) 65535 65535 (by omega) (by omega) (by omega) (by omega)
  have r1 := W.mul_lo (a / 65536) (b % 65536) (by omega) (by omega)
  have r2 := W.mul_hi (a / 65536) (b % 65536) 65535 65535 (by omega) (by omega) (by omega) (by omega)
  have t1 := W.mul_lo (a / 65536) (b / 65536) (by omega) (by omega)
  have t2 := W.mul_hi (a / 65536) (b / 65536) 65535 65535 (by omega) (by omega) (by omega) (by omega)
  cases u
  · by_cases ha : W.sgn a < 0
    all_goals by_cases hb : W.sgn b < 0
    all_goals
      go_enter Tryz.func57, Tryz.ntmps57
      go_wp2_with (first
        | (go_at_call 70; refine (rsigned_any _ (by omega) (by omega) _).mono ?_; rintro e w' ⟨rfl, rfl⟩))
      go_ret2
    · have e1 := W.sgn_of_lt a h0 h1 ha
      have e2 := W.sgn_of_lt b h2 h3 hb
      exact ret2i (W.half_low _ _ _) (by rw [W.half_high]; exact W.high_of a b b a (by rw [if_neg e1]) (by rw [if_neg e2]))
    · have e1 := W.sgn_of_lt a h0 h1 ha
      have e2 := W.sgn_of_ge b hb h3
      exact ret2i (W.half_low _ _ _) (by rw [W.half_high]; have hh := W.high_of a b b 0 (by rw [if_neg e1]) (by rw [if_pos e2]); simp only [Int.sub_zero] at hh; exact hh)
    · have e1 := W.sgn_of_ge a ha h1
      have e2 := W.sgn_of_lt b h2 h3 hb
      exact ret2i (W.half_low _ _ _) (by rw [W.half_high]; have hh := W.high_of a b 0 a (by rw [if_pos e1]) (by rw [if_neg e2]); simp only [Int.sub_zero] at hh; exact hh)
    · have e1 := W.sgn_of_ge a ha h1
      have e2 := W.sgn_of_ge b hb h3
      exact ret2i (W.half_low _ _ _) (by rw [W.half_high]; have hh := W.high_of a b 0 0 (by rw [if_pos e1]) (by rw [if_pos e2]); simp only [Int.sub_zero] at hh; exact hh)
  · go_enter Tryz.func57, Tryz.ntmps57
    go_wp2_with (first
      | (go_at_call 70; refine (rsigned_any _ (by omega) (by omega) _).mono ?_; rintro e w' ⟨rfl, rfl⟩))
    go_ret2
    exact ret2i (W.half_low _ _ _) (by rw [W.half_high]; simp only [W.prod, W.low, if_true]; omega)
set_option maxHeartbeats 400000 in
theorem rdiv_no (a b : Int) (h0 : 0 ≤ a) (h1 : a < 4294967296) (h2 : 0 ≤ b) (h3 : b < 4294967296) (hb : W.sgn b ≤ 0) (w : World) :
    Calls Tryz.prog 58 #[.int .u32 a, .int .u32 b] w fun e w' =>
      e = .returned (.tuple #[.int .u32 0, .int .u32 0, .bool false]) ∧ w = w' := by
  go_enter Tryz.func58, Tryz.ntmps58
  go_wp2_with (first
    | (go_at_call 70; refine (rsigned_any _ (by omega) (by omega) _).mono ?_; rintro e w' ⟨rfl, rfl⟩))
  go_ret3
  exact ret3i rfl rfl rfl
set_option maxHeartbeats 400000 in
theorem rdiv_yes (a b : Int) (h0 : 0 ≤ a) (h1 : a < 4294967296) (h2 : 0 ≤ b) (h3 : b < 4294967296) (hb : 0 < W.sgn b) (w : World) :
    Calls Tryz.prog 58 #[.int .u32 a, .int .u32 b] w fun e w' =>
      e = .returned (.tuple #[.int .u32 (W.low (W.sgn a / W.sgn b)), .int .u32 (W.low (W.sgn a % W.sgn b)), .bool true]) ∧ w = w' := by
  have s1 := W.sgn_lo a h0
  have s2 := W.sgn_hi a h1
  have s4 := W.sgn_hi b h3
  have hb1 : (W.sgn b == 0) = false := by simp; omega
  go_enter Tryz.func58, Tryz.ntmps58
  go_wp2_with (first
    | (go_at_call 70; refine (rsigned_any _ (by omega) (by omega) _).mono ?_; rintro e w' ⟨rfl, rfl⟩))
  all_goals go_ret3
  · rename_i hneg
    exact ret3i (by rw [W.wrap64_low3, (W.quo_neg _ _ hb hneg).1]) (by rw [W.wrap64_low, (W.quo_neg _ _ hb hneg).2]) rfl
  · rename_i hpos
    exact ret3i (by rw [W.wrap64_low2, (W.quo_pos _ _ hb (by omega)).1]) (by rw [(W.quo_pos _ _ hb (by omega)).2]; rfl) rfl
set_option maxHeartbeats 1000000 in
theorem rshift_at (k a n : Int) (h0 : 0 ≤ a) (h1 : a < 4294967296) (h2 : 0 ≤ n) (h3 : n < 4294967296) (w : World)
    (c1 c2 c3 : Bool) (k1 : (k == 1) = c1) (k2 : (k == 2) = c2) (k3 : (k == 3) = c3) :
    Calls Tryz.prog 54 #[.int .i64 k, .int .u32 a, .int .u32 n] w fun e w' =>
      e = .returned (.int .u32 (W.shift k a n)) ∧ w = w' := by
  have Hz := Lib.hid (W.shiftN_zero k a h0 h1)
  go_enter Tryz.func54, Tryz.ntmps54
  go_wp2
  go_loop [1, 7] (fun x i => ∃ j : Nat, (j : Int) ≤ n % 32 ∧ i = .int .i64 j ∧ x = .int .u32 (W.shiftN k a j)) (fun _ i => (n % 32 - intOf i).toNat)
  case atStart => exact ⟨0, by omega, rfl, by rw [Hz.out]⟩
  case round =>
    obtain ⟨j, hj, rfl, rfl⟩ := hrel
    have b := W.shiftN_in k a j (by omega) h0 h1
    have b0 := b.1
    have b1 := b.2
    clear b
    by_cases hlt : (j : Int) < n % 32
    · have Hs := Lib.hid (W.shiftN_step k a j (by omega) h0 h1)
      generalize W.shiftN k a j = s at *
      go_wp2
      all_goals
        go_round
        case rel => exact ⟨j + 1, by omega, by go_num, by rw [← Hs.out]; first | rw [← W.step1 k s (k1.trans ‹_›)] | rw [← W.step2 k s (k2.trans ‹_›)] | rw [← W.step3 k s (k3.trans ‹_›)] | rw [← W.step4 k s (k1.trans ‹_›) (k2.trans ‹_›) (k3.trans ‹_›)]⟩
        case measure => simp [intOf]; omega
    · go_wp2
      go_ret
      exact ret1 (by rw [W.shift]; congr 1; omega)
theorem rshift_any (k a n : Int) (h0 : 0 ≤ a) (h1 : a < 4294967296) (h2 : 0 ≤ n) (h3 : n < 4294967296) (w : World) :
    Calls Tryz.prog 54 #[.int .i64 k, .int .u32 a, .int .u32 n] w fun e w' =>
      e = .returned (.int .u32 (W.shift k a n)) ∧ w = w' := rshift_at k a n h0 h1 h2 h3 w _ _ _ rfl rfl rfl
end Go.Proofs.YtlmddkciamdldaaGreat


/-
  The contract of the document's Do, of two registers.
-/
namespace Go.Proofs.YtlmddkciamdldaaGreat
open Go.RowKit
set_option linter.unusedVariables false
set_option linter.unusedSimpArgs false
set_option maxRecDepth 100000
set_option maxRecDepth 100000 in
set_option maxHeartbeats 2000000 in
theorem rdo_1_0f (s : A.Regs) (a b c i bv cv X : Int) (ha0 : 0 ≤ a) (ha1 : a < 16) (hb0 : 0 ≤ b) (hb1 : b < 16) (hc0 : 0 ≤ c) (hc1 : c < 16) (b0 : 0 ≤ bv) (b1 : bv < 4294967296) (n0 : 0 ≤ cv) (n1 : cv < 4294967296) (hbv : s.r b.toNat = bv) (hcv : s.r c.toNat = cv) (hx0 : 0 ≤ X) (hx1 : X < 4294967296) (w : World)
    (HM : Hid (∀ w, Calls Tryz.prog 41 #[.agg #[.int .i64 1, .int .i64 0, .int .i64 a, .int .i64 b, .int .i64 c, .int .i64 i, .bool false]] w fun e w' => e = .returned (.bool true) ∧ Kept w w'))
    (HE : Hid (cv = X)) :
    Calls Tryz.prog 33 #[.agg (A.cells s), .agg #[.int .i64 1, .int .i64 0, .int .i64 a, .int .i64 b, .int .i64 c, .int .i64 i, .bool false]] w fun e w' => e = .returned (.tuple #[.agg (A.cells (A.show' (A.set (s) a.toNat X) X)), .int .i64 0]) ∧ Kept w w' := by
  go_enter Tryz.func33, Tryz.ntmps33
  go_wp2_with fail
  refine (HM.out _).mono ?_; rintro e w2 ⟨rfl, hK2⟩
  have hX : Has (w.heap.size + 2) (A.cells A.none') 26 w2 := (Has.new2 _ _ _ _ _).kept hK2
  have hR : Has w.heap.size (A.cells s) 26 w2 := (((Has.new _ _ _).alloc _).alloc _).kept hK2
  have hI := ((Has.new1 _ _ _ _).alloc _).kept hK2
  have hK := ((((Kept.refl w).alloc _ _).alloc _ _).alloc _ _).trans hK2
  have hl := hX.lt
  clear hK2
  have q0 := hI.cell 0 _ rfl
  have q3 := hI.cell 3 _ rfl
  have q4 := hI.cell 4 _ rfl
  have q5 := hI.cell 5 _ rfl
  have qb := hR.cell b.toNat _ (A.cell_r s b.toNat (by omega))
  have qc := hR.cell c.toNat _ (A.cell_r s c.toNat (by omega))
  rw [hbv] at qb
  rw [hcv] at qc
  replace hX := Lib.hid hX
  replace hR := Lib.hid hR
  replace hI := Lib.hid hI
  replace hK := Lib.hid hK
  go_upto_region 14 with (first
    | (with_reducible refine load_has (o := ⟨some 48, _, _, _, _, _⟩) rfl 26 _ rfl _ rfl hR.out Tryz.underlying26 rfl (A.info25 _) ?_)
    | (with_reducible refine store_last (o := ⟨none, Op.store 26 (.tmp 9) _, _, _, _, _⟩) rfl 26 _ _ rfl _ _ rfl rfl rfl (A.info25 _) (by kernel_rfl) (A.one_cells _) ?_))
  clear q0 q3 q4 q5 qb qc
  replace hX := hX.out.alloc (.cells (A.cells s) 26)
  replace hR := hR.out.alloc (.cells (A.cells s) 26)
  replace hI := hI.out.alloc (.cells (A.cells s) 26)
  replace hK := hK.out.alloc (A.cells s) 26
  have hT := Has.new (A.cells s) 26 w2
  generalize w2.heap.size = B9 at *
  generalize w2.alloc _ = w3 at *
  have q0 := hI.cell 0 _ rfl
  have q1 := hI.cell 1 _ rfl
  have q6 := hI.cell 6 _ rfl
  have qh := hR.cell 16 _ (A.cell_h s)
  have qq := hR.cell 19 _ (A.cell_c s)
  have t16 := hT.cell 16 _ (A.cell_h s)
  have t19 := hT.cell 19 _ (A.cell_c s)
  have t20 := hT.cell 20 _ (A.cell_v s)
  have f16 := hT.free 16
  have f19 := hT.free 19
  have f20 := hT.free 20
  replace hX := Lib.hid hX
  replace hR := Lib.hid hR
  replace hI := Lib.hid hI
  replace hK := Lib.hid hK
  replace hT := Lib.hid hT
  go_upto_region 38 with (fail)
  rw [HE.out]
  clear q0 q1 q6 qh qq t16 t19 t20 f16 f19 f20
  have q2 := hI.out.cell 2 _ rfl
  have ta := hT.out.cell a.toNat _ (A.cell_r (s) a.toNat (by omega))
  have fa := hT.out.free a.toNat
  go_upto_region 39 with (fail)
  clear q2 ta fa
  replace hT := Lib.hid (hT.out.set a.toNat (.int .u32 X))
  rw [A.set_r (s) a.toNat (by omega) X] at hT
  replace hX := Lib.hid (hX.out.other (p := ⟨B9, a.toNat, none⟩) (Nat.ne_of_lt hl) (.int .u32 X))
  replace hK := Lib.hid (hK.out.setCell (p := ⟨B9, a.toNat, none⟩) (by show w.heap.size ≤ B9; omega) (.int .u32 X))
  clear hI hR
  generalize World.setCell _ _ _ = w5 at *
  go_wp2_with (first
    | (with_reducible refine load_has (o := ⟨some 194, _, _, _, _, _⟩) rfl 26 _ rfl _ rfl hT.out Tryz.underlying26 rfl (A.info25 _) ?_)
    | (with_reducible refine store_has (o := ⟨none, Op.store 26 (.tmp 4) _, _, _, _, _⟩) rfl 26 _ _ rfl _ _ rfl rfl hX.out (A.info25 _) (by kernel_rfl) (A.one_cells _) ?_)
    | (go_at_call 49; (refine (rshow_any _ X hx0 hx1 _).mono ?_; rintro e w7 ⟨rfl, hK7⟩); (replace hX := Lib.hid (hX.out.kept hK7)); (replace hK := Lib.hid (hK.out.trans hK7)); clear hK7))
  exact bodyPost_ret (results_has2 rfl (w.heap.size + 2) rfl (hX.out.row _) Tryz.underlying26 rfl (A.info25 _)) rfl ⟨rfl, hK.out.row (by omega) _⟩
set_option maxRecDepth 100000 in
set_option maxHeartbeats 2000000 in
theorem rdo_1_0t (s : A.Regs) (a b c i bv cv X : Int) (ha0 : 0 ≤ a) (ha1 : a < 16) (hb0 : 0 ≤ b) (hb1 : b < 16) (hc0 : 0 ≤ c) (hc1 : c < 16) (b0 : 0 ≤ bv) (b1 : bv < 4294967296) (n0 : 0 ≤ cv) (n1 : cv < 4294967296) (hbv : s.r b.toNat = bv) (hcv : s.r c.toNat = cv) (hx0 : 0 ≤ X) (hx1 : X < 4294967296) (w : World)
    (HM : Hid (∀ w, Calls Tryz.prog 41 #[.agg #[.int .i64 1, .int .i64 0, .int .i64 a, .int .i64 b, .int .i64 c, .int .i64 i, .bool true]] w fun e w' => e = .returned (.bool true) ∧ Kept w w'))
    (HE : Hid (cv * 65536 % 4294967296 = X)) :
    Calls Tryz.prog 33 #[.agg (A.cells s), .agg #[.int .i64 1, .int .i64 0, .int .i64 a, .int .i64 b, .int .i64 c, .int .i64 i, .bool true]] w fun e w' => e = .returned (.tuple #[.agg (A.cells (A.show' (A.set (s) a.toNat X) X)), .int .i64 0]) ∧ Kept w w' := by
  go_enter Tryz.func33, Tryz.ntmps33
  go_wp2_with fail
  refine (HM.out _).mono ?_; rintro e w2 ⟨rfl, hK2⟩
  have hX : Has (w.heap.size + 2) (A.cells A.none') 26 w2 := (Has.new2 _ _ _ _ _).kept hK2
  have hR : Has w.heap.size (A.cells s) 26 w2 := (((Has.new _ _ _).alloc _).alloc _).kept hK2
  have hI := ((Has.new1 _ _ _ _).alloc _).kept hK2
  have hK := ((((Kept.refl w).alloc _ _).alloc _ _).alloc _ _).trans hK2
  have hl := hX.lt
  clear hK2
  have q0 := hI.cell 0 _ rfl
  have q3 := hI.cell 3 _ rfl
  have q4 := hI.cell 4 _ rfl
  have q5 := hI.cell 5 _ rfl
  have qb := hR.cell b.toNat _ (A.cell_r s b.toNat (by omega))
  have qc := hR.cell c.toNat _ (A.cell_r s c.toNat (by omega))
  rw [hbv] at qb
  rw [hcv] at qc
  replace hX := Lib.hid hX
  replace hR := Lib.hid hR
  replace hI := Lib.hid hI
  replace hK := Lib.hid hK
  go_upto_region 14 with (first
    | (with_reducible refine load_has (o := ⟨some 48, _, _, _, _, _⟩) rfl 26 _ rfl _ rfl hR.out Tryz.underlying26 rfl (A.info25 _) ?_)
    | (with_reducible refine store_last (o := ⟨none, Op.store 26 (.tmp 9) _, _, _, _, _⟩) rfl 26 _ _ rfl _ _ rfl rfl rfl (A.info25 _) (by kernel_rfl) (A.one_cells _) ?_))
  clear q0 q3 q4 q5 qb qc
  replace hX := hX.out.alloc (.cells (A.cells s) 26)
  replace hR := hR.out.alloc (.cells (A.cells s) 26)
  replace hI := hI.out.alloc (.cells (A.cells s) 26)
  replace hK := hK.out.alloc (A.cells s) 26
  have hT := Has.new (A.cells s) 26 w2
  generalize w2.heap.size = B9 at *
  generalize w2.alloc _ = w3 at *
  have q0 := hI.cell 0 _ rfl
  have q1 := hI.cell 1 _ rfl
  have q6 := hI.cell 6 _ rfl
  have qh := hR.cell 16 _ (A.cell_h s)
  have qq := hR.cell 19 _ (A.cell_c s)
  have t16 := hT.cell 16 _ (A.cell_h s)
  have t19 := hT.cell 19 _ (A.cell_c s)
  have t20 := hT.cell 20 _ (A.cell_v s)
  have f16 := hT.free 16
  have f19 := hT.free 19
  have f20 := hT.free 20
  replace hX := Lib.hid hX
  replace hR := Lib.hid hR
  replace hI := Lib.hid hI
  replace hK := Lib.hid hK
  replace hT := Lib.hid hT
  go_upto_region 38 with (fail)
  rw [HE.out]
  clear q0 q1 q6 qh qq t16 t19 t20 f16 f19 f20
  have q2 := hI.out.cell 2 _ rfl
  have ta := hT.out.cell a.toNat _ (A.cell_r (s) a.toNat (by omega))
  have fa := hT.out.free a.toNat
  go_upto_region 39 with (fail)
  clear q2 ta fa
  replace hT := Lib.hid (hT.out.set a.toNat (.int .u32 X))
  rw [A.set_r (s) a.toNat (by omega) X] at hT
  replace hX := Lib.hid (hX.out.other (p := ⟨B9, a.toNat, none⟩) (Nat.ne_of_lt hl) (.int .u32 X))
  replace hK := Lib.hid (hK.out.setCell (p := ⟨B9, a.toNat, none⟩) (by show w.heap.size ≤ B9; omega) (.int .u32 X))
  clear hI hR
  generalize World.setCell _ _ _ = w5 at *
  go_wp2_with (first
    | (with_reducible refine load_has (o := ⟨some 194, _, _, _, _, _⟩) rfl 26 _ rfl _ rfl hT.out Tryz.underlying26 rfl (A.info25 _) ?_)
    | (with_reducible refine store_has (o := ⟨none, Op.store 26 (.tmp 4) _, _, _, _, _⟩) rfl 26 _ _ rfl _ _ rfl rfl hX.out (A.info25 _) (by kernel_rfl) (A.one_cells _) ?_)
    | (go_at_call 49; (refine (rshow_any _ X hx0 hx1 _).mono ?_; rintro e w7 ⟨rfl, hK7⟩); (replace hX := Lib.hid (hX.out.kept hK7)); (replace hK := Lib.hid (hK.out.trans hK7)); clear hK7))
  exact bodyPost_ret (results_has2 rfl (w.heap.size + 2) rfl (hX.out.row _) Tryz.underlying26 rfl (A.info25 _)) rfl ⟨rfl, hK.out.row (by omega) _⟩
set_option maxRecDepth 100000 in
set_option maxHeartbeats 2000000 in
theorem rdo_1_1 (s : A.Regs) (a b c i bv cv X : Int) (u : Bool) (ha0 : 0 ≤ a) (ha1 : a < 16) (hb0 : 0 ≤ b) (hb1 : b < 16) (hc0 : 0 ≤ c) (hc1 : c < 16) (b0 : 0 ≤ bv) (b1 : bv < 4294967296) (n0 : 0 ≤ cv) (n1 : cv < 4294967296) (hbv : s.r b.toNat = bv) (hcv : s.r c.toNat = cv) (hx0 : 0 ≤ X) (hx1 : X < 4294967296) (w : World)
    (HM : Hid (∀ w, Calls Tryz.prog 41 #[.agg #[.int .i64 1, .int .i64 1, .int .i64 a, .int .i64 b, .int .i64 c, .int .i64 i, .bool u]] w fun e w' => e = .returned (.bool true) ∧ Kept w w'))
    (HC : Hid (∀ w, Calls Tryz.prog 54 #[.int .i64 1, .int .u32 bv, .int .u32 cv] w fun e w' => e = .returned (.int .u32 X) ∧ w = w')) :
    Calls Tryz.prog 33 #[.agg (A.cells s), .agg #[.int .i64 1, .int .i64 1, .int .i64 a, .int .i64 b, .int .i64 c, .int .i64 i, .bool u]] w fun e w' => e = .returned (.tuple #[.agg (A.cells (A.show' (A.set (s) a.toNat X) X)), .int .i64 0]) ∧ Kept w w' := by
  go_enter Tryz.func33, Tryz.ntmps33
  go_wp2_with fail
  refine (HM.out _).mono ?_; rintro e w2 ⟨rfl, hK2⟩
  have hX : Has (w.heap.size + 2) (A.cells A.none') 26 w2 := (Has.new2 _ _ _ _ _).kept hK2
  have hR : Has w.heap.size (A.cells s) 26 w2 := (((Has.new _ _ _).alloc _).alloc _).kept hK2
  have hI := ((Has.new1 _ _ _ _).alloc _).kept hK2
  have hK := ((((Kept.refl w).alloc _ _).alloc _ _).alloc _ _).trans hK2
  have hl := hX.lt
  clear hK2
  have q0 := hI.cell 0 _ rfl
  have q3 := hI.cell 3 _ rfl
  have q4 := hI.cell 4 _ rfl
  have q5 := hI.cell 5 _ rfl
  have qb := hR.cell b.toNat _ (A.cell_r s b.toNat (by omega))
  have qc := hR.cell c.toNat _ (A.cell_r s c.toNat (by omega))
  rw [hbv] at qb
  rw [hcv] at qc
  replace hX := Lib.hid hX
  replace hR := Lib.hid hR
  replace hI := Lib.hid hI
  replace hK := Lib.hid hK
  go_upto_region 14 with (first
    | (with_reducible refine load_has (o := ⟨some 48, _, _, _, _, _⟩) rfl 26 _ rfl _ rfl hR.out Tryz.underlying26 rfl (A.info25 _) ?_)
    | (with_reducible refine store_last (o := ⟨none, Op.store 26 (.tmp 9) _, _, _, _, _⟩) rfl 26 _ _ rfl _ _ rfl rfl rfl (A.info25 _) (by kernel_rfl) (A.one_cells _) ?_))
  clear q0 q3 q4 q5 qb qc
  replace hX := hX.out.alloc (.cells (A.cells s) 26)
  replace hR := hR.out.alloc (.cells (A.cells s) 26)
  replace hI := hI.out.alloc (.cells (A.cells s) 26)
  replace hK := hK.out.alloc (A.cells s) 26
  have hT := Has.new (A.cells s) 26 w2
  generalize w2.heap.size = B9 at *
  generalize w2.alloc _ = w3 at *
  have q0 := hI.cell 0 _ rfl
  have q1 := hI.cell 1 _ rfl
  have q6 := hI.cell 6 _ rfl
  have qh := hR.cell 16 _ (A.cell_h s)
  have qq := hR.cell 19 _ (A.cell_c s)
  have t16 := hT.cell 16 _ (A.cell_h s)
  have t19 := hT.cell 19 _ (A.cell_c s)
  have t20 := hT.cell 20 _ (A.cell_v s)
  have f16 := hT.free 16
  have f19 := hT.free 19
  have f20 := hT.free 20
  replace hX := Lib.hid hX
  replace hR := Lib.hid hR
  replace hI := Lib.hid hI
  replace hK := Lib.hid hK
  replace hT := Lib.hid hT
  go_upto_region 38 with (go_at_call 54; refine (HC.out _).mono ?_; rintro e w4 ⟨rfl, rfl⟩)
  clear q0 q1 q6 qh qq t16 t19 t20 f16 f19 f20
  have q2 := hI.out.cell 2 _ rfl
  have ta := hT.out.cell a.toNat _ (A.cell_r (s) a.toNat (by omega))
  have fa := hT.out.free a.toNat
  go_upto_region 39 with (fail)
  clear q2 ta fa
  replace hT := Lib.hid (hT.out.set a.toNat (.int .u32 X))
  rw [A.set_r (s) a.toNat (by omega) X] at hT
  replace hX := Lib.hid (hX.out.other (p := ⟨B9, a.toNat, none⟩) (Nat.ne_of_lt hl) (.int .u32 X))
  replace hK := Lib.hid (hK.out.setCell (p := ⟨B9, a.toNat, none⟩) (by show w.heap.size ≤ B9; omega) (.int .u32 X))
  clear hI hR
  generalize World.setCell _ _ _ = w5 at *
  go_wp2_with (first
    | (with_reducible refine load_has (o := ⟨some 194, _, _, _, _, _⟩) rfl 26 _ rfl _ rfl hT.out Tryz.underlying26 rfl (A.info25 _) ?_)
    | (with_reducible refine store_has (o := ⟨none, Op.store 26 (.tmp 4) _, _, _, _, _⟩) rfl 26 _ _ rfl _ _ rfl rfl hX.out (A.info25 _) (by kernel_rfl) (A.one_cells _) ?_)
    | (go_at_call 49; (refine (rshow_any _ X hx0 hx1 _).mono ?_; rintro e w7 ⟨rfl, hK7⟩); (replace hX := Lib.hid (hX.out.kept hK7)); (replace hK := Lib.hid (hK.out.trans hK7)); clear hK7))
  exact bodyPost_ret (results_has2 rfl (w.heap.size + 2) rfl (hX.out.row _) Tryz.underlying26 rfl (A.info25 _)) rfl ⟨rfl, hK.out.row (by omega) _⟩
set_option maxRecDepth 100000 in
set_option maxHeartbeats 2000000 in
theorem rdo_1_2 (s : A.Regs) (a b c i bv cv X : Int) (u : Bool) (ha0 : 0 ≤ a) (ha1 : a < 16) (hb0 : 0 ≤ b) (hb1 : b < 16) (hc0 : 0 ≤ c) (hc1 : c < 16) (b0 : 0 ≤ bv) (b1 : bv < 4294967296) (n0 : 0 ≤ cv) (n1 : cv < 4294967296) (hbv : s.r b.toNat = bv) (hcv : s.r c.toNat = cv) (hx0 : 0 ≤ X) (hx1 : X < 4294967296) (w : World)
    (HM : Hid (∀ w, Calls Tryz.prog 41 #[.agg #[.int .i64 1, .int .i64 2, .int .i64 a, .int .i64 b, .int .i64 c, .int .i64 i, .bool u]] w fun e w' => e = .returned (.bool true) ∧ Kept w w'))
    (HC : Hid (∀ w, Calls Tryz.prog 54 #[.int .i64 2, .int .u32 bv, .int .u32 cv] w fun e w' => e = .returned (.int .u32 X) ∧ w = w')) :
    Calls Tryz.prog 33 #[.agg (A.cells s), .agg #[.int .i64 1, .int .i64 2, .int .i64 a, .int .i64 b, .int .i64 c, .int .i64 i, .bool u]] w fun e w' => e = .returned (.tuple #[.agg (A.cells (A.show' (A.set (s) a.toNat X) X)), .int .i64 0]) ∧ Kept w w' := by
  go_enter Tryz.func33, Tryz.ntmps33
  go_wp2_with fail
  refine (HM.out _).mono ?_; rintro e w2 ⟨rfl, hK2⟩
  have hX : Has (w.heap.size + 2) (A.cells A.none') 26 w2 := (Has.new2 _ _ _ _ _).kept hK2
  have hR : Has w.heap.size (A.cells s) 26 w2 := (((Has.new _ _ _).alloc _).alloc _).kept hK2
  have hI := ((Has.new1 _ _ _ _).alloc _).kept hK2
  have hK := ((((Kept.refl w).alloc _ _).alloc _ _).alloc _ _).trans hK2
  have hl := hX.lt
  clear hK2
  have q0 := hI.cell 0 _ rfl
  have q3 := hI.cell 3 _ rfl
  have q4 := hI.cell 4 _ rfl
  have q5 := hI.cell 5 _ rfl
  have qb := hR.cell b.toNat _ (A.cell_r s b.toNat (by omega))
  have qc := hR.cell c.toNat _ (A.cell_r s c.toNat (by omega))
  rw [hbv] at qb
  rw [hcv] at qc
  replace hX := Lib.hid hX
  replace hR := Lib.hid hR
  replace hI := Lib.hid hI
  replace hK := Lib.hid hK
  go_upto_region 14 with (first
    | (with_reducible refine load_has (o := ⟨some 48, _, _, _, _, _⟩) rfl 26 _ rfl _ rfl hR.out Tryz.underlying26 rfl (A.info25 _) ?_)
    | (with_reducible refine store_last (o := ⟨none, Op.store 26 (.tmp 9) _, _, _, _, _⟩) rfl 26 _ _ rfl _ _ rfl rfl rfl (A.info25 _) (by kernel_rfl) (A.one_cells _) ?_))
  clear q0 q3 q4 q5 qb qc
  replace hX := hX.out.alloc (.cells (A.cells s) 26)
  replace hR := hR.out.alloc (.cells (A.cells s) 26)
  replace hI := hI.out.alloc (.cells (A.cells s) 26)
  replace hK := hK.out.alloc (A.cells s) 26
  have hT := Has.new (A.cells s) 26 w2
  generalize w2.heap.size = B9 at *
  generalize w2.alloc _ = w3 at *
  have q0 := hI.cell 0 _ rfl
  have q1 := hI.cell 1 _ rfl
  have q6 := hI.cell 6 _ rfl
  have qh := hR.cell 16 _ (A.cell_h s)
  have qq := hR.cell 19 _ (A.cell_c s)
  have t16 := hT.cell 16 _ (A.cell_h s)
  have t19 := hT.cell 19 _ (A.cell_c s)
  have t20 := hT.cell 20 _ (A.cell_v s)
  have f16 := hT.free 16
  have f19 := hT.free 19
  have f20 := hT.free 20
  replace hX := Lib.hid hX
  replace hR := Lib.hid hR
  replace hI := Lib.hid hI
  replace hK := Lib.hid hK
  replace hT := Lib.hid hT
  go_upto_region 38 with (go_at_call 54; refine (HC.out _).mono ?_; rintro e w4 ⟨rfl, rfl⟩)
  clear q0 q1 q6 qh qq t16 t19 t20 f16 f19 f20
  have q2 := hI.out.cell 2 _ rfl
  have ta := hT.out.cell a.toNat _ (A.cell_r (s) a.toNat (by omega))
  have fa := hT.out.free a.toNat
  go_upto_region 39 with (fail)
  clear q2 ta fa
  replace hT := Lib.hid (hT.out.set a.toNat (.int .u32 X))
  rw [A.set_r (s) a.toNat (by omega) X] at hT
  replace hX := Lib.hid (hX.out.other (p := ⟨B9, a.toNat, none⟩) (Nat.ne_of_lt hl) (.int .u32 X))
  replace hK := Lib.hid (hK.out.setCell (p := ⟨B9, a.toNat, none⟩) (by show w.heap.size ≤ B9; omega) (.int .u32 X))
  clear hI hR
  generalize World.setCell _ _ _ = w5 at *
  go_wp2_with (first
    | (with_reducible refine load_has (o := ⟨some 194, _, _, _, _, _⟩) rfl 26 _ rfl _ rfl hT.out Tryz.underlying26 rfl (A.info25 _) ?_)
    | (with_reducible refine store_has (o := ⟨none, Op.store 26 (.tmp 4) _, _, _, _, _⟩) rfl 26 _ _ rfl _ _ rfl rfl hX.out (A.info25 _) (by kernel_rfl) (A.one_cells _) ?_)
    | (go_at_call 49; (refine (rshow_any _ X hx0 hx1 _).mono ?_; rintro e w7 ⟨rfl, hK7⟩); (replace hX := Lib.hid (hX.out.kept hK7)); (replace hK := Lib.hid (hK.out.trans hK7)); clear hK7))
  exact bodyPost_ret (results_has2 rfl (w.heap.size + 2) rfl (hX.out.row _) Tryz.underlying26 rfl (A.info25 _)) rfl ⟨rfl, hK.out.row (by omega) _⟩
set_option maxRecDepth 100000 in
set_option maxHeartbeats 2000000 in
theorem rdo_1_3 (s : A.Regs) (a b c i bv cv X : Int) (u : Bool) (ha0 : 0 ≤ a) (ha1 : a < 16) (hb0 : 0 ≤ b) (hb1 : b < 16) (hc0 : 0 ≤ c) (hc1 : c < 16) (b0 : 0 ≤ bv) (b1 : bv < 4294967296) (n0 : 0 ≤ cv) (n1 : cv < 4294967296) (hbv : s.r b.toNat = bv) (hcv : s.r c.toNat = cv) (hx0 : 0 ≤ X) (hx1 : X < 4294967296) (w : World)
    (HM : Hid (∀ w, Calls Tryz.prog 41 #[.agg #[.int .i64 1, .int .i64 3, .int .i64 a, .int .i64 b, .int .i64 c, .int .i64 i, .bool u]] w fun e w' => e = .returned (.bool true) ∧ Kept w w'))
    (HC : Hid (∀ w, Calls Tryz.prog 54 #[.int .i64 3, .int .u32 bv, .int .u32 cv] w fun e w' => e = .returned (.int .u32 X) ∧ w = w')) :
    Calls Tryz.prog 33 #[.agg (A.cells s), .agg #[.int .i64 1, .int .i64 3, .int .i64 a, .int .i64 b, .int .i64 c, .int .i64 i, .bool u]] w fun e w' => e = .returned (.tuple #[.agg (A.cells (A.show' (A.set (s) a.toNat X) X)), .int .i64 0]) ∧ Kept w w' := by
  go_enter Tryz.func33, Tryz.ntmps33
  go_wp2_with fail
  refine (HM.out _).mono ?_; rintro e w2 ⟨rfl, hK2⟩
  have hX : Has (w.heap.size + 2) (A.cells A.none') 26 w2 := (Has.new2 _ _ _ _ _).kept hK2
  have hR : Has w.heap.size (A.cells s) 26 w2 := (((Has.new _ _ _).alloc _).alloc _).kept hK2
  have hI := ((Has.new1 _ _ _ _).alloc _).kept hK2
  have hK := ((((Kept.refl w).alloc _ _).alloc _ _).alloc _ _).trans hK2
  have hl := hX.lt
  clear hK2
  have q0 := hI.cell 0 _ rfl
  have q3 := hI.cell 3 _ rfl
  have q4 := hI.cell 4 _ rfl
  have q5 := hI.cell 5 _ rfl
  have qb := hR.cell b.toNat _ (A.cell_r s b.toNat (by omega))
  have qc := hR.cell c.toNat _ (A.cell_r s c.toNat (by omega))
  rw [hbv] at qb
  rw [hcv] at qc
  replace hX := Lib.hid hX
  replace hR := Lib.hid hR
  replace hI := Lib.hid hI
  replace hK := Lib.hid hK
  go_upto_region 14 with (first
    | (with_reducible refine load_has (o := ⟨some 48, _, _, _, _, _⟩) rfl 26 _ rfl _ rfl hR.out Tryz.underlying26 rfl (A.info25 _) ?_)
    | (with_reducible refine store_last (o := ⟨none, Op.store 26 (.tmp 9) _, _, _, _, _⟩) rfl 26 _ _ rfl _ _ rfl rfl rfl (A.info25 _) (by kernel_rfl) (A.one_cells _) ?_))
  clear q0 q3 q4 q5 qb qc
  replace hX := hX.out.alloc (.cells (A.cells s) 26)
  replace hR := hR.out.alloc (.cells (A.cells s) 26)
  replace hI := hI.out.alloc (.cells (A.cells s) 26)
  replace hK := hK.out.alloc (A.cells s) 26
  have hT := Has.new (A.cells s) 26 w2
  generalize w2.heap.size = B9 at *
  generalize w2.alloc _ = w3 at *
  have q0 := hI.cell 0 _ rfl
  have q1 := hI.cell 1 _ rfl
  have q6 := hI.cell 6 _ rfl
  have qh := hR.cell 16 _ (A.cell_h s)
  have qq := hR.cell 19 _ (A.cell_c s)
  have t16 := hT.cell 16 _ (A.cell_h s)
  have t19 := hT.cell 19 _ (A.cell_c s)
  have t20 := hT.cell 20 _ (A.cell_v s)
  have f16 := hT.free 16
  have f19 := hT.free 19
  have f20 := hT.free 20
  replace hX := Lib.hid hX
  replace hR := Lib.hid hR
  replace hI := Lib.hid hI
  replace hK := Lib.hid hK
  replace hT := Lib.hid hT
  go_upto_region 38 with (go_at_call 54; refine (HC.out _).mono ?_; rintro e w4 ⟨rfl, rfl⟩)
  clear q0 q1 q6 qh qq t16 t19 t20 f16 f19 f20
  have q2 := hI.out.cell 2 _ rfl
  have ta := hT.out.cell a.toNat _ (A.cell_r (s) a.toNat (by omega))
  have fa := hT.out.free a.toNat
  go_upto_region 39 with (fail)
  clear q2 ta fa
  replace hT := Lib.hid (hT.out.set a.toNat (.int .u32 X))
  rw [A.set_r (s) a.toNat (by omega) X] at hT
  replace hX := Lib.hid (hX.out.other (p := ⟨B9, a.toNat, none⟩) (Nat.ne_of_lt hl) (.int .u32 X))
  replace hK := Lib.hid (hK.out.setCell (p := ⟨B9, a.toNat, none⟩) (by show w.heap.size ≤ B9; omega) (.int .u32 X))
  clear hI hR
  generalize World.setCell _ _ _ = w5 at *
  go_wp2_with (first
    | (with_reducible refine load_has (o := ⟨some 194, _, _, _, _, _⟩) rfl 26 _ rfl _ rfl hT.out Tryz.underlying26 rfl (A.info25 _) ?_)
    | (with_reducible refine store_has (o := ⟨none, Op.store 26 (.tmp 4) _, _, _, _, _⟩) rfl 26 _ _ rfl _ _ rfl rfl hX.out (A.info25 _) (by kernel_rfl) (A.one_cells _) ?_)
    | (go_at_call 49; (refine (rshow_any _ X hx0 hx1 _).mono ?_; rintro e w7 ⟨rfl, hK7⟩); (replace hX := Lib.hid (hX.out.kept hK7)); (replace hK := Lib.hid (hK.out.trans hK7)); clear hK7))
  exact bodyPost_ret (results_has2 rfl (w.heap.size + 2) rfl (hX.out.row _) Tryz.underlying26 rfl (A.info25 _)) rfl ⟨rfl, hK.out.row (by omega) _⟩
set_option maxRecDepth 100000 in
set_option maxHeartbeats 2000000 in
theorem rdo_1_4 (s : A.Regs) (a b c i bv cv X : Int) (u : Bool) (ha0 : 0 ≤ a) (ha1 : a < 16) (hb0 : 0 ≤ b) (hb1 : b < 16) (hc0 : 0 ≤ c) (hc1 : c < 16) (b0 : 0 ≤ bv) (b1 : bv < 4294967296) (n0 : 0 ≤ cv) (n1 : cv < 4294967296) (hbv : s.r b.toNat = bv) (hcv : s.r c.toNat = cv) (hx0 : 0 ≤ X) (hx1 : X < 4294967296) (w : World)
    (HM : Hid (∀ w, Calls Tryz.prog 41 #[.agg #[.int .i64 1, .int .i64 4, .int .i64 a, .int .i64 b, .int .i64 c, .int .i64 i, .bool u]] w fun e w' => e = .returned (.bool true) ∧ Kept w w'))
    (HE : Hid (bits BinOp.and IntKind.u32 bv cv = X)) :
    Calls Tryz.prog 33 #[.agg (A.cells s), .agg #[.int .i64 1, .int .i64 4, .int .i64 a, .int .i64 b, .int .i64 c, .int .i64 i, .bool u]] w fun e w' => e = .returned (.tuple #[.agg (A.cells (A.show' (A.set (s) a.toNat X) X)), .int .i64 0]) ∧ Kept w w' := by
  go_enter Tryz.func33, Tryz.ntmps33
  go_wp2_with fail
  refine (HM.out _).mono ?_; rintro e w2 ⟨rfl, hK2⟩
  have hX : Has (w.heap.size + 2) (A.cells A.none') 26 w2 := (Has.new2 _ _ _ _ _).kept hK2
  have hR : Has w.heap.size (A.cells s) 26 w2 := (((Has.new _ _ _).alloc _).alloc _).kept hK2
  have hI := ((Has.new1 _ _ _ _).alloc _).kept hK2
  have hK := ((((Kept.refl w).alloc _ _).alloc _ _).alloc _ _).trans hK2
  have hl := hX.lt
  clear hK2
  have q0 := hI.cell 0 _ rfl
  have q3 := hI.cell 3 _ rfl
  have q4 := hI.cell 4 _ rfl
  have q5 := hI.cell 5 _ rfl
  have qb := hR.cell b.toNat _ (A.cell_r s b.toNat (by omega))
  have qc := hR.cell c.toNat _ (A.cell_r s c.toNat (by omega))
  rw [hbv] at qb
  rw [hcv] at qc
  replace hX := Lib.hid hX
  replace hR := Lib.hid hR
  replace hI := Lib.hid hI
  replace hK := Lib.hid hK
  go_upto_region 14 with (first
    | (with_reducible refine load_has (o := ⟨some 48, _, _, _, _, _⟩) rfl 26 _ rfl _ rfl hR.out Tryz.underlying26 rfl (A.info25 _) ?_)
    | (with_reducible refine store_last (o := ⟨none, Op.store 26 (.tmp 9) _, _, _, _, _⟩) rfl 26 _ _ rfl _ _ rfl rfl rfl (A.info25 _) (by kernel_rfl) (A.one_cells _) ?_))
  clear q0 q3 q4 q5 qb qc
  replace hX := hX.out.alloc (.cells (A.cells s) 26)
  replace hR := hR.out.alloc (.cells (A.cells s) 26)
  replace hI := hI.out.alloc (.cells (A.cells s) 26)
  replace hK := hK.out.alloc (A.cells s) 26
  have hT := Has.new (A.cells s) 26 w2
  generalize w2.heap.size = B9 at *
  generalize w2.alloc _ = w3 at *
  have q0 := hI.cell 0 _ rfl
  have q1 := hI.cell 1 _ rfl
  have q6 := hI.cell 6 _ rfl
  have qh := hR.cell 16 _ (A.cell_h s)
  have qq := hR.cell 19 _ (A.cell_c s)
  have t16 := hT.cell 16 _ (A.cell_h s)
  have t19 := hT.cell 19 _ (A.cell_c s)
  have t20 := hT.cell 20 _ (A.cell_v s)
  have f16 := hT.free 16
  have f19 := hT.free 19
  have f20 := hT.free 20
  replace hX := Lib.hid hX
  replace hR := Lib.hid hR
  replace hI := Lib.hid hI
  replace hK := Lib.hid hK
  replace hT := Lib.hid hT
  go_upto_region 38 with (fail)
  rw [HE.out]
  clear q0 q1 q6 qh qq t16 t19 t20 f16 f19 f20
  have q2 := hI.out.cell 2 _ rfl
  have ta := hT.out.cell a.toNat _ (A.cell_r (s) a.toNat (by omega))
  have fa := hT.out.free a.toNat
  go_upto_region 39 with (fail)
  clear q2 ta fa
  replace hT := Lib.hid (hT.out.set a.toNat (.int .u32 X))
  rw [A.set_r (s) a.toNat (by omega) X] at hT
  replace hX := Lib.hid (hX.out.other (p := ⟨B9, a.toNat, none⟩) (Nat.ne_of_lt hl) (.int .u32 X))
  replace hK := Lib.hid (hK.out.setCell (p := ⟨B9, a.toNat, none⟩) (by show w.heap.size ≤ B9; omega) (.int .u32 X))
  clear hI hR
  generalize World.setCell _ _ _ = w5 at *
  go_wp2_with (first
    | (with_reducible refine load_has (o := ⟨some 194, _, _, _, _, _⟩) rfl 26 _ rfl _ rfl hT.out Tryz.underlying26 rfl (A.info25 _) ?_)
    | (with_reducible refine store_has (o := ⟨none, Op.store 26 (.tmp 4) _, _, _, _, _⟩) rfl 26 _ _ rfl _ _ rfl rfl hX.out (A.info25 _) (by kernel_rfl) (A.one_cells _) ?_)
    | (go_at_call 49; (refine (rshow_any _ X hx0 hx1 _).mono ?_; rintro e w7 ⟨rfl, hK7⟩); (replace hX := Lib.hid (hX.out.kept hK7)); (replace hK := Lib.hid (hK.out.trans hK7)); clear hK7))
  exact bodyPost_ret (results_has2 rfl (w.heap.size + 2) rfl (hX.out.row _) Tryz.underlying26 rfl (A.info25 _)) rfl ⟨rfl, hK.out.row (by omega) _⟩
set_option maxRecDepth 100000 in
set_option maxHeartbeats 2000000 in
theorem rdo_1_5 (s : A.Regs) (a b c i bv cv X : Int) (u : Bool) (ha0 : 0 ≤ a) (ha1 : a < 16) (hb0 : 0 ≤ b) (hb1 : b < 16) (hc0 : 0 ≤ c) (hc1 : c < 16) (b0 : 0 ≤ bv) (b1 : bv < 4294967296) (n0 : 0 ≤ cv) (n1 : cv < 4294967296) (hbv : s.r b.toNat = bv) (hcv : s.r c.toNat = cv) (hx0 : 0 ≤ X) (hx1 : X < 4294967296) (w : World)
    (HM : Hid (∀ w, Calls Tryz.prog 41 #[.agg #[.int .i64 1, .int .i64 5, .int .i64 a, .int .i64 b, .int .i64 c, .int .i64 i, .bool u]] w fun e w' => e = .returned (.bool true) ∧ Kept w w'))
    (HE : Hid (bits BinOp.and IntKind.u32 bv (4294967295 - cv) = X)) :
    Calls Tryz.prog 33 #[.agg (A.cells s), .agg #[.int .i64 1, .int .i64 5, .int .i64 a, .int .i64 b, .int .i64 c, .int .i64 i, .bool u]] w fun e w' => e = .returned (.tuple #[.agg (A.cells (A.show' (A.set (s) a.toNat X) X)), .int .i64 0]) ∧ Kept w w' := by
  go_enter Tryz.func33, Tryz.ntmps33
  go_wp2_with fail
  refine (HM.out _).mono ?_; rintro e w2 ⟨rfl, hK2⟩
  have hX : Has (w.heap.size + 2) (A.cells A.none') 26 w2 := (Has.new2 _ _ _ _ _).kept hK2
  have hR : Has w.heap.size (A.cells s) 26 w2 := (((Has.new _ _ _).alloc _).alloc _).kept hK2
  have hI := ((Has.new1 _ _ _ _).alloc _).kept hK2
  have hK := ((((Kept.refl w).alloc _ _).alloc _ _).alloc _ _).trans hK2
  have hl := hX.lt
  clear hK2
  have q0 := hI.cell 0 _ rfl
  have q3 := hI.cell 3 _ rfl
  have q4 := hI.cell 4 _ rfl
  have q5 := hI.cell 5 _ rfl
  have qb := hR.cell b.toNat _ (A.cell_r s b.toNat (by omega))
  have qc := hR.cell c.toNat _ (A.cell_r s c.toNat (by omega))
  rw [hbv] at qb
  rw [hcv] at qc
  replace hX := Lib.hid hX
  replace hR := Lib.hid hR
  replace hI := Lib.hid hI
  replace hK := Lib.hid hK
  go_upto_region 14 with (first
    | (with_reducible refine load_has (o := ⟨some 48, _, _, _, _, _⟩) rfl 26 _ rfl _ rfl hR.out Tryz.underlying26 rfl (A.info25 _) ?_)
    | (with_reducible refine store_last (o := ⟨none, Op.store 26 (.tmp 9) _, _, _, _, _⟩) rfl 26 _ _ rfl _ _ rfl rfl rfl (A.info25 _) (by kernel_rfl) (A.one_cells _) ?_))
  clear q0 q3 q4 q5 qb qc
  replace hX := hX.out.alloc (.cells (A.cells s) 26)
  replace hR := hR.out.alloc (.cells (A.cells s) 26)
  replace hI := hI.out.alloc (.cells (A.cells s) 26)
  replace hK := hK.out.alloc (A.cells s) 26
  have hT := Has.new (A.cells s) 26 w2
  generalize w2.heap.size = B9 at *
  generalize w2.alloc _ = w3 at *
  have q0 := hI.cell 0 _ rfl
  have q1 := hI.cell 1 _ rfl
  have q6 := hI.cell 6 _ rfl
  have qh := hR.cell 16 _ (A.cell_h s)
  have qq := hR.cell 19 _ (A.cell_c s)
  have t16 := hT.cell 16 _ (A.cell_h s)
  have t19 := hT.cell 19 _ (A.cell_c s)
  have t20 := hT.cell 20 _ (A.cell_v s)
  have f16 := hT.free 16
  have f19 := hT.free 19
  have f20 := hT.free 20
  replace hX := Lib.hid hX
  replace hR := Lib.hid hR
  replace hI := Lib.hid hI
  replace hK := Lib.hid hK
  replace hT := Lib.hid hT
  go_upto_region 38 with (fail)
  rw [HE.out]
  clear q0 q1 q6 qh qq t16 t19 t20 f16 f19 f20
  have q2 := hI.out.cell 2 _ rfl
  have ta := hT.out.cell a.toNat _ (A.cell_r (s) a.toNat (by omega))
  have fa := hT.out.free a.toNat
  go_upto_region 39 with (fail)
  clear q2 ta fa
  replace hT := Lib.hid (hT.out.set a.toNat (.int .u32 X))
  rw [A.set_r (s) a.toNat (by omega) X] at hT
  replace hX := Lib.hid (hX.out.other (p := ⟨B9, a.toNat, none⟩) (Nat.ne_of_lt hl) (.int .u32 X))
  replace hK := Lib.hid (hK.out.setCell (p := ⟨B9, a.toNat, none⟩) (by show w.heap.size ≤ B9; omega) (.int .u32 X))
  clear hI hR
  generalize World.setCell _ _ _ = w5 at *
  go_wp2_with (first
    | (with_reducible refine load_has (o := ⟨some 194, _, _, _, _, _⟩) rfl 26 _ rfl _ rfl hT.out Tryz.underlying26 rfl (A.info25 _) ?_)
    | (with_reducible refine store_has (o := ⟨none, Op.store 26 (.tmp 4) _, _, _, _, _⟩) rfl 26 _ _ rfl _ _ rfl rfl hX.out (A.info25 _) (by kernel_rfl) (A.one_cells _) ?_)
    | (go_at_call 49; (refine (rshow_any _ X hx0 hx1 _).mono ?_; rintro e w7 ⟨rfl, hK7⟩); (replace hX := Lib.hid (hX.out.kept hK7)); (replace hK := Lib.hid (hK.out.trans hK7)); clear hK7))
  exact bodyPost_ret (results_has2 rfl (w.heap.size + 2) rfl (hX.out.row _) Tryz.underlying26 rfl (A.info25 _)) rfl ⟨rfl, hK.out.row (by omega) _⟩
set_option maxRecDepth 100000 in
set_option maxHeartbeats 2000000 in
theorem rdo_1_6 (s : A.Regs) (a b c i bv cv X : Int) (u : Bool) (ha0 : 0 ≤ a) (ha1 : a < 16) (hb0 : 0 ≤ b) (hb1 : b < 16) (hc0 : 0 ≤ c) (hc1 : c < 16) (b0 : 0 ≤ bv) (b1 : bv < 4294967296) (n0 : 0 ≤ cv) (n1 : cv < 4294967296) (hbv : s.r b.toNat = bv) (hcv : s.r c.toNat = cv) (hx0 : 0 ≤ X) (hx1 : X < 4294967296) (w : World)
    (HM : Hid (∀ w, Calls Tryz.prog 41 #[.agg #[.int .i64 1, .int .i64 6, .int .i64 a, .int .i64 b, .int .i64 c, .int .i64 i, .bool u]] w fun e w' => e = .returned (.bool true) ∧ Kept w w'))
    (HE : Hid (bits BinOp.or IntKind.u32 bv cv = X)) :
    Calls Tryz.prog 33 #[.agg (A.cells s), .agg #[.int .i64 1, .int .i64 6, .int .i64 a, .int .i64 b, .int .i64 c, .int .i64 i, .bool u]] w fun e w' => e = .returned (.tuple #[.agg (A.cells (A.show' (A.set (s) a.toNat X) X)), .int .i64 0]) ∧ Kept w w' := by
  go_enter Tryz.func33, Tryz.ntmps33
  go_wp2_with fail
  refine (HM.out _).mono ?_; rintro e w2 ⟨rfl, hK2⟩
  have hX : Has (w.heap.size + 2) (A.cells A.none') 26 w2 := (Has.new2 _ _ _ _ _).kept hK2
  have hR : Has w.heap.size (A.cells s) 26 w2 := (((Has.new _ _ _).alloc _).alloc _).kept hK2
  have hI := ((Has.new1 _ _ _ _).alloc _).kept hK2
  have hK := ((((Kept.refl w).alloc _ _).alloc _ _).alloc _ _).trans hK2
  have hl := hX.lt
  clear hK2
  have q0 := hI.cell 0 _ rfl
  have q3 := hI.cell 3 _ rfl
  have q4 := hI.cell 4 _ rfl
  have q5 := hI.cell 5 _ rfl
  have qb := hR.cell b.toNat _ (A.cell_r s b.toNat (by omega))
  have qc := hR.cell c.toNat _ (A.cell_r s c.toNat (by omega))
  rw [hbv] at qb
  rw [hcv] at qc
  replace hX := Lib.hid hX
  replace hR := Lib.hid hR
  replace hI := Lib.hid hI
  replace hK := Lib.hid hK
  go_upto_region 14 with (first
    | (with_reducible refine load_has (o := ⟨some 48, _, _, _, _, _⟩) rfl 26 _ rfl _ rfl hR.out Tryz.underlying26 rfl (A.info25 _) ?_)
    | (with_reducible refine store_last (o := ⟨none, Op.store 26 (.tmp 9) _, _, _, _, _⟩) rfl 26 _ _ rfl _ _ rfl rfl rfl (A.info25 _) (by kernel_rfl) (A.one_cells _) ?_))
  clear q0 q3 q4 q5 qb qc
  replace hX := hX.out.alloc (.cells (A.cells s) 26)
  replace hR := hR.out.alloc (.cells (A.cells s) 26)
  replace hI := hI.out.alloc (.cells (A.cells s) 26)
  replace hK := hK.out.alloc (A.cells s) 26
  have hT := Has.new (A.cells s) 26 w2
  generalize w2.heap.size = B9 at *
  generalize w2.alloc _ = w3 at *
  have q0 := hI.cell 0 _ rfl
  have q1 := hI.cell 1 _ rfl
  have q6 := hI.cell 6 _ rfl
  have qh := hR.cell 16 _ (A.cell_h s)
  have qq := hR.cell 19 _ (A.cell_c s)
  have t16 := hT.cell 16 _ (A.cell_h s)
  have t19 := hT.cell 19 _ (A.cell_c s)
  have t20 := hT.cell 20 _ (A.cell_v s)
  have f16 := hT.free 16
  have f19 := hT.free 19
  have f20 := hT.free 20
  replace hX := Lib.hid hX
  replace hR := Lib.hid hR
  replace hI := Lib.hid hI
  replace hK := Lib.hid hK
  replace hT := Lib.hid hT
  go_upto_region 38 with (fail)
  rw [HE.out]
  clear q0 q1 q6 qh qq t16 t19 t20 f16 f19 f20
  have q2 := hI.out.cell 2 _ rfl
  have ta := hT.out.cell a.toNat _ (A.cell_r (s) a.toNat (by omega))
  have fa := hT.out.free a.toNat
  go_upto_region 39 with (fail)
  clear q2 ta fa
  replace hT := Lib.hid (hT.out.set a.toNat (.int .u32 X))
  rw [A.set_r (s) a.toNat (by omega) X] at hT
  replace hX := Lib.hid (hX.out.other (p := ⟨B9, a.toNat, none⟩) (Nat.ne_of_lt hl) (.int .u32 X))
  replace hK := Lib.hid (hK.out.setCell (p := ⟨B9, a.toNat, none⟩) (by show w.heap.size ≤ B9; omega) (.int .u32 X))
  clear hI hR
  generalize World.setCell _ _ _ = w5 at *
  go_wp2_with (first
    | (with_reducible refine load_has (o := ⟨some 194, _, _, _, _, _⟩) rfl 26 _ rfl _ rfl hT.out Tryz.underlying26 rfl (A.info25 _) ?_)
    | (with_reducible refine store_has (o := ⟨none, Op.store 26 (.tmp 4) _, _, _, _, _⟩) rfl 26 _ _ rfl _ _ rfl rfl hX.out (A.info25 _) (by kernel_rfl) (A.one_cells _) ?_)
    | (go_at_call 49; (refine (rshow_any _ X hx0 hx1 _).mono ?_; rintro e w7 ⟨rfl, hK7⟩); (replace hX := Lib.hid (hX.out.kept hK7)); (replace hK := Lib.hid (hK.out.trans hK7)); clear hK7))
  exact bodyPost_ret (results_has2 rfl (w.heap.size + 2) rfl (hX.out.row _) Tryz.underlying26 rfl (A.info25 _)) rfl ⟨rfl, hK.out.row (by omega) _⟩
set_option maxRecDepth 100000 in
set_option maxHeartbeats 2000000 in
theorem rdo_1_7 (s : A.Regs) (a b c i bv cv X : Int) (u : Bool) (ha0 : 0 ≤ a) (ha1 : a < 16) (hb0 : 0 ≤ b) (hb1 : b < 16) (hc0 : 0 ≤ c) (hc1 : c < 16) (b0 : 0 ≤ bv) (b1 : bv < 4294967296) (n0 : 0 ≤ cv) (n1 : cv < 4294967296) (hbv : s.r b.toNat = bv) (hcv : s.r c.toNat = cv) (hx0 : 0 ≤ X) (hx1 : X < 4294967296) (w : World)
    (HM : Hid (∀ w, Calls Tryz.prog 41 #[.agg #[.int .i64 1, .int .i64 7, .int .i64 a, .int .i64 b, .int .i64 c, .int .i64 i, .bool u]] w fun e w' => e = .returned (.bool true) ∧ Kept w w'))
    (HE : Hid ((bits BinOp.or IntKind.u32 bv cv - bits BinOp.and IntKind.u32 bv cv) % 4294967296 = X)) :
    Calls Tryz.prog 33 #[.agg (A.cells s), .agg #[.int .i64 1, .int .i64 7, .int .i64 a, .int .i64 b, .int .i64 c, .int .i64 i, .bool u]] w fun e w' => e = .returned (.tuple #[.agg (A.cells (A.show' (A.set (s) a.toNat X) X)), .int .i64 0]) ∧ Kept w w' := by
  go_enter Tryz.func33, Tryz.ntmps33
  go_wp2_with fail
  refine (HM.out _).mono ?_; rintro e w2 ⟨rfl, hK2⟩
  have hX : Has (w.heap.size + 2) (A.cells A.none') 26 w2 := (Has.new2 _ _ _ _ _).kept hK2
  have hR : Has w.heap.size (A.cells s) 26 w2 := (((Has.new _ _ _).alloc _).alloc _).kept hK2
  have hI := ((Has.new1 _ _ _ _).alloc _).kept hK2
  have hK := ((((Kept.refl w).alloc _ _).alloc _ _).alloc _ _).trans hK2
  have hl := hX.lt
  clear hK2
  have q0 := hI.cell 0 _ rfl
  have q3 := hI.cell 3 _ rfl
  have q4 := hI.cell 4 _ rfl
  have q5 := hI.cell 5 _ rfl
  have qb := hR.cell b.toNat _ (A.cell_r s b.toNat (by omega))
  have qc := hR.cell c.toNat _ (A.cell_r s c.toNat (by omega))
  rw [hbv] at qb
  rw [hcv] at qc
  replace hX := Lib.hid hX
  replace hR := Lib.hid hR
  replace hI := Lib.hid hI
  replace hK := Lib.hid hK
  go_upto_region 14 with (first
    | (with_reducible refine load_has (o := ⟨some 48, _, _, _, _, _⟩) rfl 26 _ rfl _ rfl hR.out Tryz.underlying26 rfl (A.info25 _) ?_)
    | (with_reducible refine store_last (o := ⟨none, Op.store 26 (.tmp 9) _, _, _, _, _⟩) rfl 26 _ _ rfl _ _ rfl rfl rfl (A.info25 _) (by kernel_rfl) (A.one_cells _) ?_))
  clear q0 q3 q4 q5 qb qc
  replace hX := hX.out.alloc (.cells (A.cells s) 26)
  replace hR := hR.out.alloc (.cells (A.cells s) 26)
  replace hI := hI.out.alloc (.cells (A.cells s) 26)
  replace hK := hK.out.alloc (A.cells s) 26
  have hT := Has.new (A.cells s) 26 w2
  generalize w2.heap.size = B9 at *
  generalize w2.alloc _ = w3 at *
  have q0 := hI.cell 0 _ rfl
  have q1 := hI.cell 1 _ rfl
  have q6 := hI.cell 6 _ rfl
  have qh := hR.cell 16 _ (A.cell_h s)
  have qq := hR.cell 19 _ (A.cell_c s)
  have t16 := hT.cell 16 _ (A.cell_h s)
  have t19 := hT.cell 19 _ (A.cell_c s)
  have t20 := hT.cell 20 _ (A.cell_v s)
  have f16 := hT.free 16
  have f19 := hT.free 19
  have f20 := hT.free 20
  replace hX := Lib.hid hX
  replace hR := Lib.hid hR
  replace hI := Lib.hid hI
  replace hK := Lib.hid hK
  replace hT := Lib.hid hT
  go_upto_region 38 with (fail)
  rw [HE.out]
  clear q0 q1 q6 qh qq t16 t19 t20 f16 f19 f20
  have q2 := hI.out.cell 2 _ rfl
  have ta := hT.out.cell a.toNat _ (A.cell_r (s) a.toNat (by omega))
  have fa := hT.out.free a.toNat
  go_upto_region 39 with (fail)
  clear q2 ta fa
  replace hT := Lib.hid (hT.out.set a.toNat (.int .u32 X))
  rw [A.set_r (s) a.toNat (by omega) X] at hT
  replace hX := Lib.hid (hX.out.other (p := ⟨B9, a.toNat, none⟩) (Nat.ne_of_lt hl) (.int .u32 X))
  replace hK := Lib.hid (hK.out.setCell (p := ⟨B9, a.toNat, none⟩) (by show w.heap.size ≤ B9; omega) (.int .u32 X))
  clear hI hR
  generalize World.setCell _ _ _ = w5 at *
  go_wp2_with (first
    | (with_reducible refine load_has (o := ⟨some 194, _, _, _, _, _⟩) rfl 26 _ rfl _ rfl hT.out Tryz.underlying26 rfl (A.info25 _) ?_)
    | (with_reducible refine store_has (o := ⟨none, Op.store 26 (.tmp 4) _, _, _, _, _⟩) rfl 26 _ _ rfl _ _ rfl rfl hX.out (A.info25 _) (by kernel_rfl) (A.one_cells _) ?_)
    | (go_at_call 49; (refine (rshow_any _ X hx0 hx1 _).mono ?_; rintro e w7 ⟨rfl, hK7⟩); (replace hX := Lib.hid (hX.out.kept hK7)); (replace hK := Lib.hid (hK.out.trans hK7)); clear hK7))
  exact bodyPost_ret (results_has2 rfl (w.heap.size + 2) rfl (hX.out.row _) Tryz.underlying26 rfl (A.info25 _)) rfl ⟨rfl, hK.out.row (by omega) _⟩
end Go.Proofs.YtlmddkciamdldaaGreat
