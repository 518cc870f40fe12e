/-
  The contract of rivetref03's Encode.
-/
import Derived.Test.YtliofphhoaopkaaIsaL
import Derived.Test.YtliofphhoaopkaaIsaM
import Derived.Test.YtliofphhoaopkaaIsaN
import Derived.Test.YtliofphhoaopkaaIsaC
namespace Go.Proofs.Ytliofphhoaopkaa
open Go.RowKit
set_option linter.unusedVariables false
set_option linter.unusedSimpArgs false
theorem rmay_any (k op a b c i : Int) (u : Bool) (w : World) :
    Calls Try.prog 17 #[.agg #[.int .i64 k, .int .i64 op, .int .i64 a, .int .i64 b, .int .i64 c, .int .i64 i, .bool u]] w fun e w' => e = .returned (.bool (I.may ⟨k, op, a, b, c, i, u⟩)) ∧ Kept w w' := by
  have RA := rreg_any a
  have RB := rreg_any b
  have RC := rreg_any c
  by_cases ha : 0 ≤ a ∧ a ≤ 15
  · rw [show I.reg a = true by unfold I.reg; rw [decide_eq_true ha.1, decide_eq_true ha.2]; rfl] at RA
    by_cases hb : 0 ≤ b ∧ b ≤ 15
    · rw [show I.reg b = true by unfold I.reg; rw [decide_eq_true hb.1, decide_eq_true hb.2]; rfl] at RB
      by_cases hc : 0 ≤ c ∧ c ≤ 15
      · rw [show I.reg c = true by unfold I.reg; rw [decide_eq_true hc.1, decide_eq_true hc.2]; rfl] at RC
        rcases I.kinds k with rfl | rfl | rfl | rfl | rfl | rfl | rfl | ⟨h1, h2, h3, h4, h5, h6, h7⟩
        · cases u
          · exact rmay_1f op a b c i w ha.1 ha.2 hb.1 hb.2 hc.1 hc.2 (Lib.hid RA) (Lib.hid RB) (Lib.hid RC)
          · exact rmay_1t op a b c i w ha.1 ha.2 hb.1 hb.2 hc.1 hc.2 (Lib.hid RA) (Lib.hid RB) (Lib.hid RC)
        · cases u
          · exact rmay_2f op a b c i w ha.1 ha.2 hb.1 hb.2 hc.1 hc.2 (Lib.hid RA) (Lib.hid RB) (Lib.hid RC)
          · exact rmay_2t op a b c i w ha.1 ha.2 hb.1 hb.2 hc.1 hc.2 (Lib.hid RA) (Lib.hid RB) (Lib.hid RC)
        · exact rmay_3 op a b c i u w ha.1 ha.2 hb.1 hb.2 hc.1 hc.2 (Lib.hid RA) (Lib.hid RB) (Lib.hid RC)
        · exact rmay_4 op a b c i u w ha.1 ha.2 hb.1 hb.2 hc.1 hc.2 (Lib.hid RA) (Lib.hid RB) (Lib.hid RC)
        · cases u
          · exact rmay_5f op a b c i w ha.1 ha.2 hb.1 hb.2 hc.1 hc.2 (Lib.hid RA) (Lib.hid RB) (Lib.hid RC)
          · exact rmay_5t op a b c i w ha.1 ha.2 hb.1 hb.2 hc.1 hc.2 (Lib.hid RA) (Lib.hid RB) (Lib.hid RC)
        · exact rmay_6 op a b c i u w ha.1 ha.2 hb.1 hb.2 hc.1 hc.2 (Lib.hid RA) (Lib.hid RB) (Lib.hid RC)
        · exact rmay_7 op a b c i u w ha.1 ha.2 hb.1 hb.2 hc.1 hc.2 (Lib.hid RA) (Lib.hid RB) (Lib.hid RC)
        · exact rmay_k k op a b c i u w h1 h2 h3 h4 h5 h6 h7 ha.1 ha.2 hb.1 hb.2 hc.1 hc.2 (Lib.hid RA) (Lib.hid RB) (Lib.hid RC)
      · rw [show I.reg c = false by unfold I.reg; rw [Bool.and_eq_false_iff, decide_eq_false_iff_not, decide_eq_false_iff_not]; omega] at RC
        rw [show I.may ⟨k, op, a, b, c, i, u⟩ = false from decide_eq_false (fun h => hc ⟨h.1.2.2.2.2.1, h.1.2.2.2.2.2⟩)]
        exact rmay_r2 k op a b c i u w (Lib.hid RA) (Lib.hid RB) (Lib.hid RC)
    · rw [show I.reg b = false by unfold I.reg; rw [Bool.and_eq_false_iff, decide_eq_false_iff_not, decide_eq_false_iff_not]; omega] at RB
      rw [show I.may ⟨k, op, a, b, c, i, u⟩ = false from decide_eq_false (fun h => hb ⟨h.1.2.2.1, h.1.2.2.2.1⟩)]
      exact rmay_r1 k op a b c i u w (Lib.hid RA) (Lib.hid RB)
  · rw [show I.reg a = false by unfold I.reg; rw [Bool.and_eq_false_iff, decide_eq_false_iff_not, decide_eq_false_iff_not]; omega] at RA
    rw [show I.may ⟨k, op, a, b, c, i, u⟩ = false from decide_eq_false (fun h => ha ⟨h.1.1, h.1.2.1⟩)]
    exact rmay_r0 k op a b c i u w (Lib.hid RA)
set_option maxRecDepth 100000 in
set_option maxHeartbeats 2000000 in
theorem renc_1 (op a b c i B r : Int) (u : Bool) (w : World) (B0 : 0 ≤ B) (B1 : B ≤ 1)
    (a0 : 0 ≤ a) (a1 : a ≤ 15) (b0 : 0 ≤ b) (b1 : b ≤ 15) (c0 : 0 ≤ c) (c1 : c ≤ 15) (o0 : 0 ≤ op) (o1 : op ≤ 15)
    (HM : Hid (∀ w, Calls Try.prog 17 #[.agg #[.int .i64 1, .int .i64 op, .int .i64 a, .int .i64 b, .int .i64 c, .int .i64 i, .bool u]] w fun e w' => e = .returned (.bool true) ∧ Kept w w'))
    (HO : Hid (∀ w, Calls Try.prog 22 #[.bool u] w fun e w' => e = .returned (.int .u32 B) ∧ w = w')) (HR : Hid (bits .or .u32 (bits .or .u32 (bits .or .u32 (bits .or .u32 (B * 536870912) (a * 16777216)) (b * 1048576)) (op * 65536)) (c) = r)) :
    Calls Try.prog 13 #[.agg #[.int .i64 1, .int .i64 op, .int .i64 a, .int .i64 b, .int .i64 c, .int .i64 i, .bool u]] w fun e w' => e = .returned (.tuple #[.int .u32 r, .int .i64 0]) ∧ Kept w w' := by
  have X0 := Lib.hid (Box.new 1 op a b c i u w)
  have H0 := Lib.hid (show Kept w (w.alloc (.cells #[.int .i64 1, .int .i64 op, .int .i64 a, .int .i64 b, .int .i64 c, .int .i64 i, .bool u] 23)) from (Kept.refl w).alloc _ _)
  go_enter Try.func13, Try.ntmps13
  go_wp2_with fail
  refine (HM.out _).mono ?_; rintro e w1 ⟨rfl, hK1⟩
  obtain ⟨j0, j1, j2, j3, j4, j5, j6⟩ := (X0.out.kept hK1).cells
  replace H0 := Lib.hid (H0.out.trans hK1)
  replace X0 := Lib.hid (X0.out.kept hK1)
  clear hK1
  go_wp2_with fail
  refine (HO.out _).mono ?_; rintro e w2 ⟨rfl, rfl⟩
  go_wp2_with fail
  have hR := HR.out
  simp only [hR]
  exact bodyPost_ret (v := .tuple #[.int .u32 r, .int .i64 0]) (by simp [results, Try.results13, go_sem]) rfl ⟨rfl, H0.out⟩
set_option maxRecDepth 100000 in
set_option maxHeartbeats 2000000 in
theorem renc_2 (op a b c i B S r : Int) (u : Bool) (w : World) (B0 : 0 ≤ B) (B1 : B ≤ 1)
    (a0 : 0 ≤ a) (a1 : a ≤ 15) (b0 : 0 ≤ b) (b1 : b ≤ 15) (c0 : 0 ≤ c) (c1 : c ≤ 15) (o0 : 0 ≤ op) (o1 : op ≤ 15)
    (HM : Hid (∀ w, Calls Try.prog 17 #[.agg #[.int .i64 2, .int .i64 op, .int .i64 a, .int .i64 b, .int .i64 c, .int .i64 i, .bool u]] w fun e w' => e = .returned (.bool true) ∧ Kept w w'))
    (HO : Hid (∀ w, Calls Try.prog 22 #[.bool u] w fun e w' => e = .returned (.int .u32 B) ∧ w = w')) (HR : Hid (bits .or .u32 (bits .or .u32 (bits .or .u32 (bits .or .u32 (bits .or .u32 (bits .or .u32 (1073741824) (IntKind.u32.wrap (B * 536870912))) (IntKind.u32.wrap (S * 268435456))) (a * 16777216)) (b * 1048576)) (op * 65536)) ((IntKind.u32.wrap i).tmod 65536) = r)) (HS : Hid (∀ w, Calls Try.prog 22 #[.bool (decide (i < 0))] w fun e w' => e = .returned (.int .u32 S) ∧ w = w')) (S0 : 0 ≤ S) (S1 : S ≤ 1) :
    Calls Try.prog 13 #[.agg #[.int .i64 2, .int .i64 op, .int .i64 a, .int .i64 b, .int .i64 c, .int .i64 i, .bool u]] w fun e w' => e = .returned (.tuple #[.int .u32 r, .int .i64 0]) ∧ Kept w w' := by
  have X0 := Lib.hid (Box.new 2 op a b c i u w)
  have H0 := Lib.hid (show Kept w (w.alloc (.cells #[.int .i64 2, .int .i64 op, .int .i64 a, .int .i64 b, .int .i64 c, .int .i64 i, .bool u] 23)) from (Kept.refl w).alloc _ _)
  go_enter Try.func13, Try.ntmps13
  go_wp2_with fail
  refine (HM.out _).mono ?_; rintro e w1 ⟨rfl, hK1⟩
  obtain ⟨j0, j1, j2, j3, j4, j5, j6⟩ := (X0.out.kept hK1).cells
  replace H0 := Lib.hid (H0.out.trans hK1)
  replace X0 := Lib.hid (X0.out.kept hK1)
  clear hK1
  go_wp2_with fail
  refine (HO.out _).mono ?_; rintro e w2 ⟨rfl, rfl⟩
  go_wp2_with fail
  clear j0 j1 j2 j3 j4 j5 j6
  have hK5 := (Kept.refl w1).drew
  refine wp_region_held_drew (S := fun w' => w'.cell? ⟨w.heap.size, 0, none⟩ = some (.int .i64 2) ∧ w'.cell? ⟨w.heap.size, 1, none⟩ = some (.int .i64 op) ∧ w'.cell? ⟨w.heap.size, 2, none⟩ = some (.int .i64 a) ∧ w'.cell? ⟨w.heap.size, 3, none⟩ = some (.int .i64 b) ∧ w'.cell? ⟨w.heap.size, 4, none⟩ = some (.int .i64 c) ∧ w'.cell? ⟨w.heap.size, 5, none⟩ = some (.int .i64 i) ∧ w'.cell? ⟨w.heap.size, 6, none⟩ = some (.bool u)) (by kernel_rfl) ?_ (fun hHeld => ?_)
  · exact (X0.out.kept hK5).cells
  refine wpAnyH_take (i := 0) (oi := { dst := some 49, op := Op.move (Operand.tmp 8), type := 24, pos := "ref.go:80", after := #[], guard := none }) (v := ?_) rfl (by kernel_rfl) (by kernel_rfl) (by kernel_rfl) (fun _ _ _ h => h) (Or.inl ⟨rfl, ?_⟩) hHeld ?_
  rotate_left
  · (intro w hSw; (try dsimp only at hSw); go_simp; try with_reducible rfl)
  try simp only [Act.put, List.setIfInBounds_toArray, List.set_cons_zero, List.set_cons_succ]
  refine wpAnyH_take (i := 1) (oi := { dst := some 50, op := Op.binOp BinOp.shl 24 (Operand.tmp 49) (Operand.const (Value.int IntKind.u64 29)) 40, type := 24, pos := "ref.go:80", after := #[{ on := 0, ground := Ground.data }], guard := none }) (v := ?_) rfl (by kernel_rfl) (by kernel_rfl) (by kernel_rfl) (fun _ _ _ h => h) (Or.inl ⟨rfl, ?_⟩) hHeld ?_
  rotate_left
  · (intro w hSw; (try dsimp only at hSw); go_simp; try with_reducible rfl)
  try simp only [Act.put, List.setIfInBounds_toArray, List.set_cons_zero, List.set_cons_succ]
  refine wpAnyH_take (i := 2) (oi := { dst := some 51, op := Op.binOp BinOp.or 24 (Operand.const (Value.int IntKind.u32 1073741824)) (Operand.tmp 50) 24, type := 24, pos := "ref.go:80", after := #[{ on := 1, ground := Ground.data }], guard := none }) (v := ?_) rfl (by kernel_rfl) (by kernel_rfl) (by kernel_rfl) (fun _ _ _ h => h) (Or.inl ⟨rfl, ?_⟩) hHeld ?_
  rotate_left
  · (intro w hSw; (try dsimp only at hSw); go_simp; try with_reducible rfl)
  try simp only [Act.put, List.setIfInBounds_toArray, List.set_cons_zero, List.set_cons_succ]
  refine wpAnyH_take (i := 3) (oi := { dst := some 52, op := Op.fieldAddr 23 (Operand.tmp 1) 5, type := 0, pos := "ref.go:80", after := #[], guard := none }) (v := ?_) rfl (by kernel_rfl) (by kernel_rfl) (by kernel_rfl) (fun _ _ _ h => h) (Or.inl ⟨rfl, ?_⟩) hHeld ?_
  rotate_left
  · (intro w hSw; (try dsimp only at hSw); go_simp; try with_reducible rfl)
  try simp only [Act.put, List.setIfInBounds_toArray, List.set_cons_zero, List.set_cons_succ]
  refine wpAnyH_take (i := 4) (oi := { dst := some 53, op := Op.load 3 (Operand.tmp 52), type := 3, pos := "ref.go:80", after := #[{ on := 3, ground := Ground.data }], guard := none }) (v := ?_) rfl (by kernel_rfl) (by kernel_rfl) (by kernel_rfl) (fun _ _ _ h => h) (Or.inl ⟨rfl, ?_⟩) hHeld ?_
  rotate_left
  · (intro w hSw; (try dsimp only at hSw); go_simp; try with_reducible rfl)
  try simp only [Act.put, List.setIfInBounds_toArray, List.set_cons_zero, List.set_cons_succ]
  refine wpAnyH_take (i := 5) (oi := { dst := some 54, op := Op.binOp BinOp.lss 3 (Operand.tmp 53) (Operand.const (Value.int IntKind.i64 0)) 3, type := 4, pos := "ref.go:80", after := #[{ on := 4, ground := Ground.data }], guard := none }) (v := ?_) rfl (by kernel_rfl) (by kernel_rfl) (by kernel_rfl) (fun _ _ _ h => h) (Or.inl ⟨rfl, ?_⟩) hHeld ?_
  rotate_left
  · (intro w hSw; (try dsimp only at hSw); go_simp; try with_reducible rfl)
  try simp only [Act.put, List.setIfInBounds_toArray, List.set_cons_zero, List.set_cons_succ]
  refine wpAnyH_take (i := 9) (oi := { dst := some 58, op := Op.move (Operand.tmp 4), type := 24, pos := "ref.go:80", after := #[], guard := none }) (v := ?_) rfl (by kernel_rfl) (by kernel_rfl) (by kernel_rfl) (fun _ _ _ h => h) (Or.inl ⟨rfl, ?_⟩) hHeld ?_
  rotate_left
  · (intro w hSw; (try dsimp only at hSw); go_simp; try with_reducible rfl)
  try simp only [Act.put, List.setIfInBounds_toArray, List.set_cons_zero, List.set_cons_succ]
  refine wpAnyH_take (i := 11) (oi := { dst := some 60, op := Op.move (Operand.tmp 5), type := 24, pos := "ref.go:80", after := #[], guard := none }) (v := ?_) rfl (by kernel_rfl) (by kernel_rfl) (by kernel_rfl) (fun _ _ _ h => h) (Or.inl ⟨rfl, ?_⟩) hHeld ?_
  rotate_left
  · (intro w hSw; (try dsimp only at hSw); go_simp; try with_reducible rfl)
  try simp only [Act.put, List.setIfInBounds_toArray, List.set_cons_zero, List.set_cons_succ]
  refine wpAnyH_take (i := 13) (oi := { dst := some 62, op := Op.move (Operand.tmp 6), type := 24, pos := "ref.go:80", after := #[], guard := none }) (v := ?_) rfl (by kernel_rfl) (by kernel_rfl) (by kernel_rfl) (fun _ _ _ h => h) (Or.inl ⟨rfl, ?_⟩) hHeld ?_
  rotate_left
  · (intro w hSw; (try dsimp only at hSw); go_simp; try with_reducible rfl)
  try simp only [Act.put, List.setIfInBounds_toArray, List.set_cons_zero, List.set_cons_succ]
  refine wpAnyH_take (i := 15) (oi := { dst := some 64, op := Op.fieldAddr 23 (Operand.tmp 1) 5, type := 0, pos := "ref.go:80", after := #[], guard := none }) (v := ?_) rfl (by kernel_rfl) (by kernel_rfl) (by kernel_rfl) (fun _ _ _ h => h) (Or.inl ⟨rfl, ?_⟩) hHeld ?_
  rotate_left
  · (intro w hSw; (try dsimp only at hSw); go_simp; try with_reducible rfl)
  try simp only [Act.put, List.setIfInBounds_toArray, List.set_cons_zero, List.set_cons_succ]
  refine wpAnyH_take (i := 16) (oi := { dst := some 65, op := Op.load 3 (Operand.tmp 64), type := 3, pos := "ref.go:80", after := #[{ on := 15, ground := Ground.data }], guard := none }) (v := ?_) rfl (by kernel_rfl) (by kernel_rfl) (by kernel_rfl) (fun _ _ _ h => h) (Or.inl ⟨rfl, ?_⟩) hHeld ?_
  rotate_left
  · (intro w hSw; (try dsimp only at hSw); go_simp; try with_reducible rfl)
  try simp only [Act.put, List.setIfInBounds_toArray, List.set_cons_zero, List.set_cons_succ]
  refine wpAnyH_take (i := 17) (oi := { dst := some 66, op := Op.convert 3 24 (Operand.tmp 65), type := 24, pos := "ref.go:80", after := #[{ on := 16, ground := Ground.data }], guard := none }) (v := ?_) rfl (by kernel_rfl) (by kernel_rfl) (by kernel_rfl) (fun _ _ _ h => h) (Or.inl ⟨rfl, ?_⟩) hHeld ?_
  rotate_left
  · (intro w hSw; (try dsimp only at hSw); go_simp; try with_reducible rfl)
  try simp only [Act.put, List.setIfInBounds_toArray, List.set_cons_zero, List.set_cons_succ]
  refine wpAnyH_take (i := 18) (oi := { dst := some 67, op := Op.binOp BinOp.rem 24 (Operand.tmp 66) (Operand.const (Value.int IntKind.u32 65536)) 24, type := 24, pos := "ref.go:80", after := #[{ on := 17, ground := Ground.data }], guard := none }) (v := ?_) rfl (by kernel_rfl) (by kernel_rfl) (by kernel_rfl) (fun _ _ _ h => h) (Or.inl ⟨rfl, ?_⟩) hHeld ?_
  rotate_left
  · (intro w hSw; (try dsimp only at hSw); go_simp; try with_reducible rfl)
  try simp only [Act.put, List.setIfInBounds_toArray, List.set_cons_zero, List.set_cons_succ]
  refine wpAnyH_ready (rs := [6]) (by kernel_rfl) (by simp) ?_
  refine AllReadyH.cons (o := { dst := some 55, op := Op.call { callee := Callee.value (Operand.func 22), args := #[Operand.tmp 54], argTypes := #[4] }, type := 24, pos := "ref.go:80", after := #[{ on := 5, ground := Ground.data }], guard := none }) rfl (fun K hK => ?_) AllReadyH.nil
  go_simp
  go_at_call 22
  refine (HS.out _).mono ?_
  rintro e w9 ⟨rfl, rfl⟩
  clear hHeld
  refine hK.out _ _ ?_ (fun hHeld => ?_)
  · exact (X0.out.kept hK5).cells
  clear hK K
  try simp only [Act.put, List.setIfInBounds_toArray, List.set_cons_zero, List.set_cons_succ]
  refine wpAnyH_take (i := 7) (oi := { dst := some 56, op := Op.binOp BinOp.shl 24 (Operand.tmp 55) (Operand.const (Value.int IntKind.u64 28)) 40, type := 24, pos := "ref.go:80", after := #[{ on := 6, ground := Ground.data }], guard := none }) (v := ?_) rfl (by kernel_rfl) (by kernel_rfl) (by kernel_rfl) (fun _ _ _ h => h) (Or.inl ⟨rfl, ?_⟩) hHeld ?_
  rotate_left
  · (intro w hSw; (try dsimp only at hSw); go_simp; try with_reducible rfl)
  try simp only [Act.put, List.setIfInBounds_toArray, List.set_cons_zero, List.set_cons_succ]
  refine wpAnyH_take (i := 8) (oi := { dst := some 57, op := Op.binOp BinOp.or 24 (Operand.tmp 51) (Operand.tmp 56) 24, type := 24, pos := "ref.go:80", after := #[{ on := 2, ground := Ground.data }, { on := 7, ground := Ground.data }], guard := none }) (v := ?_) rfl (by kernel_rfl) (by kernel_rfl) (by kernel_rfl) (fun _ _ _ h => h) (Or.inl ⟨rfl, ?_⟩) hHeld ?_
  rotate_left
  · (intro w hSw; (try dsimp only at hSw); go_simp; try with_reducible rfl)
  try simp only [Act.put, List.setIfInBounds_toArray, List.set_cons_zero, List.set_cons_succ]
  refine wpAnyH_take (i := 10) (oi := { dst := some 59, op := Op.binOp BinOp.or 24 (Operand.tmp 57) (Operand.tmp 58) 24, type := 24, pos := "ref.go:80", after := #[{ on := 8, ground := Ground.data }, { on := 9, ground := Ground.data }], guard := none }) (v := ?_) rfl (by kernel_rfl) (by kernel_rfl) (by kernel_rfl) (fun _ _ _ h => h) (Or.inl ⟨rfl, ?_⟩) hHeld ?_
  rotate_left
  · (intro w hSw; (try dsimp only at hSw); go_simp; try with_reducible rfl)
  try simp only [Act.put, List.setIfInBounds_toArray, List.set_cons_zero, List.set_cons_succ]
  refine wpAnyH_take (i := 12) (oi := { dst := some 61, op := Op.binOp BinOp.or 24 (Operand.tmp 59) (Operand.tmp 60) 24, type := 24, pos := "ref.go:80", after := #[{ on := 10, ground := Ground.data }, { on := 11, ground := Ground.data }], guard := none }) (v := ?_) rfl (by kernel_rfl) (by kernel_rfl) (by kernel_rfl) (fun _ _ _ h => h) (Or.inl ⟨rfl, ?_⟩) hHeld ?_
  rotate_left
  · (intro w hSw; (try dsimp only at hSw); go_simp; try with_reducible rfl)
  try simp only [Act.put, List.setIfInBounds_toArray, List.set_cons_zero, List.set_cons_succ]
  refine wpAnyH_take (i := 14) (oi := { dst := some 63, op := Op.binOp BinOp.or 24 (Operand.tmp 61) (Operand.tmp 62) 24, type := 24, pos := "ref.go:80", after := #[{ on := 12, ground := Ground.data }, { on := 13, ground := Ground.data }], guard := none }) (v := ?_) rfl (by kernel_rfl) (by kernel_rfl) (by kernel_rfl) (fun _ _ _ h => h) (Or.inl ⟨rfl, ?_⟩) hHeld ?_
  rotate_left
  · (intro w hSw; (try dsimp only at hSw); go_simp; try with_reducible rfl)
  try simp only [Act.put, List.setIfInBounds_toArray, List.set_cons_zero, List.set_cons_succ]
  refine wpAnyH_take (i := 19) (oi := { dst := some 68, op := Op.binOp BinOp.or 24 (Operand.tmp 63) (Operand.tmp 67) 24, type := 24, pos := "ref.go:80", after := #[{ on := 14, ground := Ground.data }, { on := 18, ground := Ground.data }], guard := none }) (v := ?_) rfl (by kernel_rfl) (by kernel_rfl) (by kernel_rfl) (fun _ _ _ h => h) (Or.inl ⟨rfl, ?_⟩) hHeld ?_
  rotate_left
  · (intro w hSw; (try dsimp only at hSw); go_simp; try with_reducible rfl)
  try simp only [Act.put, List.setIfInBounds_toArray, List.set_cons_zero, List.set_cons_succ]
  refine wpAnyH_take (i := 20) (oi := { dst := some 2, op := Op.assign (Operand.tmp 68), type := 24, pos := "ref.go:80", after := #[{ on := 19, ground := Ground.data }, { on := 6, ground := Ground.chain }, { on := 0, ground := Ground.phase }, { on := 1, ground := Ground.phase }, { on := 2, ground := Ground.phase }, { on := 3, ground := Ground.phase }, { on := 4, ground := Ground.phase }, { on := 5, ground := Ground.phase }, { on := 6, ground := Ground.phase }, { on := 7, ground := Ground.phase }, { on := 8, ground := Ground.phase }, { on := 9, ground := Ground.phase }, { on := 10, ground := Ground.phase }, { on := 11, ground := Ground.phase }, { on := 12, ground := Ground.phase }, { on := 13, ground := Ground.phase }, { on := 14, ground := Ground.phase }, { on := 15, ground := Ground.phase }, { on := 16, ground := Ground.phase }, { on := 17, ground := Ground.phase }, { on := 18, ground := Ground.phase }, { on := 19, ground := Ground.phase }], guard := none }) (v := ?_) rfl (by kernel_rfl) (by kernel_rfl) (by kernel_rfl) (fun _ _ _ h => h) (Or.inl ⟨rfl, ?_⟩) hHeld ?_
  rotate_left
  · (intro w hSw; (try dsimp only at hSw); go_simp; try with_reducible rfl)
  try simp only [Act.put, List.setIfInBounds_toArray, List.set_cons_zero, List.set_cons_succ]
  refine wpAnyH_take (i := 21) (oi := { dst := some 3, op := Op.assign (Operand.const (Value.int IntKind.i64 0)), type := 26, pos := "ref.go:80", after := #[{ on := 20, ground := Ground.chain }, { on := 0, ground := Ground.phase }, { on := 1, ground := Ground.phase }, { on := 2, ground := Ground.phase }, { on := 3, ground := Ground.phase }, { on := 4, ground := Ground.phase }, { on := 5, ground := Ground.phase }, { on := 6, ground := Ground.phase }, { on := 7, ground := Ground.phase }, { on := 8, ground := Ground.phase }, { on := 9, ground := Ground.phase }, { on := 10, ground := Ground.phase }, { on := 11, ground := Ground.phase }, { on := 12, ground := Ground.phase }, { on := 13, ground := Ground.phase }, { on := 14, ground := Ground.phase }, { on := 15, ground := Ground.phase }, { on := 16, ground := Ground.phase }, { on := 17, ground := Ground.phase }, { on := 18, ground := Ground.phase }, { on := 19, ground := Ground.phase }, { on := 20, ground := Ground.phase }], guard := none }) (v := ?_) rfl (by kernel_rfl) (by kernel_rfl) (by kernel_rfl) (fun _ _ _ h => h) (Or.inl ⟨rfl, ?_⟩) hHeld ?_
  rotate_left
  · (intro w hSw; (try dsimp only at hSw); go_simp; try with_reducible rfl)
  try simp only [Act.put, List.setIfInBounds_toArray, List.set_cons_zero, List.set_cons_succ]
  refine wpAnyH_done (by kernel_rfl) ?_ _
  go_wp2_with fail
  have hR := HR.out
  simp only [hR]
  exact bodyPost_ret (v := .tuple #[.int .u32 r, .int .i64 0]) (by simp [results, Try.results13, go_sem]) rfl ⟨rfl, H0.out.trans hK5⟩
set_option maxRecDepth 100000 in
set_option maxHeartbeats 2000000 in
theorem renc_3 (op a b c i B r : Int) (u : Bool) (w : World) (B0 : 0 ≤ B) (B1 : B ≤ 1)
    (a0 : 0 ≤ a) (a1 : a ≤ 15) (b0 : 0 ≤ b) (b1 : b ≤ 15) (c0 : 0 ≤ c) (c1 : c ≤ 15) (o0 : 0 ≤ op) (o1 : op ≤ 15)
    (HM : Hid (∀ w, Calls Try.prog 17 #[.agg #[.int .i64 3, .int .i64 op, .int .i64 a, .int .i64 b, .int .i64 c, .int .i64 i, .bool u]] w fun e w' => e = .returned (.bool true) ∧ Kept w w'))
    (HO : Hid (∀ w, Calls Try.prog 22 #[.bool u] w fun e w' => e = .returned (.int .u32 B) ∧ w = w')) (HR : Hid (bits .or .u32 (536870912) (a * 16777216) = r)) :
    Calls Try.prog 13 #[.agg #[.int .i64 3, .int .i64 op, .int .i64 a, .int .i64 b, .int .i64 c, .int .i64 i, .bool u]] w fun e w' => e = .returned (.tuple #[.int .u32 r, .int .i64 0]) ∧ Kept w w' := by
  have X0 := Lib.hid (Box.new 3 op a b c i u w)
  have H0 := Lib.hid (show Kept w (w.alloc (.cells #[.int .i64 3, .int .i64 op, .int .i64 a, .int .i64 b, .int .i64 c, .int .i64 i, .bool u] 23)) from (Kept.refl w).alloc _ _)
  go_enter Try.func13, Try.ntmps13
  go_wp2_with fail
  refine (HM.out _).mono ?_; rintro e w1 ⟨rfl, hK1⟩
  obtain ⟨j0, j1, j2, j3, j4, j5, j6⟩ := (X0.out.kept hK1).cells
  replace H0 := Lib.hid (H0.out.trans hK1)
  replace X0 := Lib.hid (X0.out.kept hK1)
  clear hK1
  go_wp2_with fail
  refine (HO.out _).mono ?_; rintro e w2 ⟨rfl, rfl⟩
  go_wp2_with fail
  have hR := HR.out
  simp only [hR]
  exact bodyPost_ret (v := .tuple #[.int .u32 r, .int .i64 0]) (by simp [results, Try.results13, go_sem]) rfl ⟨rfl, H0.out⟩
set_option maxRecDepth 100000 in
set_option maxHeartbeats 2000000 in
theorem renc_4 (op a b c i B r : Int) (u : Bool) (w : World) (B0 : 0 ≤ B) (B1 : B ≤ 1)
    (a0 : 0 ≤ a) (a1 : a ≤ 15) (b0 : 0 ≤ b) (b1 : b ≤ 15) (c0 : 0 ≤ c) (c1 : c ≤ 15) (o0 : 0 ≤ op) (o1 : op ≤ 15)
    (HM : Hid (∀ w, Calls Try.prog 17 #[.agg #[.int .i64 4, .int .i64 op, .int .i64 a, .int .i64 b, .int .i64 c, .int .i64 i, .bool u]] w fun e w' => e = .returned (.bool true) ∧ Kept w w'))
    (HO : Hid (∀ w, Calls Try.prog 22 #[.bool u] w fun e w' => e = .returned (.int .u32 B) ∧ w = w')) (HR : Hid (bits .or .u32 (805306368) (a * 16777216) = r)) :
    Calls Try.prog 13 #[.agg #[.int .i64 4, .int .i64 op, .int .i64 a, .int .i64 b, .int .i64 c, .int .i64 i, .bool u]] w fun e w' => e = .returned (.tuple #[.int .u32 r, .int .i64 0]) ∧ Kept w w' := by
  have X0 := Lib.hid (Box.new 4 op a b c i u w)
  have H0 := Lib.hid (show Kept w (w.alloc (.cells #[.int .i64 4, .int .i64 op, .int .i64 a, .int .i64 b, .int .i64 c, .int .i64 i, .bool u] 23)) from (Kept.refl w).alloc _ _)
  go_enter Try.func13, Try.ntmps13
  go_wp2_with fail
  refine (HM.out _).mono ?_; rintro e w1 ⟨rfl, hK1⟩
  obtain ⟨j0, j1, j2, j3, j4, j5, j6⟩ := (X0.out.kept hK1).cells
  replace H0 := Lib.hid (H0.out.trans hK1)
  replace X0 := Lib.hid (X0.out.kept hK1)
  clear hK1
  go_wp2_with fail
  refine (HO.out _).mono ?_; rintro e w2 ⟨rfl, rfl⟩
  go_wp2_with fail
  have hR := HR.out
  simp only [hR]
  exact bodyPost_ret (v := .tuple #[.int .u32 r, .int .i64 0]) (by simp [results, Try.results13, go_sem]) rfl ⟨rfl, H0.out⟩
set_option maxRecDepth 100000 in
set_option maxHeartbeats 2000000 in
theorem renc_5 (op a b c i B S T r : Int) (u : Bool) (w : World) (B0 : 0 ≤ B) (B1 : B ≤ 1)
    (a0 : 0 ≤ a) (a1 : a ≤ 15) (b0 : 0 ≤ b) (b1 : b ≤ 15) (c0 : 0 ≤ c) (c1 : c ≤ 15) (o0 : 0 ≤ op) (o1 : op ≤ 15)
    (HM : Hid (∀ w, Calls Try.prog 17 #[.agg #[.int .i64 5, .int .i64 op, .int .i64 a, .int .i64 b, .int .i64 c, .int .i64 i, .bool u]] w fun e w' => e = .returned (.bool true) ∧ Kept w w'))
    (HO : Hid (∀ w, Calls Try.prog 22 #[.bool u] w fun e w' => e = .returned (.int .u32 B) ∧ w = w')) (HR : Hid (bits .or .u32 (bits .or .u32 (bits .or .u32 (bits .or .u32 (bits .or .u32 (2147483648) (IntKind.u32.wrap (S * 536870912))) (IntKind.u32.wrap (T * 268435456))) (a * 16777216)) (b * 1048576)) ((IntKind.u32.wrap i).tmod 1048576) = r)) (HS : Hid (∀ w, Calls Try.prog 22 #[.bool (decide (2 ≤ op))] w fun e w' => e = .returned (.int .u32 S) ∧ w = w')) (S0 : 0 ≤ S) (S1 : S ≤ 1) (HT : Hid (∀ w, Calls Try.prog 22 #[.bool (op.tmod 2 == 1)] w fun e w' => e = .returned (.int .u32 T) ∧ w = w')) (T0 : 0 ≤ T) (T1 : T ≤ 1) :
    Calls Try.prog 13 #[.agg #[.int .i64 5, .int .i64 op, .int .i64 a, .int .i64 b, .int .i64 c, .int .i64 i, .bool u]] w fun e w' => e = .returned (.tuple #[.int .u32 r, .int .i64 0]) ∧ Kept w w' := by
  have X0 := Lib.hid (Box.new 5 op a b c i u w)
  have H0 := Lib.hid (show Kept w (w.alloc (.cells #[.int .i64 5, .int .i64 op, .int .i64 a, .int .i64 b, .int .i64 c, .int .i64 i, .bool u] 23)) from (Kept.refl w).alloc _ _)
  go_enter Try.func13, Try.ntmps13
  go_wp2_with fail
  refine (HM.out _).mono ?_; rintro e w1 ⟨rfl, hK1⟩
  obtain ⟨j0, j1, j2, j3, j4, j5, j6⟩ := (X0.out.kept hK1).cells
  replace H0 := Lib.hid (H0.out.trans hK1)
  replace X0 := Lib.hid (X0.out.kept hK1)
  clear hK1
  go_wp2_with fail
  refine (HO.out _).mono ?_; rintro e w2 ⟨rfl, rfl⟩
  go_wp2_with fail
  clear j0 j1 j2 j3 j4 j5 j6
  have hK5 := (Kept.refl w1).drew
  refine wp_region_held_drew (S := fun w' => w'.cell? ⟨w.heap.size, 0, none⟩ = some (.int .i64 5) ∧ w'.cell? ⟨w.heap.size, 1, none⟩ = some (.int .i64 op) ∧ w'.cell? ⟨w.heap.size, 2, none⟩ = some (.int .i64 a) ∧ w'.cell? ⟨w.heap.size, 3, none⟩ = some (.int .i64 b) ∧ w'.cell? ⟨w.heap.size, 4, none⟩ = some (.int .i64 c) ∧ w'.cell? ⟨w.heap.size, 5, none⟩ = some (.int .i64 i) ∧ w'.cell? ⟨w.heap.size, 6, none⟩ = some (.bool u)) (by kernel_rfl) ?_ (fun hHeld => ?_)
  · exact (X0.out.kept hK5).cells
  refine wpAnyH_take (i := 0) (oi := { dst := some 79, op := Op.fieldAddr 23 (Operand.tmp 1) 1, type := 0, pos := "ref.go:86", after := #[], guard := none }) (v := ?_) rfl (by kernel_rfl) (by kernel_rfl) (by kernel_rfl) (fun _ _ _ h => h) (Or.inl ⟨rfl, ?_⟩) hHeld ?_
  rotate_left
  · (intro w hSw; (try dsimp only at hSw); go_simp; try with_reducible rfl)
  try simp only [Act.put, List.setIfInBounds_toArray, List.set_cons_zero, List.set_cons_succ]
  refine wpAnyH_take (i := 1) (oi := { dst := some 80, op := Op.load 3 (Operand.tmp 79), type := 3, pos := "ref.go:86", after := #[{ on := 0, ground := Ground.data }], guard := none }) (v := ?_) rfl (by kernel_rfl) (by kernel_rfl) (by kernel_rfl) (fun _ _ _ h => h) (Or.inl ⟨rfl, ?_⟩) hHeld ?_
  rotate_left
  · (intro w hSw; (try dsimp only at hSw); go_simp; try with_reducible rfl)
  try simp only [Act.put, List.setIfInBounds_toArray, List.set_cons_zero, List.set_cons_succ]
  refine wpAnyH_take (i := 2) (oi := { dst := some 81, op := Op.binOp BinOp.geq 3 (Operand.tmp 80) (Operand.const (Value.int IntKind.i64 2)) 3, type := 4, pos := "ref.go:86", after := #[{ on := 1, ground := Ground.data }], guard := none }) (v := ?_) rfl (by kernel_rfl) (by kernel_rfl) (by kernel_rfl) (fun _ _ _ h => h) (Or.inl ⟨rfl, ?_⟩) hHeld ?_
  rotate_left
  · (intro w hSw; (try dsimp only at hSw); go_simp; try with_reducible rfl)
  try simp only [Act.put, List.setIfInBounds_toArray, List.set_cons_zero, List.set_cons_succ]
  refine wpAnyH_take (i := 6) (oi := { dst := some 85, op := Op.fieldAddr 23 (Operand.tmp 1) 1, type := 0, pos := "ref.go:86", after := #[], guard := none }) (v := ?_) rfl (by kernel_rfl) (by kernel_rfl) (by kernel_rfl) (fun _ _ _ h => h) (Or.inl ⟨rfl, ?_⟩) hHeld ?_
  rotate_left
  · (intro w hSw; (try dsimp only at hSw); go_simp; try with_reducible rfl)
  try simp only [Act.put, List.setIfInBounds_toArray, List.set_cons_zero, List.set_cons_succ]
  refine wpAnyH_take (i := 7) (oi := { dst := some 86, op := Op.load 3 (Operand.tmp 85), type := 3, pos := "ref.go:86", after := #[{ on := 6, ground := Ground.data }], guard := none }) (v := ?_) rfl (by kernel_rfl) (by kernel_rfl) (by kernel_rfl) (fun _ _ _ h => h) (Or.inl ⟨rfl, ?_⟩) hHeld ?_
  rotate_left
  · (intro w hSw; (try dsimp only at hSw); go_simp; try with_reducible rfl)
  try simp only [Act.put, List.setIfInBounds_toArray, List.set_cons_zero, List.set_cons_succ]
  refine wpAnyH_take (i := 8) (oi := { dst := some 87, op := Op.binOp BinOp.rem 3 (Operand.tmp 86) (Operand.const (Value.int IntKind.i64 2)) 3, type := 3, pos := "ref.go:86", after := #[{ on := 7, ground := Ground.data }], guard := none }) (v := ?_) rfl (by kernel_rfl) (by kernel_rfl) (by kernel_rfl) (fun _ _ _ h => h) (Or.inl ⟨rfl, ?_⟩) hHeld ?_
  rotate_left
  · (intro w hSw; (try dsimp only at hSw); go_simp; try with_reducible rfl)
  try simp only [Act.put, List.setIfInBounds_toArray, List.set_cons_zero, List.set_cons_succ]
  refine wpAnyH_take (i := 9) (oi := { dst := some 88, op := Op.binOp BinOp.eql 3 (Operand.tmp 87) (Operand.const (Value.int IntKind.i64 1)) 3, type := 4, pos := "ref.go:86", after := #[{ on := 8, ground := Ground.data }], guard := none }) (v := ?_) rfl (by kernel_rfl) (by kernel_rfl) (by kernel_rfl) (fun _ _ _ h => h) (Or.inl ⟨rfl, ?_⟩) hHeld ?_
  rotate_left
  · (intro w hSw; (try dsimp only at hSw); go_simp; try with_reducible rfl)
  try simp only [Act.put, List.setIfInBounds_toArray, List.set_cons_zero, List.set_cons_succ]
  refine wpAnyH_take (i := 13) (oi := { dst := some 92, op := Op.move (Operand.tmp 4), type := 24, pos := "ref.go:86", after := #[], guard := none }) (v := ?_) rfl (by kernel_rfl) (by kernel_rfl) (by kernel_rfl) (fun _ _ _ h => h) (Or.inl ⟨rfl, ?_⟩) hHeld ?_
  rotate_left
  · (intro w hSw; (try dsimp only at hSw); go_simp; try with_reducible rfl)
  try simp only [Act.put, List.setIfInBounds_toArray, List.set_cons_zero, List.set_cons_succ]
  refine wpAnyH_take (i := 15) (oi := { dst := some 94, op := Op.move (Operand.tmp 5), type := 24, pos := "ref.go:86", after := #[], guard := none }) (v := ?_) rfl (by kernel_rfl) (by kernel_rfl) (by kernel_rfl) (fun _ _ _ h => h) (Or.inl ⟨rfl, ?_⟩) hHeld ?_
  rotate_left
  · (intro w hSw; (try dsimp only at hSw); go_simp; try with_reducible rfl)
  try simp only [Act.put, List.setIfInBounds_toArray, List.set_cons_zero, List.set_cons_succ]
  refine wpAnyH_take (i := 17) (oi := { dst := some 96, op := Op.fieldAddr 23 (Operand.tmp 1) 5, type := 0, pos := "ref.go:86", after := #[], guard := none }) (v := ?_) rfl (by kernel_rfl) (by kernel_rfl) (by kernel_rfl) (fun _ _ _ h => h) (Or.inl ⟨rfl, ?_⟩) hHeld ?_
  rotate_left
  · (intro w hSw; (try dsimp only at hSw); go_simp; try with_reducible rfl)
  try simp only [Act.put, List.setIfInBounds_toArray, List.set_cons_zero, List.set_cons_succ]
  refine wpAnyH_take (i := 18) (oi := { dst := some 97, op := Op.load 3 (Operand.tmp 96), type := 3, pos := "ref.go:86", after := #[{ on := 17, ground := Ground.data }], guard := none }) (v := ?_) rfl (by kernel_rfl) (by kernel_rfl) (by kernel_rfl) (fun _ _ _ h => h) (Or.inl ⟨rfl, ?_⟩) hHeld ?_
  rotate_left
  · (intro w hSw; (try dsimp only at hSw); go_simp; try with_reducible rfl)
  try simp only [Act.put, List.setIfInBounds_toArray, List.set_cons_zero, List.set_cons_succ]
  refine wpAnyH_take (i := 19) (oi := { dst := some 98, op := Op.convert 3 24 (Operand.tmp 97), type := 24, pos := "ref.go:86", after := #[{ on := 18, ground := Ground.data }], guard := none }) (v := ?_) rfl (by kernel_rfl) (by kernel_rfl) (by kernel_rfl) (fun _ _ _ h => h) (Or.inl ⟨rfl, ?_⟩) hHeld ?_
  rotate_left
  · (intro w hSw; (try dsimp only at hSw); go_simp; try with_reducible rfl)
  try simp only [Act.put, List.setIfInBounds_toArray, List.set_cons_zero, List.set_cons_succ]
  refine wpAnyH_take (i := 20) (oi := { dst := some 99, op := Op.binOp BinOp.rem 24 (Operand.tmp 98) (Operand.const (Value.int IntKind.u32 1048576)) 24, type := 24, pos := "ref.go:86", after := #[{ on := 19, ground := Ground.data }], guard := none }) (v := ?_) rfl (by kernel_rfl) (by kernel_rfl) (by kernel_rfl) (fun _ _ _ h => h) (Or.inl ⟨rfl, ?_⟩) hHeld ?_
  rotate_left
  · (intro w hSw; (try dsimp only at hSw); go_simp; try with_reducible rfl)
  try simp only [Act.put, List.setIfInBounds_toArray, List.set_cons_zero, List.set_cons_succ]
  refine wpAnyH_ready (rs := [3]) (by kernel_rfl) (by simp) ?_
  refine AllReadyH.cons (o := { dst := some 82, op := Op.call { callee := Callee.value (Operand.func 22), args := #[Operand.tmp 81], argTypes := #[4] }, type := 24, pos := "ref.go:86", after := #[{ on := 2, ground := Ground.data }], guard := none }) rfl (fun K hK => ?_) AllReadyH.nil
  go_simp
  go_at_call 22
  refine (HS.out _).mono ?_
  rintro e w9 ⟨rfl, rfl⟩
  clear hHeld
  refine hK.out _ _ ?_ (fun hHeld => ?_)
  · exact (X0.out.kept hK5).cells
  clear hK K
  try simp only [Act.put, List.setIfInBounds_toArray, List.set_cons_zero, List.set_cons_succ]
  refine wpAnyH_take (i := 4) (oi := { dst := some 83, op := Op.binOp BinOp.shl 24 (Operand.tmp 82) (Operand.const (Value.int IntKind.u64 29)) 40, type := 24, pos := "ref.go:86", after := #[{ on := 3, ground := Ground.data }], guard := none }) (v := ?_) rfl (by kernel_rfl) (by kernel_rfl) (by kernel_rfl) (fun _ _ _ h => h) (Or.inl ⟨rfl, ?_⟩) hHeld ?_
  rotate_left
  · (intro w hSw; (try dsimp only at hSw); go_simp; try with_reducible rfl)
  try simp only [Act.put, List.setIfInBounds_toArray, List.set_cons_zero, List.set_cons_succ]
  refine wpAnyH_take (i := 5) (oi := { dst := some 84, op := Op.binOp BinOp.or 24 (Operand.const (Value.int IntKind.u32 2147483648)) (Operand.tmp 83) 24, type := 24, pos := "ref.go:86", after := #[{ on := 4, ground := Ground.data }], guard := none }) (v := ?_) rfl (by kernel_rfl) (by kernel_rfl) (by kernel_rfl) (fun _ _ _ h => h) (Or.inl ⟨rfl, ?_⟩) hHeld ?_
  rotate_left
  · (intro w hSw; (try dsimp only at hSw); go_simp; try with_reducible rfl)
  try simp only [Act.put, List.setIfInBounds_toArray, List.set_cons_zero, List.set_cons_succ]
  refine wpAnyH_ready (rs := [10]) (by kernel_rfl) (by simp) ?_
  refine AllReadyH.cons (o := { dst := some 89, op := Op.call { callee := Callee.value (Operand.func 22), args := #[Operand.tmp 88], argTypes := #[4] }, type := 24, pos := "ref.go:86", after := #[{ on := 9, ground := Ground.data }, { on := 3, ground := Ground.chain }], guard := none }) rfl (fun K hK => ?_) AllReadyH.nil
  go_simp
  go_at_call 22
  refine (HT.out _).mono ?_
  rintro e w9 ⟨rfl, rfl⟩
  clear hHeld
  refine hK.out _ _ ?_ (fun hHeld => ?_)
  · exact (X0.out.kept hK5).cells
  clear hK K
  try simp only [Act.put, List.setIfInBounds_toArray, List.set_cons_zero, List.set_cons_succ]
  refine wpAnyH_take (i := 11) (oi := { dst := some 90, op := Op.binOp BinOp.shl 24 (Operand.tmp 89) (Operand.const (Value.int IntKind.u64 28)) 40, type := 24, pos := "ref.go:86", after := #[{ on := 10, ground := Ground.data }], guard := none }) (v := ?_) rfl (by kernel_rfl) (by kernel_rfl) (by kernel_rfl) (fun _ _ _ h => h) (Or.inl ⟨rfl, ?_⟩) hHeld ?_
  rotate_left
  · (intro w hSw; (try dsimp only at hSw); go_simp; try with_reducible rfl)
  try simp only [Act.put, List.setIfInBounds_toArray, List.set_cons_zero, List.set_cons_succ]
  refine wpAnyH_take (i := 12) (oi := { dst := some 91, op := Op.binOp BinOp.or 24 (Operand.tmp 84) (Operand.tmp 90) 24, type := 24, pos := "ref.go:86", after := #[{ on := 5, ground := Ground.data }, { on := 11, ground := Ground.data }], guard := none }) (v := ?_) rfl (by kernel_rfl) (by kernel_rfl) (by kernel_rfl) (fun _ _ _ h => h) (Or.inl ⟨rfl, ?_⟩) hHeld ?_
  rotate_left
  · (intro w hSw; (try dsimp only at hSw); go_simp; try with_reducible rfl)
  try simp only [Act.put, List.setIfInBounds_toArray, List.set_cons_zero, List.set_cons_succ]
  refine wpAnyH_take (i := 14) (oi := { dst := some 93, op := Op.binOp BinOp.or 24 (Operand.tmp 91) (Operand.tmp 92) 24, type := 24, pos := "ref.go:86", after := #[{ on := 12, ground := Ground.data }, { on := 13, ground := Ground.data }], guard := none }) (v := ?_) rfl (by kernel_rfl) (by kernel_rfl) (by kernel_rfl) (fun _ _ _ h => h) (Or.inl ⟨rfl, ?_⟩) hHeld ?_
  rotate_left
  · (intro w hSw; (try dsimp only at hSw); go_simp; try with_reducible rfl)
  try simp only [Act.put, List.setIfInBounds_toArray, List.set_cons_zero, List.set_cons_succ]
  refine wpAnyH_take (i := 16) (oi := { dst := some 95, op := Op.binOp BinOp.or 24 (Operand.tmp 93) (Operand.tmp 94) 24, type := 24, pos := "ref.go:86", after := #[{ on := 14, ground := Ground.data }, { on := 15, ground := Ground.data }], guard := none }) (v := ?_) rfl (by kernel_rfl) (by kernel_rfl) (by kernel_rfl) (fun _ _ _ h => h) (Or.inl ⟨rfl, ?_⟩) hHeld ?_
  rotate_left
  · (intro w hSw; (try dsimp only at hSw); go_simp; try with_reducible rfl)
  try simp only [Act.put, List.setIfInBounds_toArray, List.set_cons_zero, List.set_cons_succ]
  refine wpAnyH_take (i := 21) (oi := { dst := some 100, op := Op.binOp BinOp.or 24 (Operand.tmp 95) (Operand.tmp 99) 24, type := 24, pos := "ref.go:86", after := #[{ on := 16, ground := Ground.data }, { on := 20, ground := Ground.data }], guard := none }) (v := ?_) rfl (by kernel_rfl) (by kernel_rfl) (by kernel_rfl) (fun _ _ _ h => h) (Or.inl ⟨rfl, ?_⟩) hHeld ?_
  rotate_left
  · (intro w hSw; (try dsimp only at hSw); go_simp; try with_reducible rfl)
  try simp only [Act.put, List.setIfInBounds_toArray, List.set_cons_zero, List.set_cons_succ]
  refine wpAnyH_take (i := 22) (oi := { dst := some 2, op := Op.assign (Operand.tmp 100), type := 24, pos := "ref.go:86", after := #[{ on := 21, ground := Ground.data }, { on := 10, ground := Ground.chain }, { on := 0, ground := Ground.phase }, { on := 1, ground := Ground.phase }, { on := 2, ground := Ground.phase }, { on := 3, ground := Ground.phase }, { on := 4, ground := Ground.phase }, { on := 5, ground := Ground.phase }, { on := 6, ground := Ground.phase }, { on := 7, ground := Ground.phase }, { on := 8, ground := Ground.phase }, { on := 9, ground := Ground.phase }, { on := 10, ground := Ground.phase }, { on := 11, ground := Ground.phase }, { on := 12, ground := Ground.phase }, { on := 13, ground := Ground.phase }, { on := 14, ground := Ground.phase }, { on := 15, ground := Ground.phase }, { on := 16, ground := Ground.phase }, { on := 17, ground := Ground.phase }, { on := 18, ground := Ground.phase }, { on := 19, ground := Ground.phase }, { on := 20, ground := Ground.phase }, { on := 21, ground := Ground.phase }], guard := none }) (v := ?_) rfl (by kernel_rfl) (by kernel_rfl) (by kernel_rfl) (fun _ _ _ h => h) (Or.inl ⟨rfl, ?_⟩) hHeld ?_
  rotate_left
  · (intro w hSw; (try dsimp only at hSw); go_simp; try with_reducible rfl)
  try simp only [Act.put, List.setIfInBounds_toArray, List.set_cons_zero, List.set_cons_succ]
  refine wpAnyH_take (i := 23) (oi := { dst := some 3, op := Op.assign (Operand.const (Value.int IntKind.i64 0)), type := 26, pos := "ref.go:86", after := #[{ on := 22, ground := Ground.chain }, { on := 0, ground := Ground.phase }, { on := 1, ground := Ground.phase }, { on := 2, ground := Ground.phase }, { on := 3, ground := Ground.phase }, { on := 4, ground := Ground.phase }, { on := 5, ground := Ground.phase }, { on := 6, ground := Ground.phase }, { on := 7, ground := Ground.phase }, { on := 8, ground := Ground.phase }, { on := 9, ground := Ground.phase }, { on := 10, ground := Ground.phase }, { on := 11, ground := Ground.phase }, { on := 12, ground := Ground.phase }, { on := 13, ground := Ground.phase }, { on := 14, ground := Ground.phase }, { on := 15, ground := Ground.phase }, { on := 16, ground := Ground.phase }, { on := 17, ground := Ground.phase }, { on := 18, ground := Ground.phase }, { on := 19, ground := Ground.phase }, { on := 20, ground := Ground.phase }, { on := 21, ground := Ground.phase }, { on := 22, ground := Ground.phase }], guard := none }) (v := ?_) rfl (by kernel_rfl) (by kernel_rfl) (by kernel_rfl) (fun _ _ _ h => h) (Or.inl ⟨rfl, ?_⟩) hHeld ?_
  rotate_left
  · (intro w hSw; (try dsimp only at hSw); go_simp; try with_reducible rfl)
  try simp only [Act.put, List.setIfInBounds_toArray, List.set_cons_zero, List.set_cons_succ]
  refine wpAnyH_done (by kernel_rfl) ?_ _
  go_wp2_with fail
  have hR := HR.out
  simp only [hR]
  exact bodyPost_ret (v := .tuple #[.int .u32 r, .int .i64 0]) (by simp [results, Try.results13, go_sem]) rfl ⟨rfl, H0.out.trans hK5⟩
set_option maxRecDepth 100000 in
set_option maxHeartbeats 2000000 in
theorem renc_6 (op a b c i B r : Int) (u : Bool) (w : World) (B0 : 0 ≤ B) (B1 : B ≤ 1)
    (a0 : 0 ≤ a) (a1 : a ≤ 15) (b0 : 0 ≤ b) (b1 : b ≤ 15) (c0 : 0 ≤ c) (c1 : c ≤ 15) (o0 : 0 ≤ op) (o1 : op ≤ 15)
    (HM : Hid (∀ w, Calls Try.prog 17 #[.agg #[.int .i64 6, .int .i64 op, .int .i64 a, .int .i64 b, .int .i64 c, .int .i64 i, .bool u]] w fun e w' => e = .returned (.bool true) ∧ Kept w w'))
    (HO : Hid (∀ w, Calls Try.prog 22 #[.bool u] w fun e w' => e = .returned (.int .u32 B) ∧ w = w')) (HR : Hid (bits .or .u32 (bits .or .u32 (bits .or .u32 (3221225472) (B * 268435456)) (op * 16777216)) (c) = r)) :
    Calls Try.prog 13 #[.agg #[.int .i64 6, .int .i64 op, .int .i64 a, .int .i64 b, .int .i64 c, .int .i64 i, .bool u]] w fun e w' => e = .returned (.tuple #[.int .u32 r, .int .i64 0]) ∧ Kept w w' := by
  have X0 := Lib.hid (Box.new 6 op a b c i u w)
  have H0 := Lib.hid (show Kept w (w.alloc (.cells #[.int .i64 6, .int .i64 op, .int .i64 a, .int .i64 b, .int .i64 c, .int .i64 i, .bool u] 23)) from (Kept.refl w).alloc _ _)
  go_enter Try.func13, Try.ntmps13
  go_wp2_with fail
  refine (HM.out _).mono ?_; rintro e w1 ⟨rfl, hK1⟩
  obtain ⟨j0, j1, j2, j3, j4, j5, j6⟩ := (X0.out.kept hK1).cells
  replace H0 := Lib.hid (H0.out.trans hK1)
  replace X0 := Lib.hid (X0.out.kept hK1)
  clear hK1
  go_wp2_with fail
  refine (HO.out _).mono ?_; rintro e w2 ⟨rfl, rfl⟩
  go_wp2_with fail
  have hR := HR.out
  simp only [hR]
  exact bodyPost_ret (v := .tuple #[.int .u32 r, .int .i64 0]) (by simp [results, Try.results13, go_sem]) rfl ⟨rfl, H0.out⟩
set_option maxRecDepth 100000 in
set_option maxHeartbeats 2000000 in
theorem renc_7 (op a b c i B r : Int) (u : Bool) (w : World) (B0 : 0 ≤ B) (B1 : B ≤ 1)
    (a0 : 0 ≤ a) (a1 : a ≤ 15) (b0 : 0 ≤ b) (b1 : b ≤ 15) (c0 : 0 ≤ c) (c1 : c ≤ 15) (o0 : 0 ≤ op) (o1 : op ≤ 15)
    (HM : Hid (∀ w, Calls Try.prog 17 #[.agg #[.int .i64 7, .int .i64 op, .int .i64 a, .int .i64 b, .int .i64 c, .int .i64 i, .bool u]] w fun e w' => e = .returned (.bool true) ∧ Kept w w'))
    (HO : Hid (∀ w, Calls Try.prog 22 #[.bool u] w fun e w' => e = .returned (.int .u32 B) ∧ w = w')) (HR : Hid (bits .or .u32 (bits .or .u32 (bits .or .u32 (3758096384) (B * 268435456)) (op * 16777216)) (i % 16777216) = r)) :
    Calls Try.prog 13 #[.agg #[.int .i64 7, .int .i64 op, .int .i64 a, .int .i64 b, .int .i64 c, .int .i64 i, .bool u]] w fun e w' => e = .returned (.tuple #[.int .u32 r, .int .i64 0]) ∧ Kept w w' := by
  have X0 := Lib.hid (Box.new 7 op a b c i u w)
  have H0 := Lib.hid (show Kept w (w.alloc (.cells #[.int .i64 7, .int .i64 op, .int .i64 a, .int .i64 b, .int .i64 c, .int .i64 i, .bool u] 23)) from (Kept.refl w).alloc _ _)
  go_enter Try.func13, Try.ntmps13
  go_wp2_with fail
  refine (HM.out _).mono ?_; rintro e w1 ⟨rfl, hK1⟩
  obtain ⟨j0, j1, j2, j3, j4, j5, j6⟩ := (X0.out.kept hK1).cells
  replace H0 := Lib.hid (H0.out.trans hK1)
  replace X0 := Lib.hid (X0.out.kept hK1)
  clear hK1
  go_wp2_with fail
  refine (HO.out _).mono ?_; rintro e w2 ⟨rfl, rfl⟩
  go_wp2_with fail
  have hR := HR.out
  simp only [hR]
  exact bodyPost_ret (v := .tuple #[.int .u32 r, .int .i64 0]) (by simp [results, Try.results13, go_sem]) rfl ⟨rfl, H0.out⟩
end Go.Proofs.Ytliofphhoaopkaa
