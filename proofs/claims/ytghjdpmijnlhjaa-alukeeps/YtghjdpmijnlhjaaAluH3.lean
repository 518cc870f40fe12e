/-
  The walk of the law AluKeeps: H and the flags.
-/
import Derived.Test.YtghjdpmijnlhjaaAluE
namespace Go.Proofs.Ytghjdpmijnlhjaa
open Go.RowKit
set_option linter.unusedVariables false
set_option linter.unusedSimpArgs false
set_option maxRecDepth 100000 in
set_option maxHeartbeats 2000000 in
theorem keeps_3 (s T : A.Regs) (k0 op0 a0 b0 c0 i0 op a b c i : Int) (u0 u : Bool) (X : Int) (x0 : 0 ≤ a) (x1 : a < 16) (eX : T.r a.toNat = X) (w : World)
    (CF : Hid (∀ w, Calls Try.prog 13 #[.agg #[.int .i64 k0, .int .i64 op0, .int .i64 a0, .int .i64 b0, .int .i64 c0, .int .i64 i0, .bool u0]] w fun e w' => e = .returned (.agg #[.int .i64 3, .int .i64 op, .int .i64 a, .int .i64 b, .int .i64 c, .int .i64 i, .bool u]) ∧ Kept w w'))
    (CD : Hid (∀ w, Calls Try.prog 11 #[.agg (A.cells s), .agg #[.int .i64 3, .int .i64 op, .int .i64 a, .int .i64 b, .int .i64 c, .int .i64 i, .bool u]] w fun e w' => e = .returned (.tuple #[.agg (A.cells T), .int .i64 0]) ∧ Kept w w'))
    (CS : Hid (∀ w, Calls Try.prog 16 #[.agg (A.cells (A.set s a.toNat X)), .int .u32 X] w fun e w' => e = .returned (.agg (A.cells T)) ∧ Kept w w')) :
    Calls Try.prog 4 #[.agg (A.cells s), .agg #[.int .i64 k0, .int .i64 op0, .int .i64 a0, .int .i64 b0, .int .i64 c0, .int .i64 i0, .bool u0]] w fun e w' => e = .returned (.bool true) ∧ Below w.heap.size w w' := by
  go_enter Try.func4, Try.ntmps4
  go_wp2_with fail
  refine (shown_any _).mono ?_; rintro e w1 ⟨rfl, hK1⟩
  have hS := ((Has.new (A.cells s) 25 w).alloc _).kept hK1
  have hJ := (Has.new1 (#[.int .i64 k0, .int .i64 op0, .int .i64 a0, .int .i64 b0, .int .i64 c0, .int .i64 i0, .bool u0]) 27 w _).kept hK1
  have hK := (((Kept.refl w).alloc _ _).alloc _ _).trans hK1
  clear hK1
  skip
  replace hS := Lib.hid hS
  replace hJ := Lib.hid hJ
  replace hK := Lib.hid hK
  generalize hBe : w.heap.size = B at hS hJ ⊢
  have hB : w.heap.size ≤ B := by omega
  clear hBe
  go_wp2_with (first
    | (with_reducible refine load_has (o := ⟨some 13, _, _, _, _, _⟩) rfl 27 _ rfl _ rfl hJ.out Try.underlying27 rfl (by kernel_rfl) ?_))
  refine (CF.out _).mono ?_; rintro e w2 ⟨rfl, hK3⟩
  clear hJ
  replace hS := Lib.hid (hS.out.kept hK3)
  replace hK := Lib.hid (hK.out.trans hK3)
  clear hK3
  go_upto_region 3 with (first
    | (with_reducible refine store_last (o := ⟨none, Op.store 27 (.tmp 6) _, _, _, _, _⟩) rfl 27 _ _ rfl _ #[.int .i64 3, .int .i64 op, .int .i64 a, .int .i64 b, .int .i64 c, .int .i64 i, .bool u] rfl rfl rfl (by kernel_rfl) (by kernel_rfl) (by simp [Value.oneCell']) ?_))
  replace hS := Lib.hid (hS.out.alloc (.cells #[.int .i64 3, .int .i64 op, .int .i64 a, .int .i64 b, .int .i64 c, .int .i64 i, .bool u] 27))
  replace hK := Lib.hid (hK.out.alloc #[.int .i64 3, .int .i64 op, .int .i64 a, .int .i64 b, .int .i64 c, .int .i64 i, .bool u] 27)
  have hI := Lib.hid (Has.new #[.int .i64 3, .int .i64 op, .int .i64 a, .int .i64 b, .int .i64 c, .int .i64 i, .bool u] 27 w2)
  generalize w2.heap.size = B6 at *
  generalize World.alloc w2 _ = w3 at *
  go_wp2_with (first
    | (with_reducible refine load_has (o := ⟨some 16, _, _, _, _, _⟩) rfl 25 _ rfl _ rfl hS.out Try.underlying25 rfl (A.info25 _) ?_)
    | (with_reducible refine load_has (o := ⟨some 17, _, _, _, _, _⟩) rfl 27 _ rfl _ rfl hI.out Try.underlying27 rfl (by kernel_rfl) ?_))
  refine (CD.out _).mono ?_; rintro e w4 ⟨rfl, hK3⟩
  replace hS := Lib.hid (hS.out.kept hK3)
  replace hI := Lib.hid (hI.out.kept hK3)
  replace hK := Lib.hid (hK.out.trans hK3)
  clear hK3
  go_upto_region 4 with (first
    | (with_reducible refine store_last (o := ⟨none, Op.store 25 (.tmp 7) _, _, _, _, _⟩) rfl 25 _ _ rfl _ _ rfl rfl rfl (A.info25 _) (by kernel_rfl) (A.one_cells _) ?_))
  replace hS := Lib.hid (hS.out.alloc (.cells (A.cells T) 25))
  replace hI := Lib.hid (hI.out.alloc (.cells (A.cells T) 25))
  replace hK := Lib.hid (hK.out.alloc (A.cells T) 25)
  have hT := Lib.hid (Has.new (A.cells T) 25 w4)
  generalize w4.heap.size = B7 at *
  generalize World.alloc w4 _ = w5 at *
  have q0 := hI.out.cell 0 _ rfl
  have q1 := hI.out.cell 1 _ rfl
  have hlI' := hI.out.lt
  have hlT' := hT.out.lt
  have hlB' := hK.out.size
  go_upto_region 8 with (first
    | (with_reducible refine load_has (o := ⟨some 58, _, _, _, _, _⟩) rfl 25 _ rfl _ rfl hS.out Try.underlying25 rfl (A.info25 _) ?_)
    | (with_reducible refine store_last (o := ⟨none, Op.store 25 (.tmp 10) _, _, _, _, _⟩) rfl 25 _ _ rfl _ _ rfl rfl rfl (A.info25 _) (by kernel_rfl) (A.one_cells _) ?_))
  clear q0 q1
  replace hI := hI.out.alloc (.cells (A.cells s) 25)
  replace hT := hT.out.alloc (.cells (A.cells s) 25)
  replace hK := hK.out.alloc (A.cells s) 25
  have hU := Has.new (A.cells s) 25 w5
  have l6 := hS.out.lt
  have hlI : B6 < w5.heap.size := hlI'
  have hlT : B7 < w5.heap.size := hlT'
  have hlB : w.heap.size ≤ w5.heap.size := hlB'
  clear hS l6
  generalize w5.heap.size = B10 at *
  generalize World.alloc w5 _ = w6 at *
  refine wp_region_held_drew (S := fun w' => Kept w w' ∧ Has B6 #[.int .i64 3, .int .i64 op, .int .i64 a, .int .i64 b, .int .i64 c, .int .i64 i, .bool u] 27 w' ∧ Has B7 (A.cells T) 25 w') (by kernel_rfl) ?_ (fun hHeld => ?_)
  · exact ⟨hK.drew, hI.drew, hT.drew⟩
  refine wpAnyH_take (i := 0) (oi := { dst := some 59, op := Op.fieldAddr 27 (Operand.tmp 6) 2, type := 0, pos := "law.go:44", after := #[], guard := none }) (v := ?_) rfl (by kernel_rfl) (by kernel_rfl) (by kernel_rfl) (fun _ _ _ h => h) (Or.inl ⟨rfl, ?_⟩) hHeld ?_
  rotate_left
  · (intro wz hSw; (try dsimp only at hSw); have z2 := hSw.2.1.cell 2 _ rfl; have zT := hSw.2.2.cell a.toNat _ (A.cell_r T a.toNat (by omega)); rw [eX] at zT; go_simp; try with_reducible rfl)
  try simp only [Act.put, List.setIfInBounds_toArray, List.set_cons_zero, List.set_cons_succ]
  refine wpAnyH_take (i := 1) (oi := { dst := some 60, op := Op.load 3 (Operand.tmp 59), type := 3, pos := "law.go:44", after := #[{ on := 0, ground := Ground.data }], guard := none }) (v := ?_) rfl (by kernel_rfl) (by kernel_rfl) (by kernel_rfl) (fun _ _ _ h => h) (Or.inl ⟨rfl, ?_⟩) hHeld ?_
  rotate_left
  · (intro wz hSw; (try dsimp only at hSw); have z2 := hSw.2.1.cell 2 _ rfl; have zT := hSw.2.2.cell a.toNat _ (A.cell_r T a.toNat (by omega)); rw [eX] at zT; go_simp; try with_reducible rfl)
  try simp only [Act.put, List.setIfInBounds_toArray, List.set_cons_zero, List.set_cons_succ]
  refine wpAnyH_take (i := 2) (oi := { dst := some 61, op := Op.fieldAddr 27 (Operand.tmp 6) 2, type := 0, pos := "law.go:44", after := #[], guard := none }) (v := ?_) rfl (by kernel_rfl) (by kernel_rfl) (by kernel_rfl) (fun _ _ _ h => h) (Or.inl ⟨rfl, ?_⟩) hHeld ?_
  rotate_left
  · (intro wz hSw; (try dsimp only at hSw); have z2 := hSw.2.1.cell 2 _ rfl; have zT := hSw.2.2.cell a.toNat _ (A.cell_r T a.toNat (by omega)); rw [eX] at zT; go_simp; try with_reducible rfl)
  try simp only [Act.put, List.setIfInBounds_toArray, List.set_cons_zero, List.set_cons_succ]
  refine wpAnyH_take (i := 3) (oi := { dst := some 62, op := Op.load 3 (Operand.tmp 61), type := 3, pos := "law.go:44", after := #[{ on := 2, ground := Ground.data }], guard := none }) (v := ?_) rfl (by kernel_rfl) (by kernel_rfl) (by kernel_rfl) (fun _ _ _ h => h) (Or.inl ⟨rfl, ?_⟩) hHeld ?_
  rotate_left
  · (intro wz hSw; (try dsimp only at hSw); have z2 := hSw.2.1.cell 2 _ rfl; have zT := hSw.2.2.cell a.toNat _ (A.cell_r T a.toNat (by omega)); rw [eX] at zT; go_simp; try with_reducible rfl)
  try simp only [Act.put, List.setIfInBounds_toArray, List.set_cons_zero, List.set_cons_succ]
  refine wpAnyH_take (i := 4) (oi := { dst := some 63, op := Op.fieldAddr 25 (Operand.tmp 7) 0, type := 0, pos := "law.go:44", after := #[], guard := none }) (v := ?_) rfl (by kernel_rfl) (by kernel_rfl) (by kernel_rfl) (fun _ _ _ h => h) (Or.inl ⟨rfl, ?_⟩) hHeld ?_
  rotate_left
  · (intro wz hSw; (try dsimp only at hSw); have z2 := hSw.2.1.cell 2 _ rfl; have zT := hSw.2.2.cell a.toNat _ (A.cell_r T a.toNat (by omega)); rw [eX] at zT; go_simp; try with_reducible rfl)
  try simp only [Act.put, List.setIfInBounds_toArray, List.set_cons_zero, List.set_cons_succ]
  refine wpAnyH_take (i := 5) (oi := { dst := some 64, op := Op.indexAddr 23 (Operand.tmp 63) (Operand.tmp 62), type := 0, pos := "law.go:44", after := #[{ on := 4, ground := Ground.data }, { on := 3, ground := Ground.data }], guard := none }) (v := ?_) rfl (by kernel_rfl) (by kernel_rfl) (by kernel_rfl) (fun _ _ _ h => h) (Or.inl ⟨rfl, ?_⟩) hHeld ?_
  rotate_left
  · (intro wz hSw; (try dsimp only at hSw); have z2 := hSw.2.1.cell 2 _ rfl; have zT := hSw.2.2.cell a.toNat _ (A.cell_r T a.toNat (by omega)); rw [eX] at zT; go_simp; try with_reducible rfl)
  try simp only [Act.put, List.setIfInBounds_toArray, List.set_cons_zero, List.set_cons_succ]
  refine wpAnyH_take (i := 6) (oi := { dst := some 65, op := Op.load 22 (Operand.tmp 64), type := 22, pos := "law.go:44", after := #[{ on := 5, ground := Ground.data }], guard := none }) (v := ?_) rfl (by kernel_rfl) (by kernel_rfl) (by kernel_rfl) (fun _ _ _ h => h) (Or.inl ⟨rfl, ?_⟩) hHeld ?_
  rotate_left
  · (intro wz hSw; (try dsimp only at hSw); have z2 := hSw.2.1.cell 2 _ rfl; have zT := hSw.2.2.cell a.toNat _ (A.cell_r T a.toNat (by omega)); rw [eX] at zT; go_simp; try with_reducible rfl)
  try simp only [Act.put, List.setIfInBounds_toArray, List.set_cons_zero, List.set_cons_succ]
  refine wpAnyH_take (i := 7) (oi := { dst := some 66, op := Op.fieldAddr 25 (Operand.tmp 10) 0, type := 0, pos := "law.go:44", after := #[], guard := none }) (v := ?_) rfl (by kernel_rfl) (by kernel_rfl) (by kernel_rfl) (fun _ _ _ h => h) (Or.inl ⟨rfl, ?_⟩) hHeld ?_
  rotate_left
  · (intro wz hSw; (try dsimp only at hSw); have z2 := hSw.2.1.cell 2 _ rfl; have zT := hSw.2.2.cell a.toNat _ (A.cell_r T a.toNat (by omega)); rw [eX] at zT; go_simp; try with_reducible rfl)
  try simp only [Act.put, List.setIfInBounds_toArray, List.set_cons_zero, List.set_cons_succ]
  refine wpAnyH_take (i := 8) (oi := { dst := some 67, op := Op.indexAddr 23 (Operand.tmp 66) (Operand.tmp 60), type := 0, pos := "law.go:44", after := #[{ on := 7, ground := Ground.data }, { on := 1, ground := Ground.data }, { on := 0, ground := Ground.phase }, { on := 1, ground := Ground.phase }, { on := 2, ground := Ground.phase }, { on := 3, ground := Ground.phase }, { on := 4, ground := Ground.phase }, { on := 5, ground := Ground.phase }, { on := 6, ground := Ground.phase }], guard := none }) (v := ?_) rfl (by kernel_rfl) (by kernel_rfl) (by kernel_rfl) (fun _ _ _ h => h) (Or.inl ⟨rfl, ?_⟩) hHeld ?_
  rotate_left
  · (intro wz hSw; (try dsimp only at hSw); have z2 := hSw.2.1.cell 2 _ rfl; have zT := hSw.2.2.cell a.toNat _ (A.cell_r T a.toNat (by omega)); rw [eX] at zT; go_simp; try with_reducible rfl)
  try simp only [Act.put, List.setIfInBounds_toArray, List.set_cons_zero, List.set_cons_succ]
  refine wpAnyH_ready (rs := [9]) (by kernel_rfl) (by simp) ?_
  refine AllReadyH.cons (o := { dst := none, op := Op.store 22 (Operand.tmp 67) (Operand.tmp 65), type := 0, pos := "law.go:44", after := #[{ on := 8, ground := Ground.data }, { on := 6, ground := Ground.data }, { on := 0, ground := Ground.phase }, { on := 1, ground := Ground.phase }, { on := 2, ground := Ground.phase }, { on := 3, ground := Ground.phase }, { on := 4, ground := Ground.phase }, { on := 5, ground := Ground.phase }, { on := 6, ground := Ground.phase }], guard := none }) rfl (fun K hK => ?_) (AllReadyH.nil)
  have qu := hU.cell a.toNat _ (A.cell_r s a.toNat (by omega))
  have fu := hU.free a.toNat
  go_simp
  clear qu fu
  have hN := (show (fun w' => Kept w w' ∧ Has B6 #[.int .i64 3, .int .i64 op, .int .i64 a, .int .i64 b, .int .i64 c, .int .i64 i, .bool u] 27 w' ∧ Has B7 (A.cells T) 25 w') _ from ⟨hHeld.1.setCell (p := ⟨B10, a.toNat, none⟩) hlB (.int .u32 X), hHeld.2.1.other (p := ⟨B10, a.toNat, none⟩) (Nat.ne_of_lt hlI) (.int .u32 X), hHeld.2.2.other (p := ⟨B10, a.toNat, none⟩) (Nat.ne_of_lt hlT) (.int .u32 X)⟩)
  clear hHeld
  refine hK.out _ _ hN (fun hHeld => ?_)
  clear hK K hN
  try simp only [Act.put, List.setIfInBounds_toArray, List.set_cons_zero, List.set_cons_succ]
  refine wpAnyH_done (by kernel_rfl) ?_ _
  replace hU := Has.set (show Has B10 (A.cells s) 25 w6.drew from hU) a.toNat (.int .u32 X)
  rw [A.set_r s a.toNat (by omega)] at hU
  replace hU : Has B10 (A.cells (A.set s a.toNat X)) 25 ((w6.setCell ⟨B10, a.toNat, none⟩ (.int .u32 X)).drew) := hU
  clear hK hI hT
  generalize World.drew _ = w7 at *
  have hI := hHeld.2.1
  have hT := hHeld.2.2
  have hK := hHeld.1
  clear hHeld
  have q0 := hI.cell 0 _ rfl
  have q1 := hI.cell 1 _ rfl
  have t16 := hT.cell 16 _ (A.cell_h T)
  have t19 := hT.cell 19 _ (A.cell_c T)
  have t20 := hT.cell 20 _ (A.cell_v T)
  have u16 := hU.cell 16 _ (A.cell_h (A.set s a.toNat X))
  have u19 := hU.cell 19 _ (A.cell_c (A.set s a.toNat X))
  have u20 := hU.cell 20 _ (A.cell_v (A.set s a.toNat X))
  have f16 := hU.free 16
  have f19 := hU.free 19
  have f20 := hU.free 20
  replace hI := Lib.hid hI
  replace hT := Lib.hid hT
  replace hU := Lib.hid hU
  replace hK := Lib.hid hK
  go_upto_region 15 with (fail)
  clear q0 q1 t16 t19 t20 u16 u19 u20 f16 f19 f20
  refine wp_region_held_drew (S := fun w' => Kept w w' ∧ Has B6 #[.int .i64 3, .int .i64 op, .int .i64 a, .int .i64 b, .int .i64 c, .int .i64 i, .bool u] 27 w' ∧ Has B7 (A.cells T) 25 w' ∧ Has B10 (A.cells (A.set s a.toNat X)) 25 w') (by kernel_rfl) ?_ (fun hHeld => ?_)
  · exact ⟨hK.out.drew, hI.out.drew, hT.out.drew, hU.out.drew⟩
  refine wpAnyH_take (i := 0) (oi := { dst := some 107, op := Op.move (Operand.tmp 5), type := 4, pos := "law.go:53", after := #[], guard := none }) (v := ?_) rfl (by kernel_rfl) (by kernel_rfl) (by kernel_rfl) (fun _ _ _ h => h) (Or.inl ⟨rfl, ?_⟩) hHeld ?_
  rotate_left
  · (intro wz hSw; (try dsimp only at hSw); go_simp; try with_reducible rfl)
  try simp only [Act.put, List.setIfInBounds_toArray, List.set_cons_zero, List.set_cons_succ]
  refine wpAnyH_take (i := 1) (oi := { dst := some 108, op := Op.move (Operand.tmp 107), type := 4, pos := "law.go:53", after := #[{ on := 0, ground := Ground.data }], guard := none }) (v := ?_) rfl (by kernel_rfl) (by kernel_rfl) (by kernel_rfl) (fun _ _ _ h => h) (Or.inl ⟨rfl, ?_⟩) hHeld ?_
  rotate_left
  · (intro wz hSw; (try dsimp only at hSw); go_simp; try with_reducible rfl)
  try simp only [Act.put, List.setIfInBounds_toArray, List.set_cons_zero, List.set_cons_succ]
  refine wpAnyH_take (i := 2) (oi := { dst := some 109, op := Op.load 25 (Operand.tmp 7), type := 25, pos := "law.go:53", after := #[{ on := 1, ground := Ground.guard }], guard := some (1, true) }) (v := ?_) rfl (by kernel_rfl) (by kernel_rfl) (by kernel_rfl) (fun _ _ _ h => h) (Or.inl ⟨rfl, ?_⟩) hHeld ?_
  rotate_left
  · (intro wz hSw; refine exec_load_has 25 (Operand.tmp 7) ?_ _ ?_ hSw.2.2.1 Try.underlying25 rfl (A.info25 _) <;> rfl)
  try simp only [Act.put, List.setIfInBounds_toArray, List.set_cons_zero, List.set_cons_succ]
  refine wpAnyH_take (i := 3) (oi := { dst := some 110, op := Op.load 25 (Operand.tmp 10), type := 25, pos := "law.go:53", after := #[{ on := 1, ground := Ground.guard }], guard := some (1, true) }) (v := ?_) rfl (by kernel_rfl) (by kernel_rfl) (by kernel_rfl) (fun _ _ _ h => h) (Or.inl ⟨rfl, ?_⟩) hHeld ?_
  rotate_left
  · (intro wz hSw; refine exec_load_has 25 (Operand.tmp 10) ?_ _ ?_ hSw.2.2.2 Try.underlying25 rfl (A.info25 _) <;> rfl)
  try simp only [Act.put, List.setIfInBounds_toArray, List.set_cons_zero, List.set_cons_succ]
  refine wpAnyH_take (i := 4) (oi := { dst := some 111, op := Op.fieldAddr 27 (Operand.tmp 6) 2, type := 0, pos := "law.go:53", after := #[{ on := 1, ground := Ground.guard }], guard := some (1, true) }) (v := ?_) rfl (by kernel_rfl) (by kernel_rfl) (by kernel_rfl) (fun _ _ _ h => h) (Or.inl ⟨rfl, ?_⟩) hHeld ?_
  rotate_left
  · (intro wz hSw; (try dsimp only at hSw); go_simp; try with_reducible rfl)
  try simp only [Act.put, List.setIfInBounds_toArray, List.set_cons_zero, List.set_cons_succ]
  refine wpAnyH_take (i := 5) (oi := { dst := some 112, op := Op.load 3 (Operand.tmp 111), type := 3, pos := "law.go:53", after := #[{ on := 4, ground := Ground.data }, { on := 1, ground := Ground.guard }], guard := some (1, true) }) (v := ?_) rfl (by kernel_rfl) (by kernel_rfl) (by kernel_rfl) (fun _ _ _ h => h) (Or.inl ⟨rfl, ?_⟩) hHeld ?_
  rotate_left
  · (intro wz hSw; (try dsimp only at hSw); have z2 := hSw.2.1.cell 2 _ rfl; go_simp; try with_reducible rfl)
  try simp only [Act.put, List.setIfInBounds_toArray, List.set_cons_zero, List.set_cons_succ]
  refine wpAnyH_take (i := 6) (oi := { dst := some 113, op := Op.fieldAddr 25 (Operand.tmp 7) 0, type := 0, pos := "law.go:53", after := #[{ on := 1, ground := Ground.guard }], guard := some (1, true) }) (v := ?_) rfl (by kernel_rfl) (by kernel_rfl) (by kernel_rfl) (fun _ _ _ h => h) (Or.inl ⟨rfl, ?_⟩) hHeld ?_
  rotate_left
  · (intro wz hSw; (try dsimp only at hSw); go_simp; try with_reducible rfl)
  try simp only [Act.put, List.setIfInBounds_toArray, List.set_cons_zero, List.set_cons_succ]
  refine wpAnyH_take (i := 7) (oi := { dst := some 114, op := Op.indexAddr 23 (Operand.tmp 113) (Operand.tmp 112), type := 0, pos := "law.go:53", after := #[{ on := 6, ground := Ground.data }, { on := 5, ground := Ground.data }, { on := 1, ground := Ground.guard }], guard := some (1, true) }) (v := ?_) rfl (by kernel_rfl) (by kernel_rfl) (by kernel_rfl) (fun _ _ _ h => h) (Or.inl ⟨rfl, ?_⟩) hHeld ?_
  rotate_left
  · (intro wz hSw; (try dsimp only at hSw); go_simp; try with_reducible rfl)
  try simp only [Act.put, List.setIfInBounds_toArray, List.set_cons_zero, List.set_cons_succ]
  refine wpAnyH_take (i := 8) (oi := { dst := some 115, op := Op.load 22 (Operand.tmp 114), type := 22, pos := "law.go:53", after := #[{ on := 7, ground := Ground.data }, { on := 1, ground := Ground.guard }], guard := some (1, true) }) (v := ?_) rfl (by kernel_rfl) (by kernel_rfl) (by kernel_rfl) (fun _ _ _ h => h) (Or.inl ⟨rfl, ?_⟩) hHeld ?_
  rotate_left
  · (intro wz hSw; (try dsimp only at hSw); have zT := hSw.2.2.1.cell a.toNat _ (A.cell_r T a.toNat (by omega)); rw [eX] at zT; go_simp; try with_reducible rfl)
  try simp only [Act.put, List.setIfInBounds_toArray, List.set_cons_zero, List.set_cons_succ]
  refine wpAnyH_ready (rs := [9]) (by kernel_rfl) (by simp) ?_
  refine AllReadyH.cons (o := { dst := some 116, op := Op.call { callee := Callee.value (Operand.func 16), args := #[Operand.tmp 110, Operand.tmp 115], argTypes := #[25, 22] }, type := 25, pos := "law.go:53", after := #[{ on := 3, ground := Ground.data }, { on := 8, ground := Ground.data }, { on := 1, ground := Ground.chain }, { on := 1, ground := Ground.guard }], guard := some (1, true) }) rfl (fun K hK => ?_) (AllReadyH.nil)
  go_simp
  go_at_call 16
  refine (CS.out _).mono ?_
  rintro e w9 ⟨rfl, hK9⟩
  have hN := (show (fun w' => Kept w w' ∧ Has B6 #[.int .i64 3, .int .i64 op, .int .i64 a, .int .i64 b, .int .i64 c, .int .i64 i, .bool u] 27 w' ∧ Has B7 (A.cells T) 25 w' ∧ Has B10 (A.cells (A.set s a.toNat X)) 25 w') _ from ⟨hHeld.1.trans hK9, hHeld.2.1.kept hK9, hHeld.2.2.1.kept hK9, hHeld.2.2.2.kept hK9⟩)
  clear hHeld
  refine hK.out _ _ hN (fun hHeld => ?_)
  clear hK K hN
  try simp only [Act.put, List.setIfInBounds_toArray, List.set_cons_zero, List.set_cons_succ]
  refine wpAnyH_take (i := 10) (oi := { dst := some 117, op := Op.binOp BinOp.eql 25 (Operand.tmp 109) (Operand.tmp 116) 25, type := 4, pos := "law.go:53", after := #[{ on := 2, ground := Ground.data }, { on := 9, ground := Ground.data }, { on := 1, ground := Ground.guard }], guard := some (1, true) }) (v := ?_) rfl (by kernel_rfl) (by kernel_rfl) (by kernel_rfl) (fun _ _ _ h => h) (Or.inl ⟨rfl, ?_⟩) hHeld ?_
  rotate_left
  · (intro wz hSw; refine exec_eq_regs (o := { dst := some 117, op := Op.binOp BinOp.eql 25 (Operand.tmp 109) (Operand.tmp 116) 25, type := 4, pos := "law.go:53", after := #[{ on := 2, ground := Ground.data }, { on := 9, ground := Ground.data }, { on := 1, ground := Ground.guard }], guard := some (1, true) }) (.tmp 109) (.tmp 116) rfl T ?_ ?_ <;> rfl)
  try simp only [Act.put, List.setIfInBounds_toArray, List.set_cons_zero, List.set_cons_succ]
  refine wpAnyH_take (i := 11) (oi := { dst := some 118, op := Op.pick (Operand.tmp 108) (Operand.tmp 117) (Operand.const (Value.bool false)), type := 4, pos := "law.go:53", after := #[{ on := 1, ground := Ground.data }, { on := 10, ground := Ground.data }], guard := none }) (v := ?_) rfl (by kernel_rfl) (by kernel_rfl) (by kernel_rfl) (fun _ _ _ h => h) (Or.inl ⟨rfl, ?_⟩) hHeld ?_
  rotate_left
  · (intro wz hSw; (try dsimp only at hSw); go_simp; try with_reducible rfl)
  try simp only [Act.put, List.setIfInBounds_toArray, List.set_cons_zero, List.set_cons_succ]
  refine wpAnyH_take (i := 12) (oi := { dst := some 4, op := Op.assign (Operand.tmp 118), type := 4, pos := "law.go:53", after := #[{ on := 11, ground := Ground.data }, { on := 9, ground := Ground.chain }, { on := 0, ground := Ground.phase }, { on := 1, ground := Ground.phase }, { on := 2, ground := Ground.phase }, { on := 3, ground := Ground.phase }, { on := 4, ground := Ground.phase }, { on := 5, ground := Ground.phase }, { on := 6, ground := Ground.phase }, { on := 7, ground := Ground.phase }, { on := 8, ground := Ground.phase }, { on := 9, ground := Ground.phase }, { on := 10, ground := Ground.phase }, { on := 11, ground := Ground.phase }], guard := none }) (v := ?_) rfl (by kernel_rfl) (by kernel_rfl) (by kernel_rfl) (fun _ _ _ h => h) (Or.inl ⟨rfl, ?_⟩) hHeld ?_
  rotate_left
  · (intro wz hSw; (try dsimp only at hSw); go_simp; try with_reducible rfl)
  try simp only [Act.put, List.setIfInBounds_toArray, List.set_cons_zero, List.set_cons_succ]
  refine wpAnyH_done (by kernel_rfl) ?_ _
  go_wp2_with fail
  go_ret
  exact yesB rfl hHeld.1
set_option maxRecDepth 100000 in
set_option maxHeartbeats 2000000 in
theorem keeps_4 (s T : A.Regs) (k0 op0 a0 b0 c0 i0 op a b c i : Int) (u0 u : Bool) (X : Int) (x0 : 0 ≤ a) (x1 : a < 16) (eX : T.r a.toNat = X) (w : World)
    (CF : Hid (∀ w, Calls Try.prog 13 #[.agg #[.int .i64 k0, .int .i64 op0, .int .i64 a0, .int .i64 b0, .int .i64 c0, .int .i64 i0, .bool u0]] w fun e w' => e = .returned (.agg #[.int .i64 4, .int .i64 op, .int .i64 a, .int .i64 b, .int .i64 c, .int .i64 i, .bool u]) ∧ Kept w w'))
    (CD : Hid (∀ w, Calls Try.prog 11 #[.agg (A.cells s), .agg #[.int .i64 4, .int .i64 op, .int .i64 a, .int .i64 b, .int .i64 c, .int .i64 i, .bool u]] w fun e w' => e = .returned (.tuple #[.agg (A.cells T), .int .i64 0]) ∧ Kept w w'))
    (CS : Hid (∀ w, Calls Try.prog 16 #[.agg (A.cells (A.set s a.toNat X)), .int .u32 X] w fun e w' => e = .returned (.agg (A.cells T)) ∧ Kept w w')) :
    Calls Try.prog 4 #[.agg (A.cells s), .agg #[.int .i64 k0, .int .i64 op0, .int .i64 a0, .int .i64 b0, .int .i64 c0, .int .i64 i0, .bool u0]] w fun e w' => e = .returned (.bool true) ∧ Below w.heap.size w w' := by
  go_enter Try.func4, Try.ntmps4
  go_wp2_with fail
  refine (shown_any _).mono ?_; rintro e w1 ⟨rfl, hK1⟩
  have hS := ((Has.new (A.cells s) 25 w).alloc _).kept hK1
  have hJ := (Has.new1 (#[.int .i64 k0, .int .i64 op0, .int .i64 a0, .int .i64 b0, .int .i64 c0, .int .i64 i0, .bool u0]) 27 w _).kept hK1
  have hK := (((Kept.refl w).alloc _ _).alloc _ _).trans hK1
  clear hK1
  skip
  replace hS := Lib.hid hS
  replace hJ := Lib.hid hJ
  replace hK := Lib.hid hK
  generalize hBe : w.heap.size = B at hS hJ ⊢
  have hB : w.heap.size ≤ B := by omega
  clear hBe
  go_wp2_with (first
    | (with_reducible refine load_has (o := ⟨some 13, _, _, _, _, _⟩) rfl 27 _ rfl _ rfl hJ.out Try.underlying27 rfl (by kernel_rfl) ?_))
  refine (CF.out _).mono ?_; rintro e w2 ⟨rfl, hK3⟩
  clear hJ
  replace hS := Lib.hid (hS.out.kept hK3)
  replace hK := Lib.hid (hK.out.trans hK3)
  clear hK3
  go_upto_region 3 with (first
    | (with_reducible refine store_last (o := ⟨none, Op.store 27 (.tmp 6) _, _, _, _, _⟩) rfl 27 _ _ rfl _ #[.int .i64 4, .int .i64 op, .int .i64 a, .int .i64 b, .int .i64 c, .int .i64 i, .bool u] rfl rfl rfl (by kernel_rfl) (by kernel_rfl) (by simp [Value.oneCell']) ?_))
  replace hS := Lib.hid (hS.out.alloc (.cells #[.int .i64 4, .int .i64 op, .int .i64 a, .int .i64 b, .int .i64 c, .int .i64 i, .bool u] 27))
  replace hK := Lib.hid (hK.out.alloc #[.int .i64 4, .int .i64 op, .int .i64 a, .int .i64 b, .int .i64 c, .int .i64 i, .bool u] 27)
  have hI := Lib.hid (Has.new #[.int .i64 4, .int .i64 op, .int .i64 a, .int .i64 b, .int .i64 c, .int .i64 i, .bool u] 27 w2)
  generalize w2.heap.size = B6 at *
  generalize World.alloc w2 _ = w3 at *
  go_wp2_with (first
    | (with_reducible refine load_has (o := ⟨some 16, _, _, _, _, _⟩) rfl 25 _ rfl _ rfl hS.out Try.underlying25 rfl (A.info25 _) ?_)
    | (with_reducible refine load_has (o := ⟨some 17, _, _, _, _, _⟩) rfl 27 _ rfl _ rfl hI.out Try.underlying27 rfl (by kernel_rfl) ?_))
  refine (CD.out _).mono ?_; rintro e w4 ⟨rfl, hK3⟩
  replace hS := Lib.hid (hS.out.kept hK3)
  replace hI := Lib.hid (hI.out.kept hK3)
  replace hK := Lib.hid (hK.out.trans hK3)
  clear hK3
  go_upto_region 4 with (first
    | (with_reducible refine store_last (o := ⟨none, Op.store 25 (.tmp 7) _, _, _, _, _⟩) rfl 25 _ _ rfl _ _ rfl rfl rfl (A.info25 _) (by kernel_rfl) (A.one_cells _) ?_))
  replace hS := Lib.hid (hS.out.alloc (.cells (A.cells T) 25))
  replace hI := Lib.hid (hI.out.alloc (.cells (A.cells T) 25))
  replace hK := Lib.hid (hK.out.alloc (A.cells T) 25)
  have hT := Lib.hid (Has.new (A.cells T) 25 w4)
  generalize w4.heap.size = B7 at *
  generalize World.alloc w4 _ = w5 at *
  have q0 := hI.out.cell 0 _ rfl
  have q1 := hI.out.cell 1 _ rfl
  have hlI' := hI.out.lt
  have hlT' := hT.out.lt
  have hlB' := hK.out.size
  go_upto_region 8 with (first
    | (with_reducible refine load_has (o := ⟨some 58, _, _, _, _, _⟩) rfl 25 _ rfl _ rfl hS.out Try.underlying25 rfl (A.info25 _) ?_)
    | (with_reducible refine store_last (o := ⟨none, Op.store 25 (.tmp 10) _, _, _, _, _⟩) rfl 25 _ _ rfl _ _ rfl rfl rfl (A.info25 _) (by kernel_rfl) (A.one_cells _) ?_))
  clear q0 q1
  replace hI := hI.out.alloc (.cells (A.cells s) 25)
  replace hT := hT.out.alloc (.cells (A.cells s) 25)
  replace hK := hK.out.alloc (A.cells s) 25
  have hU := Has.new (A.cells s) 25 w5
  have l6 := hS.out.lt
  have hlI : B6 < w5.heap.size := hlI'
  have hlT : B7 < w5.heap.size := hlT'
  have hlB : w.heap.size ≤ w5.heap.size := hlB'
  clear hS l6
  generalize w5.heap.size = B10 at *
  generalize World.alloc w5 _ = w6 at *
  refine wp_region_held_drew (S := fun w' => Kept w w' ∧ Has B6 #[.int .i64 4, .int .i64 op, .int .i64 a, .int .i64 b, .int .i64 c, .int .i64 i, .bool u] 27 w' ∧ Has B7 (A.cells T) 25 w') (by kernel_rfl) ?_ (fun hHeld => ?_)
  · exact ⟨hK.drew, hI.drew, hT.drew⟩
  refine wpAnyH_take (i := 0) (oi := { dst := some 59, op := Op.fieldAddr 27 (Operand.tmp 6) 2, type := 0, pos := "law.go:44", after := #[], guard := none }) (v := ?_) rfl (by kernel_rfl) (by kernel_rfl) (by kernel_rfl) (fun _ _ _ h => h) (Or.inl ⟨rfl, ?_⟩) hHeld ?_
  rotate_left
  · (intro wz hSw; (try dsimp only at hSw); have z2 := hSw.2.1.cell 2 _ rfl; have zT := hSw.2.2.cell a.toNat _ (A.cell_r T a.toNat (by omega)); rw [eX] at zT; go_simp; try with_reducible rfl)
  try simp only [Act.put, List.setIfInBounds_toArray, List.set_cons_zero, List.set_cons_succ]
  refine wpAnyH_take (i := 1) (oi := { dst := some 60, op := Op.load 3 (Operand.tmp 59), type := 3, pos := "law.go:44", after := #[{ on := 0, ground := Ground.data }], guard := none }) (v := ?_) rfl (by kernel_rfl) (by kernel_rfl) (by kernel_rfl) (fun _ _ _ h => h) (Or.inl ⟨rfl, ?_⟩) hHeld ?_
  rotate_left
  · (intro wz hSw; (try dsimp only at hSw); have z2 := hSw.2.1.cell 2 _ rfl; have zT := hSw.2.2.cell a.toNat _ (A.cell_r T a.toNat (by omega)); rw [eX] at zT; go_simp; try with_reducible rfl)
  try simp only [Act.put, List.setIfInBounds_toArray, List.set_cons_zero, List.set_cons_succ]
  refine wpAnyH_take (i := 2) (oi := { dst := some 61, op := Op.fieldAddr 27 (Operand.tmp 6) 2, type := 0, pos := "law.go:44", after := #[], guard := none }) (v := ?_) rfl (by kernel_rfl) (by kernel_rfl) (by kernel_rfl) (fun _ _ _ h => h) (Or.inl ⟨rfl, ?_⟩) hHeld ?_
  rotate_left
  · (intro wz hSw; (try dsimp only at hSw); have z2 := hSw.2.1.cell 2 _ rfl; have zT := hSw.2.2.cell a.toNat _ (A.cell_r T a.toNat (by omega)); rw [eX] at zT; go_simp; try with_reducible rfl)
  try simp only [Act.put, List.setIfInBounds_toArray, List.set_cons_zero, List.set_cons_succ]
  refine wpAnyH_take (i := 3) (oi := { dst := some 62, op := Op.load 3 (Operand.tmp 61), type := 3, pos := "law.go:44", after := #[{ on := 2, ground := Ground.data }], guard := none }) (v := ?_) rfl (by kernel_rfl) (by kernel_rfl) (by kernel_rfl) (fun _ _ _ h => h) (Or.inl ⟨rfl, ?_⟩) hHeld ?_
  rotate_left
  · (intro wz hSw; (try dsimp only at hSw); have z2 := hSw.2.1.cell 2 _ rfl; have zT := hSw.2.2.cell a.toNat _ (A.cell_r T a.toNat (by omega)); rw [eX] at zT; go_simp; try with_reducible rfl)
  try simp only [Act.put, List.setIfInBounds_toArray, List.set_cons_zero, List.set_cons_succ]
  refine wpAnyH_take (i := 4) (oi := { dst := some 63, op := Op.fieldAddr 25 (Operand.tmp 7) 0, type := 0, pos := "law.go:44", after := #[], guard := none }) (v := ?_) rfl (by kernel_rfl) (by kernel_rfl) (by kernel_rfl) (fun _ _ _ h => h) (Or.inl ⟨rfl, ?_⟩) hHeld ?_
  rotate_left
  · (intro wz hSw; (try dsimp only at hSw); have z2 := hSw.2.1.cell 2 _ rfl; have zT := hSw.2.2.cell a.toNat _ (A.cell_r T a.toNat (by omega)); rw [eX] at zT; go_simp; try with_reducible rfl)
  try simp only [Act.put, List.setIfInBounds_toArray, List.set_cons_zero, List.set_cons_succ]
  refine wpAnyH_take (i := 5) (oi := { dst := some 64, op := Op.indexAddr 23 (Operand.tmp 63) (Operand.tmp 62), type := 0, pos := "law.go:44", after := #[{ on := 4, ground := Ground.data }, { on := 3, ground := Ground.data }], guard := none }) (v := ?_) rfl (by kernel_rfl) (by kernel_rfl) (by kernel_rfl) (fun _ _ _ h => h) (Or.inl ⟨rfl, ?_⟩) hHeld ?_
  rotate_left
  · (intro wz hSw; (try dsimp only at hSw); have z2 := hSw.2.1.cell 2 _ rfl; have zT := hSw.2.2.cell a.toNat _ (A.cell_r T a.toNat (by omega)); rw [eX] at zT; go_simp; try with_reducible rfl)
  try simp only [Act.put, List.setIfInBounds_toArray, List.set_cons_zero, List.set_cons_succ]
  refine wpAnyH_take (i := 6) (oi := { dst := some 65, op := Op.load 22 (Operand.tmp 64), type := 22, pos := "law.go:44", after := #[{ on := 5, ground := Ground.data }], guard := none }) (v := ?_) rfl (by kernel_rfl) (by kernel_rfl) (by kernel_rfl) (fun _ _ _ h => h) (Or.inl ⟨rfl, ?_⟩) hHeld ?_
  rotate_left
  · (intro wz hSw; (try dsimp only at hSw); have z2 := hSw.2.1.cell 2 _ rfl; have zT := hSw.2.2.cell a.toNat _ (A.cell_r T a.toNat (by omega)); rw [eX] at zT; go_simp; try with_reducible rfl)
  try simp only [Act.put, List.setIfInBounds_toArray, List.set_cons_zero, List.set_cons_succ]
  refine wpAnyH_take (i := 7) (oi := { dst := some 66, op := Op.fieldAddr 25 (Operand.tmp 10) 0, type := 0, pos := "law.go:44", after := #[], guard := none }) (v := ?_) rfl (by kernel_rfl) (by kernel_rfl) (by kernel_rfl) (fun _ _ _ h => h) (Or.inl ⟨rfl, ?_⟩) hHeld ?_
  rotate_left
  · (intro wz hSw; (try dsimp only at hSw); have z2 := hSw.2.1.cell 2 _ rfl; have zT := hSw.2.2.cell a.toNat _ (A.cell_r T a.toNat (by omega)); rw [eX] at zT; go_simp; try with_reducible rfl)
  try simp only [Act.put, List.setIfInBounds_toArray, List.set_cons_zero, List.set_cons_succ]
  refine wpAnyH_take (i := 8) (oi := { dst := some 67, op := Op.indexAddr 23 (Operand.tmp 66) (Operand.tmp 60), type := 0, pos := "law.go:44", after := #[{ on := 7, ground := Ground.data }, { on := 1, ground := Ground.data }, { on := 0, ground := Ground.phase }, { on := 1, ground := Ground.phase }, { on := 2, ground := Ground.phase }, { on := 3, ground := Ground.phase }, { on := 4, ground := Ground.phase }, { on := 5, ground := Ground.phase }, { on := 6, ground := Ground.phase }], guard := none }) (v := ?_) rfl (by kernel_rfl) (by kernel_rfl) (by kernel_rfl) (fun _ _ _ h => h) (Or.inl ⟨rfl, ?_⟩) hHeld ?_
  rotate_left
  · (intro wz hSw; (try dsimp only at hSw); have z2 := hSw.2.1.cell 2 _ rfl; have zT := hSw.2.2.cell a.toNat _ (A.cell_r T a.toNat (by omega)); rw [eX] at zT; go_simp; try with_reducible rfl)
  try simp only [Act.put, List.setIfInBounds_toArray, List.set_cons_zero, List.set_cons_succ]
  refine wpAnyH_ready (rs := [9]) (by kernel_rfl) (by simp) ?_
  refine AllReadyH.cons (o := { dst := none, op := Op.store 22 (Operand.tmp 67) (Operand.tmp 65), type := 0, pos := "law.go:44", after := #[{ on := 8, ground := Ground.data }, { on := 6, ground := Ground.data }, { on := 0, ground := Ground.phase }, { on := 1, ground := Ground.phase }, { on := 2, ground := Ground.phase }, { on := 3, ground := Ground.phase }, { on := 4, ground := Ground.phase }, { on := 5, ground := Ground.phase }, { on := 6, ground := Ground.phase }], guard := none }) rfl (fun K hK => ?_) (AllReadyH.nil)
  have qu := hU.cell a.toNat _ (A.cell_r s a.toNat (by omega))
  have fu := hU.free a.toNat
  go_simp
  clear qu fu
  have hN := (show (fun w' => Kept w w' ∧ Has B6 #[.int .i64 4, .int .i64 op, .int .i64 a, .int .i64 b, .int .i64 c, .int .i64 i, .bool u] 27 w' ∧ Has B7 (A.cells T) 25 w') _ from ⟨hHeld.1.setCell (p := ⟨B10, a.toNat, none⟩) hlB (.int .u32 X), hHeld.2.1.other (p := ⟨B10, a.toNat, none⟩) (Nat.ne_of_lt hlI) (.int .u32 X), hHeld.2.2.other (p := ⟨B10, a.toNat, none⟩) (Nat.ne_of_lt hlT) (.int .u32 X)⟩)
  clear hHeld
  refine hK.out _ _ hN (fun hHeld => ?_)
  clear hK K hN
  try simp only [Act.put, List.setIfInBounds_toArray, List.set_cons_zero, List.set_cons_succ]
  refine wpAnyH_done (by kernel_rfl) ?_ _
  replace hU := Has.set (show Has B10 (A.cells s) 25 w6.drew from hU) a.toNat (.int .u32 X)
  rw [A.set_r s a.toNat (by omega)] at hU
  replace hU : Has B10 (A.cells (A.set s a.toNat X)) 25 ((w6.setCell ⟨B10, a.toNat, none⟩ (.int .u32 X)).drew) := hU
  clear hK hI hT
  generalize World.drew _ = w7 at *
  have hI := hHeld.2.1
  have hT := hHeld.2.2
  have hK := hHeld.1
  clear hHeld
  have q0 := hI.cell 0 _ rfl
  have q1 := hI.cell 1 _ rfl
  have t16 := hT.cell 16 _ (A.cell_h T)
  have t19 := hT.cell 19 _ (A.cell_c T)
  have t20 := hT.cell 20 _ (A.cell_v T)
  have u16 := hU.cell 16 _ (A.cell_h (A.set s a.toNat X))
  have u19 := hU.cell 19 _ (A.cell_c (A.set s a.toNat X))
  have u20 := hU.cell 20 _ (A.cell_v (A.set s a.toNat X))
  have f16 := hU.free 16
  have f19 := hU.free 19
  have f20 := hU.free 20
  replace hI := Lib.hid hI
  replace hT := Lib.hid hT
  replace hU := Lib.hid hU
  replace hK := Lib.hid hK
  go_upto_region 15 with (fail)
  clear q0 q1 t16 t19 t20 u16 u19 u20 f16 f19 f20
  refine wp_region_held_drew (S := fun w' => Kept w w' ∧ Has B6 #[.int .i64 4, .int .i64 op, .int .i64 a, .int .i64 b, .int .i64 c, .int .i64 i, .bool u] 27 w' ∧ Has B7 (A.cells T) 25 w' ∧ Has B10 (A.cells (A.set s a.toNat X)) 25 w') (by kernel_rfl) ?_ (fun hHeld => ?_)
  · exact ⟨hK.out.drew, hI.out.drew, hT.out.drew, hU.out.drew⟩
  refine wpAnyH_take (i := 0) (oi := { dst := some 107, op := Op.move (Operand.tmp 5), type := 4, pos := "law.go:53", after := #[], guard := none }) (v := ?_) rfl (by kernel_rfl) (by kernel_rfl) (by kernel_rfl) (fun _ _ _ h => h) (Or.inl ⟨rfl, ?_⟩) hHeld ?_
  rotate_left
  · (intro wz hSw; (try dsimp only at hSw); go_simp; try with_reducible rfl)
  try simp only [Act.put, List.setIfInBounds_toArray, List.set_cons_zero, List.set_cons_succ]
  refine wpAnyH_take (i := 1) (oi := { dst := some 108, op := Op.move (Operand.tmp 107), type := 4, pos := "law.go:53", after := #[{ on := 0, ground := Ground.data }], guard := none }) (v := ?_) rfl (by kernel_rfl) (by kernel_rfl) (by kernel_rfl) (fun _ _ _ h => h) (Or.inl ⟨rfl, ?_⟩) hHeld ?_
  rotate_left
  · (intro wz hSw; (try dsimp only at hSw); go_simp; try with_reducible rfl)
  try simp only [Act.put, List.setIfInBounds_toArray, List.set_cons_zero, List.set_cons_succ]
  refine wpAnyH_take (i := 2) (oi := { dst := some 109, op := Op.load 25 (Operand.tmp 7), type := 25, pos := "law.go:53", after := #[{ on := 1, ground := Ground.guard }], guard := some (1, true) }) (v := ?_) rfl (by kernel_rfl) (by kernel_rfl) (by kernel_rfl) (fun _ _ _ h => h) (Or.inl ⟨rfl, ?_⟩) hHeld ?_
  rotate_left
  · (intro wz hSw; refine exec_load_has 25 (Operand.tmp 7) ?_ _ ?_ hSw.2.2.1 Try.underlying25 rfl (A.info25 _) <;> rfl)
  try simp only [Act.put, List.setIfInBounds_toArray, List.set_cons_zero, List.set_cons_succ]
  refine wpAnyH_take (i := 3) (oi := { dst := some 110, op := Op.load 25 (Operand.tmp 10), type := 25, pos := "law.go:53", after := #[{ on := 1, ground := Ground.guard }], guard := some (1, true) }) (v := ?_) rfl (by kernel_rfl) (by kernel_rfl) (by kernel_rfl) (fun _ _ _ h => h) (Or.inl ⟨rfl, ?_⟩) hHeld ?_
  rotate_left
  · (intro wz hSw; refine exec_load_has 25 (Operand.tmp 10) ?_ _ ?_ hSw.2.2.2 Try.underlying25 rfl (A.info25 _) <;> rfl)
  try simp only [Act.put, List.setIfInBounds_toArray, List.set_cons_zero, List.set_cons_succ]
  refine wpAnyH_take (i := 4) (oi := { dst := some 111, op := Op.fieldAddr 27 (Operand.tmp 6) 2, type := 0, pos := "law.go:53", after := #[{ on := 1, ground := Ground.guard }], guard := some (1, true) }) (v := ?_) rfl (by kernel_rfl) (by kernel_rfl) (by kernel_rfl) (fun _ _ _ h => h) (Or.inl ⟨rfl, ?_⟩) hHeld ?_
  rotate_left
  · (intro wz hSw; (try dsimp only at hSw); go_simp; try with_reducible rfl)
  try simp only [Act.put, List.setIfInBounds_toArray, List.set_cons_zero, List.set_cons_succ]
  refine wpAnyH_take (i := 5) (oi := { dst := some 112, op := Op.load 3 (Operand.tmp 111), type := 3, pos := "law.go:53", after := #[{ on := 4, ground := Ground.data }, { on := 1, ground := Ground.guard }], guard := some (1, true) }) (v := ?_) rfl (by kernel_rfl) (by kernel_rfl) (by kernel_rfl) (fun _ _ _ h => h) (Or.inl ⟨rfl, ?_⟩) hHeld ?_
  rotate_left
  · (intro wz hSw; (try dsimp only at hSw); have z2 := hSw.2.1.cell 2 _ rfl; go_simp; try with_reducible rfl)
  try simp only [Act.put, List.setIfInBounds_toArray, List.set_cons_zero, List.set_cons_succ]
  refine wpAnyH_take (i := 6) (oi := { dst := some 113, op := Op.fieldAddr 25 (Operand.tmp 7) 0, type := 0, pos := "law.go:53", after := #[{ on := 1, ground := Ground.guard }], guard := some (1, true) }) (v := ?_) rfl (by kernel_rfl) (by kernel_rfl) (by kernel_rfl) (fun _ _ _ h => h) (Or.inl ⟨rfl, ?_⟩) hHeld ?_
  rotate_left
  · (intro wz hSw; (try dsimp only at hSw); go_simp; try with_reducible rfl)
  try simp only [Act.put, List.setIfInBounds_toArray, List.set_cons_zero, List.set_cons_succ]
  refine wpAnyH_take (i := 7) (oi := { dst := some 114, op := Op.indexAddr 23 (Operand.tmp 113) (Operand.tmp 112), type := 0, pos := "law.go:53", after := #[{ on := 6, ground := Ground.data }, { on := 5, ground := Ground.data }, { on := 1, ground := Ground.guard }], guard := some (1, true) }) (v := ?_) rfl (by kernel_rfl) (by kernel_rfl) (by kernel_rfl) (fun _ _ _ h => h) (Or.inl ⟨rfl, ?_⟩) hHeld ?_
  rotate_left
  · (intro wz hSw; (try dsimp only at hSw); go_simp; try with_reducible rfl)
  try simp only [Act.put, List.setIfInBounds_toArray, List.set_cons_zero, List.set_cons_succ]
  refine wpAnyH_take (i := 8) (oi := { dst := some 115, op := Op.load 22 (Operand.tmp 114), type := 22, pos := "law.go:53", after := #[{ on := 7, ground := Ground.data }, { on := 1, ground := Ground.guard }], guard := some (1, true) }) (v := ?_) rfl (by kernel_rfl) (by kernel_rfl) (by kernel_rfl) (fun _ _ _ h => h) (Or.inl ⟨rfl, ?_⟩) hHeld ?_
  rotate_left
  · (intro wz hSw; (try dsimp only at hSw); have zT := hSw.2.2.1.cell a.toNat _ (A.cell_r T a.toNat (by omega)); rw [eX] at zT; go_simp; try with_reducible rfl)
  try simp only [Act.put, List.setIfInBounds_toArray, List.set_cons_zero, List.set_cons_succ]
  refine wpAnyH_ready (rs := [9]) (by kernel_rfl) (by simp) ?_
  refine AllReadyH.cons (o := { dst := some 116, op := Op.call { callee := Callee.value (Operand.func 16), args := #[Operand.tmp 110, Operand.tmp 115], argTypes := #[25, 22] }, type := 25, pos := "law.go:53", after := #[{ on := 3, ground := Ground.data }, { on := 8, ground := Ground.data }, { on := 1, ground := Ground.chain }, { on := 1, ground := Ground.guard }], guard := some (1, true) }) rfl (fun K hK => ?_) (AllReadyH.nil)
  go_simp
  go_at_call 16
  refine (CS.out _).mono ?_
  rintro e w9 ⟨rfl, hK9⟩
  have hN := (show (fun w' => Kept w w' ∧ Has B6 #[.int .i64 4, .int .i64 op, .int .i64 a, .int .i64 b, .int .i64 c, .int .i64 i, .bool u] 27 w' ∧ Has B7 (A.cells T) 25 w' ∧ Has B10 (A.cells (A.set s a.toNat X)) 25 w') _ from ⟨hHeld.1.trans hK9, hHeld.2.1.kept hK9, hHeld.2.2.1.kept hK9, hHeld.2.2.2.kept hK9⟩)
  clear hHeld
  refine hK.out _ _ hN (fun hHeld => ?_)
  clear hK K hN
  try simp only [Act.put, List.setIfInBounds_toArray, List.set_cons_zero, List.set_cons_succ]
  refine wpAnyH_take (i := 10) (oi := { dst := some 117, op := Op.binOp BinOp.eql 25 (Operand.tmp 109) (Operand.tmp 116) 25, type := 4, pos := "law.go:53", after := #[{ on := 2, ground := Ground.data }, { on := 9, ground := Ground.data }, { on := 1, ground := Ground.guard }], guard := some (1, true) }) (v := ?_) rfl (by kernel_rfl) (by kernel_rfl) (by kernel_rfl) (fun _ _ _ h => h) (Or.inl ⟨rfl, ?_⟩) hHeld ?_
  rotate_left
  · (intro wz hSw; refine exec_eq_regs (o := { dst := some 117, op := Op.binOp BinOp.eql 25 (Operand.tmp 109) (Operand.tmp 116) 25, type := 4, pos := "law.go:53", after := #[{ on := 2, ground := Ground.data }, { on := 9, ground := Ground.data }, { on := 1, ground := Ground.guard }], guard := some (1, true) }) (.tmp 109) (.tmp 116) rfl T ?_ ?_ <;> rfl)
  try simp only [Act.put, List.setIfInBounds_toArray, List.set_cons_zero, List.set_cons_succ]
  refine wpAnyH_take (i := 11) (oi := { dst := some 118, op := Op.pick (Operand.tmp 108) (Operand.tmp 117) (Operand.const (Value.bool false)), type := 4, pos := "law.go:53", after := #[{ on := 1, ground := Ground.data }, { on := 10, ground := Ground.data }], guard := none }) (v := ?_) rfl (by kernel_rfl) (by kernel_rfl) (by kernel_rfl) (fun _ _ _ h => h) (Or.inl ⟨rfl, ?_⟩) hHeld ?_
  rotate_left
  · (intro wz hSw; (try dsimp only at hSw); go_simp; try with_reducible rfl)
  try simp only [Act.put, List.setIfInBounds_toArray, List.set_cons_zero, List.set_cons_succ]
  refine wpAnyH_take (i := 12) (oi := { dst := some 4, op := Op.assign (Operand.tmp 118), type := 4, pos := "law.go:53", after := #[{ on := 11, ground := Ground.data }, { on := 9, ground := Ground.chain }, { on := 0, ground := Ground.phase }, { on := 1, ground := Ground.phase }, { on := 2, ground := Ground.phase }, { on := 3, ground := Ground.phase }, { on := 4, ground := Ground.phase }, { on := 5, ground := Ground.phase }, { on := 6, ground := Ground.phase }, { on := 7, ground := Ground.phase }, { on := 8, ground := Ground.phase }, { on := 9, ground := Ground.phase }, { on := 10, ground := Ground.phase }, { on := 11, ground := Ground.phase }], guard := none }) (v := ?_) rfl (by kernel_rfl) (by kernel_rfl) (by kernel_rfl) (fun _ _ _ h => h) (Or.inl ⟨rfl, ?_⟩) hHeld ?_
  rotate_left
  · (intro wz hSw; (try dsimp only at hSw); go_simp; try with_reducible rfl)
  try simp only [Act.put, List.setIfInBounds_toArray, List.set_cons_zero, List.set_cons_succ]
  refine wpAnyH_done (by kernel_rfl) ?_ _
  go_wp2_with fail
  go_ret
  exact yesB rfl hHeld.1
end Go.Proofs.Ytghjdpmijnlhjaa
