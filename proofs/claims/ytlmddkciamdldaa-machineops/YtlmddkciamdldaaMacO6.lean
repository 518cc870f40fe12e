/-
  The law MachineOps: branches.
-/
import Derived.Test.YtlmddkciamdldaaMacO
namespace Go.Proofs.Ytlmddkciamdldaa
open Go.RowKit
set_option linter.unusedVariables false
set_option linter.unusedSimpArgs false
set_option maxRecDepth 100000
set_option maxHeartbeats 1000000 in
theorem walk_Ops_6 (k1 op1 a1 b1 c1 i1 : Int) (u1 : Bool) (s : A.Regs) (pc : Int) (v : Value) (hs : A.Ok s) (p0 : 0 ≤ pc) (p1 : pc < 4294967296) (f : Nat) (hf : pc % 16 = f) (f16 : f < 16) (op a b c i : Int) (u : Bool) (hm : I.May ⟨6, op, a, b, c, i, u⟩) (wj t y : Int) (S' : A.Regs) (w : World) (j0 : 0 ≤ wj) (j1 : wj < 4294967296)
    (C1 : Hid (∀ w, Calls Try.prog 8 #[.agg #[.int .i64 k1, .int .i64 op1, .int .i64 a1, .int .i64 b1, .int .i64 c1, .int .i64 i1, .bool u1]] w fun e w' => e = .returned (.agg #[.int .i64 6, .int .i64 op, .int .i64 a, .int .i64 b, .int .i64 c, .int .i64 i, .bool u]) ∧ Kept w w'))
    (CE : Hid (∀ w, Calls Try.prog 9 #[.agg #[.int .i64 6, .int .i64 op, .int .i64 a, .int .i64 b, .int .i64 c, .int .i64 i, .bool u]] w fun e w' => e = .returned (.tuple #[.int .u32 wj, .int .i64 0]) ∧ Kept w w'))
    (hx : X.step ⟨M.placed (List.replicate 16 0) f [wj], s, 4 * f, 0, [], []⟩ = ⟨M.placed (List.replicate 16 0) f [wj], S', y, t, [], []⟩) (tk : Bool) (CT : Hid (∀ w, Calls Try.prog 17 #[.agg (A.cells s), .int .i64 op] w fun e w' => e = .returned (.bool tk) ∧ Kept w w')) (z0 : 0 ≤ (c : Int)) (z1 : (c : Int) < 16) (ht : t = 0) (hy : (tk = false ∧ S' = s ∧ y = 4 * (f : Int) + 4) ∨ (tk = true ∧ S' = (if u = true then A.set s 15 (4 * (f : Int) + 4) else s) ∧ y = s.r c.toNat)) :
    Calls Try.prog 3 #[.agg #[.int .i64 k1, .int .i64 op1, .int .i64 a1, .int .i64 b1, .int .i64 c1, .int .i64 i1, .bool u1], .agg (X.setC s pc v)] w fun e w' => e = .returned (.bool true) ∧ Below w.heap.size w w' := by
  go_enter Try.func3, Try.ntmps3
  go_wp2_with (fail)
  refine (shown_any _).mono ?_; rintro e w1 ⟨rfl, hT1⟩
  have hA := ((Kept.refl w).alloc #[.int .i64 k1, .int .i64 op1, .int .i64 a1, .int .i64 b1, .int .i64 c1, .int .i64 i1, .bool u1] 23).alloc (X.setC s pc v) 30
  have hb1 : Below w.heap.size w w1 := hA.below.trans (hT1.below w.heap.size hA.size fun _ h => h.elim)
  have hI1 : Has w.heap.size #[.int .i64 k1, .int .i64 op1, .int .i64 a1, .int .i64 b1, .int .i64 c1, .int .i64 i1, .bool u1] 23 w1 := (hT1.block _ ((Has.new _ _ w).alloc _).lt id).trans ((Has.new _ _ w).alloc _)
  have hS1 : Has (w.heap.size + 1) (X.setC s pc v) 30 w1 := (hT1.block _ (Has.new1 _ _ w _).lt id).trans (Has.new1 _ _ w _)
  clear hA hT1
  replace hI1 := Lib.hid hI1
  replace hS1 := Lib.hid hS1
  go_wp2_with (with_reducible refine load_has rfl 23 _ rfl _ rfl hI1.out Try.underlying23 rfl (by kernel_rfl) ?_)
  refine (C1.out _).mono ?_; rintro e w2 ⟨rfl, hK2⟩
  have hJ := Lib.hid (Has.new #[.int .i64 6, .int .i64 op, .int .i64 a, .int .i64 b, .int .i64 c, .int .i64 i, .bool u] 23 w2)
  have hK3 := hK2.alloc #[.int .i64 6, .int .i64 op, .int .i64 a, .int .i64 b, .int .i64 c, .int .i64 i, .bool u] 23
  have hb3 := Lib.hid (below_kept hb1 hK3 hb1.size)
  have hS3 := Lib.hid (hS1.out.kept hK3)
  clear hI1 hS1 hb1 hK2 hK3
  go_upto_region 5 with (fail)
  generalize w2.heap.size = g2 at *
  generalize w2.alloc (Obj.cells _ _) = w3 at *
  go_wp2_with (with_reducible refine load_has rfl 23 _ rfl _ rfl hJ.out Try.underlying23 rfl (by kernel_rfl) ?_)
  refine (CE.out _).mono ?_; rintro e w4 ⟨rfl, hK4⟩
  replace hJ := Lib.hid (hJ.out.kept hK4)
  replace hS3 := Lib.hid (hS3.out.kept hK4)
  replace hb3 := Lib.hid (below_kept hb3.out hK4 hb3.out.size)
  clear hK4 CE C1
  go_wp2_with (fail)
  refine (new_live 16 (by omega) (Ws.empty w4) (by omega)).mono ?_; rintro e w5 ⟨B, rfl, hL⟩
  have cpc : (w5).cell? ⟨w.heap.size + 1, 21, none⟩ = some (.int .u32 pc) := by
    rw [World.cell?_of_block (w := w4) (hL.below.block _ hS3.out.lt)]
    exact hS3.out.cell 21 _ rfl
  have hL1 := Lib.hid (hL.kept ((Kept.refl w5).alloc #[.int .u32 wj] 24))
  have hW1 := Lib.hid (Ws.sole (Has.new #[.int .u32 wj] 24 w5) j0 j1)
  clear hL
  go_wp2_with (fail)
  rw [hf]
  refine (place_live hL1.out f _ 1 1 [wj] hW1.out (by simp; omega)).mono ?_; rintro e w6 ⟨rfl, hL6⟩
  replace hL6 : Live w4 B ⟨M.placed (List.replicate 16 0) f [wj], A.none', 0, 0, [], []⟩ w6 := hL6
  have hS6 := Lib.hid (show Has (w.heap.size + 1) (X.setC s pc v) 30 w6 from (hL6.below.block _ hS3.out.lt).trans hS3.out)
  replace hL6 := Lib.hid hL6
  clear hL1 hW1 cpc
  go_wp2_with (with_reducible refine wpList_load_mid (op := ⟨some 70, _, _, _, _, _⟩) rfl 27 _ rfl _ _ rfl (A.cells s).toList _ (X.setC_regs hS6.out) Try.underlying27 rfl (by rw [Array.length_toList]; exact A.info25 _) ?_)
  refine (start_live hL6.out (4 * (f : Int)) s hs (by omega) (by omega)).mono ?_; rintro e w7 ⟨rfl, hL7⟩
  replace hL7 : Live w4 B ⟨M.placed (List.replicate 16 0) f [wj], s, 4 * (f : Int), 0, [], []⟩ w7 := hL7
  replace hL7 := Lib.hid hL7
  clear hL6 hS6
  go_wp2_with (fail)
  refine (step_live hL7.out (by simp)).mono ?_; rintro e w8 ⟨rfl, hL8⟩
  rw [hx] at hL8 ⊢
  have hS8 := Lib.hid (show Has (w.heap.size + 1) (X.setC s pc v) 30 w8 from (hL8.below.block _ hS3.out.lt).trans hS3.out)
  have hJ8 := (show Has g2 #[.int .i64 6, .int .i64 op, .int .i64 a, .int .i64 b, .int .i64 c, .int .i64 i, .bool u] 23 w8 from (hL8.below.block _ hJ.out.lt).trans hJ.out)
  replace hL8 := Lib.hid hL8
  have cj0 : w8.cell? ⟨g2, 0, none⟩ = some (.int .i64 6) := hJ8.cell 0 _ rfl
  clear hL7 hS3 hJ hx
  generalize M.placed (List.replicate 16 0) f [wj] = ws at *
  subst ht
  have cj1 : w8.cell? ⟨g2, 1, none⟩ = some (.int .i64 op) := hJ8.cell 1 _ rfl
  have hb8 := Lib.hid (hb3.out.trans (hL8.out.below.mono hb3.out.size))
  go_upto_region 19 with (fail)
  have hKa := (Kept.refl w8).alloc (A.cells s) 27
  have hHW0 := Has.new (A.cells s) 27 w8
  have hSa := Lib.hid (hS8.out.kept hKa)
  have cja := (hJ8.kept hKa).cell 1 _ rfl
  replace hJ8 := Lib.hid hJ8
  clear cj0 cj1
  generalize hg16 : w8.heap.size = g16 at *
  go_upto_region 21 with (first
    | (with_reducible refine wpList_load_mid (op := ⟨some 104, _, _, _, _, _⟩) rfl 27 _ rfl _ _ rfl (A.cells s).toList _ (X.setC_regs hS8.out) Try.underlying27 rfl (by rw [Array.length_toList]; exact A.info25 _) ?_)
    | (with_reducible refine store_last rfl 27 _ _ rfl _ _ rfl rfl hg16.symm (A.info25 _) (by kernel_rfl) (A.one_cells _) ?_))
  generalize w8.alloc (Obj.cells _ _) = wa at *
  replace cja : wa.cell? ⟨g2, 1, none⟩ = some (.int .i64 op) := cja
  go_wp2_with (with_reducible refine wpList_load_mid (op := ⟨some 108, _, _, _, _, _⟩) rfl 27 _ rfl _ _ rfl (A.cells s).toList _ (X.setC_regs hSa.out) Try.underlying27 rfl (by rw [Array.length_toList]; exact A.info25 _) ?_)
  refine (CT.out _).mono ?_; rintro e wu ⟨rfl, hKu⟩
  have hKt := hKa.trans hKu
  have hHW := hHW0.kept hKu
  have q0 : wu.cell? ⟨g2, 0, none⟩ = some (.int .i64 6) := (hJ8.out.kept hKt).cell 0 _ rfl
  have q4 : wu.cell? ⟨g2, 4, none⟩ = some (.int .i64 c) := (hJ8.out.kept hKt).cell 4 _ rfl
  have q5 : wu.cell? ⟨g2, 5, none⟩ = some (.int .i64 i) := (hJ8.out.kept hKt).cell 5 _ rfl
  have q6 : wu.cell? ⟨g2, 6, none⟩ = some (.bool u) := (hJ8.out.kept hKt).cell 6 _ rfl
  have qc := X.setC_regs (hSa.out.kept hKu) c.toNat (.int .u32 (s.r c.toNat)) (by have := A.cell_r s c.toNat (by omega); rw [Array.getElem?_toList]; exact this)
  rw [Nat.zero_add] at qc
  have qw := hHW.cell 15 _ (A.cell_r s 15 (by omega))
  have qf := hHW.free 15
  clear hSa hJ8 cja hS8 hKa hKu hHW0 hb3 CT
  rcases hy with ⟨rfl, rfl, rfl⟩ | ⟨rfl, hS', hy⟩
  · replace hHW := Lib.hid hHW
    go_upto_region 27 with (fail)
    refine wp_region_held_drew (S := fun wz => Kept w8 wz ∧ Has g16 (A.cells S') 27 wz) (by kernel_rfl) ?_ (fun hHeld => ?_)
    · exact ⟨hKt.drew, hHW.out⟩
    refine wpAnyH_take (i := 0) (oi := { dst := some 134, op := Op.move (Operand.tmp 13), type := 3, pos := "law.go:177", after := #[], guard := none }) (v := ?_) rfl (by kernel_rfl) (by kernel_rfl) (by kernel_rfl) (fun _ _ _ h => h) (Or.inl ⟨rfl, ?_⟩) hHeld ?_
    rotate_left
    · (intro wz hSw; (try dsimp only at hSw); go_simp; try with_reducible rfl)
    try simp only [Act.put, List.setIfInBounds_toArray, List.set_cons_zero, List.set_cons_succ]
    refine wpAnyH_take (i := 1) (oi := { dst := some 135, op := Op.binOp BinOp.eql 3 (Operand.tmp 134) (Operand.const (Value.int IntKind.i64 0)) 3, type := 4, pos := "law.go:177", after := #[eD 0], guard := none }) (v := ?_) rfl (by kernel_rfl) (by kernel_rfl) (by kernel_rfl) (fun _ _ _ h => h) (Or.inl ⟨rfl, ?_⟩) hHeld ?_
    rotate_left
    · (intro wz hSw; (try dsimp only at hSw); go_simp; try with_reducible rfl)
    try simp only [Act.put, List.setIfInBounds_toArray, List.set_cons_zero, List.set_cons_succ]
    refine wpAnyH_take (i := 2) (oi := { dst := some 136, op := Op.move (Operand.tmp 135), type := 4, pos := "law.go:177", after := #[eD 1], guard := none }) (v := ?_) rfl (by kernel_rfl) (by kernel_rfl) (by kernel_rfl) (fun _ _ _ h => h) (Or.inl ⟨rfl, ?_⟩) hHeld ?_
    rotate_left
    · (intro wz hSw; (try dsimp only at hSw); go_simp; try with_reducible rfl)
    try simp only [Act.put, List.setIfInBounds_toArray, List.set_cons_zero, List.set_cons_succ]
    refine wpAnyH_take (i := 3) (oi := { dst := some 137, op := Op.move (Operand.tmp 9), type := 36, pos := "law.go:177", after := #[eG 2], guard := some (2, true) }) (v := ?_) rfl (by kernel_rfl) (by kernel_rfl) (by kernel_rfl) (fun _ _ _ h => h) (Or.inl ⟨rfl, ?_⟩) hHeld ?_
    rotate_left
    · (intro wz hSw; (try dsimp only at hSw); go_simp; try with_reducible rfl)
    try simp only [Act.put, List.setIfInBounds_toArray, List.set_cons_zero, List.set_cons_succ]
    refine wpAnyH_take (i := 5) (oi := { dst := some 139, op := Op.load 27 (Operand.tmp 16), type := 27, pos := "law.go:177", after := #[eG 2], guard := some (2, true) }) (v := ?_) rfl (by kernel_rfl) (by kernel_rfl) (by kernel_rfl) (fun _ _ _ h => h) (Or.inl ⟨rfl, ?_⟩) hHeld ?_
    rotate_left
    · (intro wz hSw; refine exec_load_has 27 (Operand.tmp 16) ?_ _ ?_ hSw.2 Try.underlying27 rfl (A.info25 _) <;> rfl)
    try simp only [Act.put, List.setIfInBounds_toArray, List.set_cons_zero, List.set_cons_succ]
    refine wpAnyH_ready (rs := [4]) (by kernel_rfl) (by simp) ?_
    refine AllReadyH.cons (o := { dst := some 138, op := Op.call { callee := Callee.value (Operand.func 15), args := #[Operand.tmp 137], argTypes := #[36] }, type := 27, pos := "law.go:177", after := #[eD 3, eC 2, eG 2], guard := some (2, true) }) rfl (fun K hK => ?_) (AllReadyH.nil)
    go_simp
    go_at_call 15
    refine (regs_live (hL8.out.kept hHeld.1)).mono ?_
    rintro e wd ⟨rfl, hKd⟩
    have hN := (show (fun wz => Kept w8 wz ∧ Has g16 (A.cells S') 27 wz) _ from ⟨hHeld.1.trans hKd, hHeld.2.kept hKd⟩)
    clear hHeld
    refine hK.out _ _ hN (fun hHeld => ?_)
    clear hK K hN
    try simp only [Act.put, List.setIfInBounds_toArray, List.set_cons_zero, List.set_cons_succ]
    refine wpAnyH_take (i := 6) (oi := { dst := some 140, op := Op.binOp BinOp.eql 27 (Operand.tmp 138) (Operand.tmp 139) 27, type := 4, pos := "law.go:177", after := #[eD 4, eD 5, eG 2], guard := some (2, true) }) (v := ?_) rfl (by kernel_rfl) (by kernel_rfl) (by kernel_rfl) (fun _ _ _ h => h) (Or.inl ⟨rfl, ?_⟩) hHeld ?_
    rotate_left
    · (intro wz hSw; refine exec_eq_regs (o := { dst := some 140, op := Op.binOp BinOp.eql 27 (Operand.tmp 138) (Operand.tmp 139) 27, type := 4, pos := "law.go:177", after := #[eD 4, eD 5, eG 2], guard := some (2, true) }) (Operand.tmp 138) (Operand.tmp 139) ?_ S' ?_ ?_ <;> rfl)
    try simp only [Act.put, List.setIfInBounds_toArray, List.set_cons_zero, List.set_cons_succ]
    refine wpAnyH_take (i := 7) (oi := { dst := some 141, op := Op.pick (Operand.tmp 136) (Operand.tmp 140) (Operand.const (Value.bool false)), type := 4, pos := "law.go:177", after := #[eD 2, eD 6], guard := none }) (v := ?_) rfl (by kernel_rfl) (by kernel_rfl) (by kernel_rfl) (fun _ _ _ h => h) (Or.inl ⟨rfl, ?_⟩) hHeld ?_
    rotate_left
    · (intro wz hSw; (try dsimp only at hSw); go_simp; try with_reducible rfl)
    try simp only [Act.put, List.setIfInBounds_toArray, List.set_cons_zero, List.set_cons_succ]
    refine wpAnyH_take (i := 8) (oi := { dst := some 142, op := Op.move (Operand.tmp 141), type := 4, pos := "law.go:177", after := #[eD 7, eC 4], guard := none }) (v := ?_) rfl (by kernel_rfl) (by kernel_rfl) (by kernel_rfl) (fun _ _ _ h => h) (Or.inl ⟨rfl, ?_⟩) hHeld ?_
    rotate_left
    · (intro wz hSw; (try dsimp only at hSw); go_simp; try with_reducible rfl)
    try simp only [Act.put, List.setIfInBounds_toArray, List.set_cons_zero, List.set_cons_succ]
    refine wpAnyH_take (i := 9) (oi := { dst := some 143, op := Op.move (Operand.tmp 9), type := 36, pos := "law.go:177", after := #[eG 8], guard := some (8, true) }) (v := ?_) rfl (by kernel_rfl) (by kernel_rfl) (by kernel_rfl) (fun _ _ _ h => h) (Or.inl ⟨rfl, ?_⟩) hHeld ?_
    rotate_left
    · (intro wz hSw; (try dsimp only at hSw); go_simp; try with_reducible rfl)
    try simp only [Act.put, List.setIfInBounds_toArray, List.set_cons_zero, List.set_cons_succ]
    refine wpAnyH_take (i := 11) (oi := { dst := some 145, op := Op.move (Operand.tmp 17), type := 24, pos := "law.go:177", after := #[eG 8], guard := some (8, true) }) (v := ?_) rfl (by kernel_rfl) (by kernel_rfl) (by kernel_rfl) (fun _ _ _ h => h) (Or.inl ⟨rfl, ?_⟩) hHeld ?_
    rotate_left
    · (intro wz hSw; (try dsimp only at hSw); go_simp; try with_reducible rfl)
    try simp only [Act.put, List.setIfInBounds_toArray, List.set_cons_zero, List.set_cons_succ]
    refine wpAnyH_ready (rs := [10]) (by kernel_rfl) (by simp) ?_
    refine AllReadyH.cons (o := { dst := some 144, op := Op.call { callee := Callee.value (Operand.func 16), args := #[Operand.tmp 143], argTypes := #[36] }, type := 24, pos := "law.go:177", after := #[eD 9, eC 8, eG 8], guard := some (8, true) }) rfl (fun K hK => ?_) (AllReadyH.nil)
    go_simp
    go_at_call 16
    refine (pc_live (hL8.out.kept hHeld.1)).mono ?_
    rintro e we ⟨rfl, rfl⟩
    have hN := (show (fun wz => Kept w8 wz ∧ Has g16 (A.cells S') 27 wz) _ from hHeld)
    clear hHeld
    refine hK.out _ _ hN (fun hHeld => ?_)
    clear hK K hN
    try simp only [Act.put, List.setIfInBounds_toArray, List.set_cons_zero, List.set_cons_succ]
    refine wpAnyH_take (i := 12) (oi := { dst := some 146, op := Op.binOp BinOp.eql 24 (Operand.tmp 144) (Operand.tmp 145) 24, type := 4, pos := "law.go:177", after := #[eD 10, eD 11, eG 8], guard := some (8, true) }) (v := ?_) rfl (by kernel_rfl) (by kernel_rfl) (by kernel_rfl) (fun _ _ _ h => h) (Or.inl ⟨rfl, ?_⟩) hHeld ?_
    rotate_left
    · (intro wz hSw; (try dsimp only at hSw); go_simp; try with_reducible rfl)
    try simp only [Act.put, List.setIfInBounds_toArray, List.set_cons_zero, List.set_cons_succ]
    refine wpAnyH_take (i := 13) (oi := { dst := some 147, op := Op.pick (Operand.tmp 142) (Operand.tmp 146) (Operand.const (Value.bool false)), type := 4, pos := "law.go:177", after := #[eD 8, eD 12], guard := none }) (v := ?_) rfl (by kernel_rfl) (by kernel_rfl) (by kernel_rfl) (fun _ _ _ h => h) (Or.inl ⟨rfl, ?_⟩) hHeld ?_
    rotate_left
    · (intro wz hSw; (try dsimp only at hSw); go_simp; try with_reducible rfl)
    try simp only [Act.put, List.setIfInBounds_toArray, List.set_cons_zero, List.set_cons_succ]
    refine wpAnyH_take (i := 14) (oi := { dst := some 4, op := Op.assign (Operand.tmp 147), type := 4, pos := "law.go:177", after := #[eD 13, eC 10, eP 0, eP 1, eP 2, eP 3, eP 4, eP 5, eP 6, eP 7, eP 8, eP 9, eP 10, eP 11, eP 12, eP 13], guard := none }) (v := ?_) rfl (by kernel_rfl) (by kernel_rfl) (by kernel_rfl) (fun _ _ _ h => h) (Or.inl ⟨rfl, ?_⟩) hHeld ?_
    rotate_left
    · (intro wz hSw; (try dsimp only at hSw); go_simp; try with_reducible rfl)
    try simp only [Act.put, List.setIfInBounds_toArray, List.set_cons_zero, List.set_cons_succ]
    refine wpAnyH_done (by kernel_rfl) ?_ _
    have hbf := Lib.hid (below_kept hb8.out hHeld.1 hb8.out.size)
    clear hHeld
    go_wp2
    go_ret
    exact ⟨rfl, hbf.out⟩
  · cases u
    · rw [if_neg (by simp)] at hS'
      subst hS'
      subst hy
      replace hHW := Lib.hid hHW
      go_upto_region 27 with (fail)
      refine wp_region_held_drew (S := fun wz => Kept w8 wz ∧ Has g16 (A.cells S') 27 wz) (by kernel_rfl) ?_ (fun hHeld => ?_)
      · exact ⟨hKt.drew, hHW.out⟩
      refine wpAnyH_take (i := 0) (oi := { dst := some 134, op := Op.move (Operand.tmp 13), type := 3, pos := "law.go:177", after := #[], guard := none }) (v := ?_) rfl (by kernel_rfl) (by kernel_rfl) (by kernel_rfl) (fun _ _ _ h => h) (Or.inl ⟨rfl, ?_⟩) hHeld ?_
      rotate_left
      · (intro wz hSw; (try dsimp only at hSw); go_simp; try with_reducible rfl)
      try simp only [Act.put, List.setIfInBounds_toArray, List.set_cons_zero, List.set_cons_succ]
      refine wpAnyH_take (i := 1) (oi := { dst := some 135, op := Op.binOp BinOp.eql 3 (Operand.tmp 134) (Operand.const (Value.int IntKind.i64 0)) 3, type := 4, pos := "law.go:177", after := #[eD 0], guard := none }) (v := ?_) rfl (by kernel_rfl) (by kernel_rfl) (by kernel_rfl) (fun _ _ _ h => h) (Or.inl ⟨rfl, ?_⟩) hHeld ?_
      rotate_left
      · (intro wz hSw; (try dsimp only at hSw); go_simp; try with_reducible rfl)
      try simp only [Act.put, List.setIfInBounds_toArray, List.set_cons_zero, List.set_cons_succ]
      refine wpAnyH_take (i := 2) (oi := { dst := some 136, op := Op.move (Operand.tmp 135), type := 4, pos := "law.go:177", after := #[eD 1], guard := none }) (v := ?_) rfl (by kernel_rfl) (by kernel_rfl) (by kernel_rfl) (fun _ _ _ h => h) (Or.inl ⟨rfl, ?_⟩) hHeld ?_
      rotate_left
      · (intro wz hSw; (try dsimp only at hSw); go_simp; try with_reducible rfl)
      try simp only [Act.put, List.setIfInBounds_toArray, List.set_cons_zero, List.set_cons_succ]
      refine wpAnyH_take (i := 3) (oi := { dst := some 137, op := Op.move (Operand.tmp 9), type := 36, pos := "law.go:177", after := #[eG 2], guard := some (2, true) }) (v := ?_) rfl (by kernel_rfl) (by kernel_rfl) (by kernel_rfl) (fun _ _ _ h => h) (Or.inl ⟨rfl, ?_⟩) hHeld ?_
      rotate_left
      · (intro wz hSw; (try dsimp only at hSw); go_simp; try with_reducible rfl)
      try simp only [Act.put, List.setIfInBounds_toArray, List.set_cons_zero, List.set_cons_succ]
      refine wpAnyH_take (i := 5) (oi := { dst := some 139, op := Op.load 27 (Operand.tmp 16), type := 27, pos := "law.go:177", after := #[eG 2], guard := some (2, true) }) (v := ?_) rfl (by kernel_rfl) (by kernel_rfl) (by kernel_rfl) (fun _ _ _ h => h) (Or.inl ⟨rfl, ?_⟩) hHeld ?_
      rotate_left
      · (intro wz hSw; refine exec_load_has 27 (Operand.tmp 16) ?_ _ ?_ hSw.2 Try.underlying27 rfl (A.info25 _) <;> rfl)
      try simp only [Act.put, List.setIfInBounds_toArray, List.set_cons_zero, List.set_cons_succ]
      refine wpAnyH_ready (rs := [4]) (by kernel_rfl) (by simp) ?_
      refine AllReadyH.cons (o := { dst := some 138, op := Op.call { callee := Callee.value (Operand.func 15), args := #[Operand.tmp 137], argTypes := #[36] }, type := 27, pos := "law.go:177", after := #[eD 3, eC 2, eG 2], guard := some (2, true) }) rfl (fun K hK => ?_) (AllReadyH.nil)
      go_simp
      go_at_call 15
      refine (regs_live (hL8.out.kept hHeld.1)).mono ?_
      rintro e wd ⟨rfl, hKd⟩
      have hN := (show (fun wz => Kept w8 wz ∧ Has g16 (A.cells S') 27 wz) _ from ⟨hHeld.1.trans hKd, hHeld.2.kept hKd⟩)
      clear hHeld
      refine hK.out _ _ hN (fun hHeld => ?_)
      clear hK K hN
      try simp only [Act.put, List.setIfInBounds_toArray, List.set_cons_zero, List.set_cons_succ]
      refine wpAnyH_take (i := 6) (oi := { dst := some 140, op := Op.binOp BinOp.eql 27 (Operand.tmp 138) (Operand.tmp 139) 27, type := 4, pos := "law.go:177", after := #[eD 4, eD 5, eG 2], guard := some (2, true) }) (v := ?_) rfl (by kernel_rfl) (by kernel_rfl) (by kernel_rfl) (fun _ _ _ h => h) (Or.inl ⟨rfl, ?_⟩) hHeld ?_
      rotate_left
      · (intro wz hSw; refine exec_eq_regs (o := { dst := some 140, op := Op.binOp BinOp.eql 27 (Operand.tmp 138) (Operand.tmp 139) 27, type := 4, pos := "law.go:177", after := #[eD 4, eD 5, eG 2], guard := some (2, true) }) (Operand.tmp 138) (Operand.tmp 139) ?_ S' ?_ ?_ <;> rfl)
      try simp only [Act.put, List.setIfInBounds_toArray, List.set_cons_zero, List.set_cons_succ]
      refine wpAnyH_take (i := 7) (oi := { dst := some 141, op := Op.pick (Operand.tmp 136) (Operand.tmp 140) (Operand.const (Value.bool false)), type := 4, pos := "law.go:177", after := #[eD 2, eD 6], guard := none }) (v := ?_) rfl (by kernel_rfl) (by kernel_rfl) (by kernel_rfl) (fun _ _ _ h => h) (Or.inl ⟨rfl, ?_⟩) hHeld ?_
      rotate_left
      · (intro wz hSw; (try dsimp only at hSw); go_simp; try with_reducible rfl)
      try simp only [Act.put, List.setIfInBounds_toArray, List.set_cons_zero, List.set_cons_succ]
      refine wpAnyH_take (i := 8) (oi := { dst := some 142, op := Op.move (Operand.tmp 141), type := 4, pos := "law.go:177", after := #[eD 7, eC 4], guard := none }) (v := ?_) rfl (by kernel_rfl) (by kernel_rfl) (by kernel_rfl) (fun _ _ _ h => h) (Or.inl ⟨rfl, ?_⟩) hHeld ?_
      rotate_left
      · (intro wz hSw; (try dsimp only at hSw); go_simp; try with_reducible rfl)
      try simp only [Act.put, List.setIfInBounds_toArray, List.set_cons_zero, List.set_cons_succ]
      refine wpAnyH_take (i := 9) (oi := { dst := some 143, op := Op.move (Operand.tmp 9), type := 36, pos := "law.go:177", after := #[eG 8], guard := some (8, true) }) (v := ?_) rfl (by kernel_rfl) (by kernel_rfl) (by kernel_rfl) (fun _ _ _ h => h) (Or.inl ⟨rfl, ?_⟩) hHeld ?_
      rotate_left
      · (intro wz hSw; (try dsimp only at hSw); go_simp; try with_reducible rfl)
      try simp only [Act.put, List.setIfInBounds_toArray, List.set_cons_zero, List.set_cons_succ]
      refine wpAnyH_take (i := 11) (oi := { dst := some 145, op := Op.move (Operand.tmp 17), type := 24, pos := "law.go:177", after := #[eG 8], guard := some (8, true) }) (v := ?_) rfl (by kernel_rfl) (by kernel_rfl) (by kernel_rfl) (fun _ _ _ h => h) (Or.inl ⟨rfl, ?_⟩) hHeld ?_
      rotate_left
      · (intro wz hSw; (try dsimp only at hSw); go_simp; try with_reducible rfl)
      try simp only [Act.put, List.setIfInBounds_toArray, List.set_cons_zero, List.set_cons_succ]
      refine wpAnyH_ready (rs := [10]) (by kernel_rfl) (by simp) ?_
      refine AllReadyH.cons (o := { dst := some 144, op := Op.call { callee := Callee.value (Operand.func 16), args := #[Operand.tmp 143], argTypes := #[36] }, type := 24, pos := "law.go:177", after := #[eD 9, eC 8, eG 8], guard := some (8, true) }) rfl (fun K hK => ?_) (AllReadyH.nil)
      go_simp
      go_at_call 16
      refine (pc_live (hL8.out.kept hHeld.1)).mono ?_
      rintro e we ⟨rfl, rfl⟩
      have hN := (show (fun wz => Kept w8 wz ∧ Has g16 (A.cells S') 27 wz) _ from hHeld)
      clear hHeld
      refine hK.out _ _ hN (fun hHeld => ?_)
      clear hK K hN
      try simp only [Act.put, List.setIfInBounds_toArray, List.set_cons_zero, List.set_cons_succ]
      refine wpAnyH_take (i := 12) (oi := { dst := some 146, op := Op.binOp BinOp.eql 24 (Operand.tmp 144) (Operand.tmp 145) 24, type := 4, pos := "law.go:177", after := #[eD 10, eD 11, eG 8], guard := some (8, true) }) (v := ?_) rfl (by kernel_rfl) (by kernel_rfl) (by kernel_rfl) (fun _ _ _ h => h) (Or.inl ⟨rfl, ?_⟩) hHeld ?_
      rotate_left
      · (intro wz hSw; (try dsimp only at hSw); go_simp; try with_reducible rfl)
      try simp only [Act.put, List.setIfInBounds_toArray, List.set_cons_zero, List.set_cons_succ]
      refine wpAnyH_take (i := 13) (oi := { dst := some 147, op := Op.pick (Operand.tmp 142) (Operand.tmp 146) (Operand.const (Value.bool false)), type := 4, pos := "law.go:177", after := #[eD 8, eD 12], guard := none }) (v := ?_) rfl (by kernel_rfl) (by kernel_rfl) (by kernel_rfl) (fun _ _ _ h => h) (Or.inl ⟨rfl, ?_⟩) hHeld ?_
      rotate_left
      · (intro wz hSw; (try dsimp only at hSw); go_simp; try with_reducible rfl)
      try simp only [Act.put, List.setIfInBounds_toArray, List.set_cons_zero, List.set_cons_succ]
      refine wpAnyH_take (i := 14) (oi := { dst := some 4, op := Op.assign (Operand.tmp 147), type := 4, pos := "law.go:177", after := #[eD 13, eC 10, eP 0, eP 1, eP 2, eP 3, eP 4, eP 5, eP 6, eP 7, eP 8, eP 9, eP 10, eP 11, eP 12, eP 13], guard := none }) (v := ?_) rfl (by kernel_rfl) (by kernel_rfl) (by kernel_rfl) (fun _ _ _ h => h) (Or.inl ⟨rfl, ?_⟩) hHeld ?_
      rotate_left
      · (intro wz hSw; (try dsimp only at hSw); go_simp; try with_reducible rfl)
      try simp only [Act.put, List.setIfInBounds_toArray, List.set_cons_zero, List.set_cons_succ]
      refine wpAnyH_done (by kernel_rfl) ?_ _
      have hbf := Lib.hid (below_kept hb8.out hHeld.1 hb8.out.size)
      clear hHeld
      go_wp2
      go_ret
      exact ⟨rfl, hbf.out⟩
    · rw [if_pos rfl] at hS'
      subst hy
      have hZ := hHW.set 15 (.int .u32 (4 * (f : Int) + 4))
      rw [A.set_r s 15 (by omega) (4 * (f : Int) + 4)] at hZ
      rw [← hS'] at hZ
      clear hS'
      have hKz := hKt.setCell (p := ⟨g16, 15, none⟩) (by show w8.heap.size ≤ g16; omega) (.int .u32 (4 * (f : Int) + 4))
      clear hHW hKt
      have hHW := Lib.hid hZ
      clear hZ
      replace hKz := Lib.hid hKz
      go_upto_region 27 with (fail)
      generalize wu.setCell _ _ = wv at *
      have hKt := hKz.out
      refine wp_region_held_drew (S := fun wz => Kept w8 wz ∧ Has g16 (A.cells S') 27 wz) (by kernel_rfl) ?_ (fun hHeld => ?_)
      · exact ⟨hKt.drew, hHW.out⟩
      refine wpAnyH_take (i := 0) (oi := { dst := some 134, op := Op.move (Operand.tmp 13), type := 3, pos := "law.go:177", after := #[], guard := none }) (v := ?_) rfl (by kernel_rfl) (by kernel_rfl) (by kernel_rfl) (fun _ _ _ h => h) (Or.inl ⟨rfl, ?_⟩) hHeld ?_
      rotate_left
      · (intro wz hSw; (try dsimp only at hSw); go_simp; try with_reducible rfl)
      try simp only [Act.put, List.setIfInBounds_toArray, List.set_cons_zero, List.set_cons_succ]
      refine wpAnyH_take (i := 1) (oi := { dst := some 135, op := Op.binOp BinOp.eql 3 (Operand.tmp 134) (Operand.const (Value.int IntKind.i64 0)) 3, type := 4, pos := "law.go:177", after := #[eD 0], guard := none }) (v := ?_) rfl (by kernel_rfl) (by kernel_rfl) (by kernel_rfl) (fun _ _ _ h => h) (Or.inl ⟨rfl, ?_⟩) hHeld ?_
      rotate_left
      · (intro wz hSw; (try dsimp only at hSw); go_simp; try with_reducible rfl)
      try simp only [Act.put, List.setIfInBounds_toArray, List.set_cons_zero, List.set_cons_succ]
      refine wpAnyH_take (i := 2) (oi := { dst := some 136, op := Op.move (Operand.tmp 135), type := 4, pos := "law.go:177", after := #[eD 1], guard := none }) (v := ?_) rfl (by kernel_rfl) (by kernel_rfl) (by kernel_rfl) (fun _ _ _ h => h) (Or.inl ⟨rfl, ?_⟩) hHeld ?_
      rotate_left
      · (intro wz hSw; (try dsimp only at hSw); go_simp; try with_reducible rfl)
      try simp only [Act.put, List.setIfInBounds_toArray, List.set_cons_zero, List.set_cons_succ]
      refine wpAnyH_take (i := 3) (oi := { dst := some 137, op := Op.move (Operand.tmp 9), type := 36, pos := "law.go:177", after := #[eG 2], guard := some (2, true) }) (v := ?_) rfl (by kernel_rfl) (by kernel_rfl) (by kernel_rfl) (fun _ _ _ h => h) (Or.inl ⟨rfl, ?_⟩) hHeld ?_
      rotate_left
      · (intro wz hSw; (try dsimp only at hSw); go_simp; try with_reducible rfl)
      try simp only [Act.put, List.setIfInBounds_toArray, List.set_cons_zero, List.set_cons_succ]
      refine wpAnyH_take (i := 5) (oi := { dst := some 139, op := Op.load 27 (Operand.tmp 16), type := 27, pos := "law.go:177", after := #[eG 2], guard := some (2, true) }) (v := ?_) rfl (by kernel_rfl) (by kernel_rfl) (by kernel_rfl) (fun _ _ _ h => h) (Or.inl ⟨rfl, ?_⟩) hHeld ?_
      rotate_left
      · (intro wz hSw; refine exec_load_has 27 (Operand.tmp 16) ?_ _ ?_ hSw.2 Try.underlying27 rfl (A.info25 _) <;> rfl)
      try simp only [Act.put, List.setIfInBounds_toArray, List.set_cons_zero, List.set_cons_succ]
      refine wpAnyH_ready (rs := [4]) (by kernel_rfl) (by simp) ?_
      refine AllReadyH.cons (o := { dst := some 138, op := Op.call { callee := Callee.value (Operand.func 15), args := #[Operand.tmp 137], argTypes := #[36] }, type := 27, pos := "law.go:177", after := #[eD 3, eC 2, eG 2], guard := some (2, true) }) rfl (fun K hK => ?_) (AllReadyH.nil)
      go_simp
      go_at_call 15
      refine (regs_live (hL8.out.kept hHeld.1)).mono ?_
      rintro e wd ⟨rfl, hKd⟩
      have hN := (show (fun wz => Kept w8 wz ∧ Has g16 (A.cells S') 27 wz) _ from ⟨hHeld.1.trans hKd, hHeld.2.kept hKd⟩)
      clear hHeld
      refine hK.out _ _ hN (fun hHeld => ?_)
      clear hK K hN
      try simp only [Act.put, List.setIfInBounds_toArray, List.set_cons_zero, List.set_cons_succ]
      refine wpAnyH_take (i := 6) (oi := { dst := some 140, op := Op.binOp BinOp.eql 27 (Operand.tmp 138) (Operand.tmp 139) 27, type := 4, pos := "law.go:177", after := #[eD 4, eD 5, eG 2], guard := some (2, true) }) (v := ?_) rfl (by kernel_rfl) (by kernel_rfl) (by kernel_rfl) (fun _ _ _ h => h) (Or.inl ⟨rfl, ?_⟩) hHeld ?_
      rotate_left
      · (intro wz hSw; refine exec_eq_regs (o := { dst := some 140, op := Op.binOp BinOp.eql 27 (Operand.tmp 138) (Operand.tmp 139) 27, type := 4, pos := "law.go:177", after := #[eD 4, eD 5, eG 2], guard := some (2, true) }) (Operand.tmp 138) (Operand.tmp 139) ?_ S' ?_ ?_ <;> rfl)
      try simp only [Act.put, List.setIfInBounds_toArray, List.set_cons_zero, List.set_cons_succ]
      refine wpAnyH_take (i := 7) (oi := { dst := some 141, op := Op.pick (Operand.tmp 136) (Operand.tmp 140) (Operand.const (Value.bool false)), type := 4, pos := "law.go:177", after := #[eD 2, eD 6], guard := none }) (v := ?_) rfl (by kernel_rfl) (by kernel_rfl) (by kernel_rfl) (fun _ _ _ h => h) (Or.inl ⟨rfl, ?_⟩) hHeld ?_
      rotate_left
      · (intro wz hSw; (try dsimp only at hSw); go_simp; try with_reducible rfl)
      try simp only [Act.put, List.setIfInBounds_toArray, List.set_cons_zero, List.set_cons_succ]
      refine wpAnyH_take (i := 8) (oi := { dst := some 142, op := Op.move (Operand.tmp 141), type := 4, pos := "law.go:177", after := #[eD 7, eC 4], guard := none }) (v := ?_) rfl (by kernel_rfl) (by kernel_rfl) (by kernel_rfl) (fun _ _ _ h => h) (Or.inl ⟨rfl, ?_⟩) hHeld ?_
      rotate_left
      · (intro wz hSw; (try dsimp only at hSw); go_simp; try with_reducible rfl)
      try simp only [Act.put, List.setIfInBounds_toArray, List.set_cons_zero, List.set_cons_succ]
      refine wpAnyH_take (i := 9) (oi := { dst := some 143, op := Op.move (Operand.tmp 9), type := 36, pos := "law.go:177", after := #[eG 8], guard := some (8, true) }) (v := ?_) rfl (by kernel_rfl) (by kernel_rfl) (by kernel_rfl) (fun _ _ _ h => h) (Or.inl ⟨rfl, ?_⟩) hHeld ?_
      rotate_left
      · (intro wz hSw; (try dsimp only at hSw); go_simp; try with_reducible rfl)
      try simp only [Act.put, List.setIfInBounds_toArray, List.set_cons_zero, List.set_cons_succ]
      refine wpAnyH_take (i := 11) (oi := { dst := some 145, op := Op.move (Operand.tmp 17), type := 24, pos := "law.go:177", after := #[eG 8], guard := some (8, true) }) (v := ?_) rfl (by kernel_rfl) (by kernel_rfl) (by kernel_rfl) (fun _ _ _ h => h) (Or.inl ⟨rfl, ?_⟩) hHeld ?_
      rotate_left
      · (intro wz hSw; (try dsimp only at hSw); go_simp; try with_reducible rfl)
      try simp only [Act.put, List.setIfInBounds_toArray, List.set_cons_zero, List.set_cons_succ]
      refine wpAnyH_ready (rs := [10]) (by kernel_rfl) (by simp) ?_
      refine AllReadyH.cons (o := { dst := some 144, op := Op.call { callee := Callee.value (Operand.func 16), args := #[Operand.tmp 143], argTypes := #[36] }, type := 24, pos := "law.go:177", after := #[eD 9, eC 8, eG 8], guard := some (8, true) }) rfl (fun K hK => ?_) (AllReadyH.nil)
      go_simp
      go_at_call 16
      refine (pc_live (hL8.out.kept hHeld.1)).mono ?_
      rintro e we ⟨rfl, rfl⟩
      have hN := (show (fun wz => Kept w8 wz ∧ Has g16 (A.cells S') 27 wz) _ from hHeld)
      clear hHeld
      refine hK.out _ _ hN (fun hHeld => ?_)
      clear hK K hN
      try simp only [Act.put, List.setIfInBounds_toArray, List.set_cons_zero, List.set_cons_succ]
      refine wpAnyH_take (i := 12) (oi := { dst := some 146, op := Op.binOp BinOp.eql 24 (Operand.tmp 144) (Operand.tmp 145) 24, type := 4, pos := "law.go:177", after := #[eD 10, eD 11, eG 8], guard := some (8, true) }) (v := ?_) rfl (by kernel_rfl) (by kernel_rfl) (by kernel_rfl) (fun _ _ _ h => h) (Or.inl ⟨rfl, ?_⟩) hHeld ?_
      rotate_left
      · (intro wz hSw; (try dsimp only at hSw); go_simp; try with_reducible rfl)
      try simp only [Act.put, List.setIfInBounds_toArray, List.set_cons_zero, List.set_cons_succ]
      refine wpAnyH_take (i := 13) (oi := { dst := some 147, op := Op.pick (Operand.tmp 142) (Operand.tmp 146) (Operand.const (Value.bool false)), type := 4, pos := "law.go:177", after := #[eD 8, eD 12], guard := none }) (v := ?_) rfl (by kernel_rfl) (by kernel_rfl) (by kernel_rfl) (fun _ _ _ h => h) (Or.inl ⟨rfl, ?_⟩) hHeld ?_
      rotate_left
      · (intro wz hSw; (try dsimp only at hSw); go_simp; try with_reducible rfl)
      try simp only [Act.put, List.setIfInBounds_toArray, List.set_cons_zero, List.set_cons_succ]
      refine wpAnyH_take (i := 14) (oi := { dst := some 4, op := Op.assign (Operand.tmp 147), type := 4, pos := "law.go:177", after := #[eD 13, eC 10, eP 0, eP 1, eP 2, eP 3, eP 4, eP 5, eP 6, eP 7, eP 8, eP 9, eP 10, eP 11, eP 12, eP 13], guard := none }) (v := ?_) rfl (by kernel_rfl) (by kernel_rfl) (by kernel_rfl) (fun _ _ _ h => h) (Or.inl ⟨rfl, ?_⟩) hHeld ?_
      rotate_left
      · (intro wz hSw; (try dsimp only at hSw); go_simp; try with_reducible rfl)
      try simp only [Act.put, List.setIfInBounds_toArray, List.set_cons_zero, List.set_cons_succ]
      refine wpAnyH_done (by kernel_rfl) ?_ _
      have hbf := Lib.hid (below_kept hb8.out hHeld.1 hb8.out.size)
      clear hHeld
      go_wp2
      go_ret
      exact ⟨rfl, hbf.out⟩
end Go.Proofs.Ytlmddkciamdldaa
