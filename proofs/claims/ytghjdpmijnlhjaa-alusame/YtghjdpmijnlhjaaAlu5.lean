/-
  The contract of alu.Do.
-/
import Derived.Test.YtghjdpmijnlhjaaAlu4
namespace Go.Proofs.Ytghjdpmijnlhjaa
open Go.RowKit
set_option linter.unusedVariables false
set_option linter.unusedSimpArgs false
/-- what stands in memory while Do runs: the registers, the instruction, the result's place, the row -/
structure A.St (s : A.Regs) (I : Array Value) (B : Nat) (R : Array Value) (w w' : World) : Prop where
  kept : Kept w w'
  regs : Has w.heap.size (A.cells s) 25 w'
  ins : Has (w.heap.size + 1) I 27 w'
  res : Has (w.heap.size + 2) (A.cells A.none') 25 w'
  row : Has B R 46 w'
theorem A.St.step {s : A.Regs} {I : Array Value} {B : Nat} {R : Array Value} {w w1 w2 : World} (h : A.St s I B R w w1) (hK : Kept w1 w2) : A.St s I B R w w2 :=
  ⟨h.kept.trans hK, h.regs.kept hK, h.ins.kept hK, h.res.kept hK, h.row.kept hK⟩
theorem A.St.rowNew {s : A.Regs} {I : Array Value} {B : Nat} {R : Array Value} {w w1 : World} (h : A.St s I B R w w1) {B8 : Nat} (h1 : w.heap.size + 2 < B8) (h2 : B < B8) (cs : Array Value) : A.St s I B R w (w1.setRow B8 cs) :=
  ⟨h.kept.row (by omega) _, h.regs.rowOther (by omega) _, h.ins.rowOther (by omega) _, h.res.rowOther (by omega) _, h.row.rowOther (by omega) _⟩
theorem A.St.cell {s : A.Regs} {I : Array Value} {B : Nat} {R : Array Value} {w w1 : World} (h : A.St s I B R w w1) {p : Addr} (h1 : w.heap.size + 2 < p.block) (h2 : B < p.block) (v : Value) : A.St s I B R w (w1.setCell p v) :=
  ⟨h.kept.setCell (by omega) _, h.regs.other (by omega) _, h.ins.other (by omega) _, h.res.other (by omega) _, h.row.other (by omega) _⟩
theorem Has.new2' (cs : Array Value) (t : TypeId) (w : World) (o o' : Obj) : Has (w.heap.size + 1 + 1) cs t (((w.alloc o).alloc o').alloc (.cells cs t)) := Has.new2 cs t w o o'
theorem wp_call_value {P : Program} {o : Oper} {a : Act} {w : World} {K : Act → World → Prop} {Q : Exit → Act → World → Prop} (x : Operand) (args : Array Operand) (tys : Array TypeId) (ho : o.op = .call ⟨.value x, args, tys⟩) (f : Nat) (hx : a.eval x = .func (.func f) #[] #[])
    (hf : ∀ args w, (callFunc f args).run P w = .ok (.enter f args) w) (vs : Array Value) (hv : args.map a.eval = vs)
    (h : Calls P f vs w (fun | .returned v, w'' => K (a.put o.dst v) w'' | .panicked chain, w'' => Q (.panic chain) a w'' | .outgrown, _ => LetsOut Q)) : o.wp P a w K Q := by
  unfold Oper.wp execOp
  simp only [ho, resolve, Sem.run_bind, hx, Deferred.ofValue, Sem.run_pure, Result.andThen_ok, invoke, Array.empty_append, Array.append_empty, hf, hv, Oper.upon]
  exact h
theorem A.infoI : (Try.prog.info? 27).map (·.size) = some 7 := by kernel_rfl
theorem A.builtOp (s : A.Regs) (b n : Int) (u : Bool) : Try.prog.built 53 [(0, .agg (A.cells s)), (1, .int .u32 b), (2, .int .u32 n), (3, .bool u)] = some (A.opnd s b n u) := by
  rw [built_of (show shapeOf Try.prog 53 = some (A.opnd A.none' 0 0 false, [(0, 21), (21, 1), (22, 1), (23, 1)]) by kernel_rfl)]
  simp [Instr.fill, Value.cells, A.cells, A.opnd, A.none']
/-- no row: nothing is done -/
theorem do_none (s : A.Regs) (k op a b c i : Int) (u : Bool) (w : World)
    (HO : Hid (∀ w, Calls Try.prog 17 #[.agg #[.int .i64 k, .int .i64 op, .int .i64 a, .int .i64 b, .int .i64 c, .int .i64 i, .bool u]] w fun e w' => e = .returned (.tuple #[.agg A.norow, .bool false]) ∧ Kept w w')) :
    Calls Try.prog 11 #[.agg (A.cells s), .agg #[.int .i64 k, .int .i64 op, .int .i64 a, .int .i64 b, .int .i64 c, .int .i64 i, .bool u]] w fun e w' => e = .returned (.tuple #[.agg (A.cells s), .int .i64 0]) ∧ Kept w w' := by
  go_enter Try.func11, Try.ntmps11
  go_wp2_with fail
  refine (HO.out _).mono ?_; rintro e w2 ⟨rfl, hK2⟩
  have hX := (Has.new2 _ _ _ _ _).kept hK2
  have hR := (((Has.new _ _ _).alloc _).alloc _).kept hK2
  have hK := ((((Kept.refl w).alloc _ _).alloc _ _).alloc _ _).trans hK2
  clear hK2
  replace hX := Lib.hid hX
  replace hR := Lib.hid hR
  replace hK := Lib.hid hK
  go_wp2_with (first
    | (with_reducible refine store_last (o := ⟨none, Op.store 46 _ _, _, _, _, _⟩) rfl 46 _ _ rfl _ _ rfl rfl rfl A.infoNo (by kernel_rfl) A.one_norow ?_)
    | (with_reducible refine load_has (o := ⟨some 17, _, _, _, _, _⟩) rfl 25 _ rfl _ rfl (hR.out.alloc _) Try.underlying25 rfl (A.info25 _) ?_)
    | (with_reducible refine store_has (o := ⟨none, Op.store 25 _ _, _, _, _, _⟩) rfl 25 _ _ rfl _ _ rfl rfl (hX.out.alloc _) (A.info25 _) (by kernel_rfl) (A.one_cells _) ?_))
  exact bodyPost_ret (results_has2 rfl (w.heap.size + 2) rfl ((hX.out.alloc _).row _) Try.underlying25 rfl (A.info25 _)) rfl ⟨rfl, (hK.out.alloc _ _).row (by omega) _⟩
set_option maxHeartbeats 2000000 in
theorem do_ok (s s' : A.Regs) (k op a b c i n x o : Int) (u : Bool) (f : Nat) (ha0 : 0 ≤ a) (ha1 : a < 16) (hb0 : 0 ≤ b) (hb1 : b < 16) (hx0 : 0 ≤ x) (hx1 : x < 4294967296) (w : World)
    (HO : Hid (∀ w, Calls Try.prog 17 #[.agg #[.int .i64 k, .int .i64 op, .int .i64 a, .int .i64 b, .int .i64 c, .int .i64 i, .bool u]] w fun e w' => e = .returned (.tuple #[.agg (A.row o f), .bool true]) ∧ Kept w w'))
    (HN : Hid (∀ w, Calls Try.prog 18 #[.agg (A.cells s), .agg #[.int .i64 k, .int .i64 op, .int .i64 a, .int .i64 b, .int .i64 c, .int .i64 i, .bool u]] w fun e w' => e = .returned (.int .u32 n) ∧ Kept w w'))
    (HF : Hid (∀ args w, (callFunc f args).run Try.prog w = .ok (.enter f args) w))
    (HW : Hid (∀ w, Calls Try.prog f #[.agg (A.opnd s (s.r b.toNat) n u)] w fun e w' => e = .returned (.agg (A.outc x s' 0)) ∧ Kept w w')) :
    Calls Try.prog 11 #[.agg (A.cells s), .agg #[.int .i64 k, .int .i64 op, .int .i64 a, .int .i64 b, .int .i64 c, .int .i64 i, .bool u]] w fun e w' => e = .returned (.tuple #[.agg (A.cells (A.show' (A.set s' a.toNat x) x)), .int .i64 0]) ∧ Kept w w' := by
  go_enter Try.func11, Try.ntmps11
  go_wp2_with fail
  refine (HO.out _).mono ?_; rintro e w2 ⟨rfl, hK2⟩
  have hX : Has (w.heap.size + 2) (A.cells A.none') 25 w2 := (Has.new2 _ _ _ _ _).kept hK2
  have hR := (((Has.new _ _ _).alloc _).alloc _).kept hK2
  have hI := ((Has.new1 _ _ _ _).alloc _).kept hK2
  have hK := ((((Kept.refl w).alloc _ _).alloc _ _).alloc _ _).trans hK2
  clear hK2
  have hS : A.St s #[.int .i64 k, .int .i64 op, .int .i64 a, .int .i64 b, .int .i64 c, .int .i64 i, .bool u] w2.heap.size (A.row o f) w (w2.alloc (.cells (A.row o f) 46)) := ⟨hK.alloc _ _, hR.alloc _, hI.alloc _, hX.alloc _, Has.new _ _ _⟩
  clear hX hR hI hK
  replace hS := Lib.hid hS
  go_upto_region 4 with (first
    | (with_reducible refine store_last (o := ⟨none, Op.store 46 _ _, _, _, _, _⟩) rfl 46 _ _ rfl _ _ rfl rfl rfl (A.infoRow _ _) (by kernel_rfl) (A.one_row _ _) ?_))
  refine wp_region_held_drew (S := A.St s #[.int .i64 k, .int .i64 op, .int .i64 a, .int .i64 b, .int .i64 c, .int .i64 i, .bool u] w2.heap.size (A.row o f) w) (by kernel_rfl) ?_ (fun hHeld => ?_)
  · exact hS.out.step (Kept.refl _).drew
  refine wpAnyH_take (i := 0) (oi := { dst := some 18, op := Op.fieldAddr 46 (Operand.tmp 6) 1, type := 0, pos := "alu.go:36", after := #[], guard := none }) (v := ?_) rfl (by kernel_rfl) (by kernel_rfl) (by kernel_rfl) (fun _ _ _ h => h) (Or.inl ⟨rfl, ?_⟩) hHeld ?_
  rotate_left
  · (intro wz hSw; (try dsimp only at hSw); have q0 := hSw.row.cell 1 _ (A.row_1 _ _); have q1 := hSw.ins.cell 3 _ rfl; have q2 := hSw.ins.cell 6 _ rfl; have q3 := hSw.regs.cell b.toNat _ (A.cell_r s b.toNat (by omega)); go_simp; try with_reducible rfl)
  try simp only [Act.put, List.setIfInBounds_toArray, List.set_cons_zero, List.set_cons_succ]
  refine wpAnyH_take (i := 1) (oi := { dst := some 19, op := Op.load 44 (Operand.tmp 18), type := 44, pos := "alu.go:36", after := #[{ on := 0, ground := Ground.data }], guard := none }) (v := ?_) rfl (by kernel_rfl) (by kernel_rfl) (by kernel_rfl) (fun _ _ _ h => h) (Or.inl ⟨rfl, ?_⟩) hHeld ?_
  rotate_left
  · (intro wz hSw; (try dsimp only at hSw); have q0 := hSw.row.cell 1 _ (A.row_1 _ _); have q1 := hSw.ins.cell 3 _ rfl; have q2 := hSw.ins.cell 6 _ rfl; have q3 := hSw.regs.cell b.toNat _ (A.cell_r s b.toNat (by omega)); go_simp; try with_reducible rfl)
  try simp only [Act.put, List.setIfInBounds_toArray, List.set_cons_zero, List.set_cons_succ]
  refine wpAnyH_take (i := 2) (oi := { dst := some 20, op := Op.load 25 (Operand.tmp 2), type := 25, pos := "alu.go:36", after := #[], guard := none }) (v := ?_) rfl (by kernel_rfl) (by kernel_rfl) (by kernel_rfl) (fun _ _ _ h => h) (Or.inl ⟨rfl, ?_⟩) hHeld ?_
  rotate_left
  · (intro wz hSw; refine exec_load_has 25 (Operand.tmp 2) ?_ _ ?_ hSw.regs Try.underlying25 rfl (A.info25 _) <;> rfl)
  try simp only [Act.put, List.setIfInBounds_toArray, List.set_cons_zero, List.set_cons_succ]
  refine wpAnyH_take (i := 3) (oi := { dst := some 21, op := Op.fieldAddr 27 (Operand.tmp 3) 3, type := 0, pos := "alu.go:36", after := #[], guard := none }) (v := ?_) rfl (by kernel_rfl) (by kernel_rfl) (by kernel_rfl) (fun _ _ _ h => h) (Or.inl ⟨rfl, ?_⟩) hHeld ?_
  rotate_left
  · (intro wz hSw; (try dsimp only at hSw); have q0 := hSw.row.cell 1 _ (A.row_1 _ _); have q1 := hSw.ins.cell 3 _ rfl; have q2 := hSw.ins.cell 6 _ rfl; have q3 := hSw.regs.cell b.toNat _ (A.cell_r s b.toNat (by omega)); go_simp; try with_reducible rfl)
  try simp only [Act.put, List.setIfInBounds_toArray, List.set_cons_zero, List.set_cons_succ]
  refine wpAnyH_take (i := 4) (oi := { dst := some 22, op := Op.load 3 (Operand.tmp 21), type := 3, pos := "alu.go:36", after := #[{ on := 3, ground := Ground.data }], guard := none }) (v := ?_) rfl (by kernel_rfl) (by kernel_rfl) (by kernel_rfl) (fun _ _ _ h => h) (Or.inl ⟨rfl, ?_⟩) hHeld ?_
  rotate_left
  · (intro wz hSw; (try dsimp only at hSw); have q0 := hSw.row.cell 1 _ (A.row_1 _ _); have q1 := hSw.ins.cell 3 _ rfl; have q2 := hSw.ins.cell 6 _ rfl; have q3 := hSw.regs.cell b.toNat _ (A.cell_r s b.toNat (by omega)); go_simp; try with_reducible rfl)
  try simp only [Act.put, List.setIfInBounds_toArray, List.set_cons_zero, List.set_cons_succ]
  refine wpAnyH_take (i := 5) (oi := { dst := some 23, op := Op.fieldAddr 25 (Operand.tmp 2) 0, type := 0, pos := "alu.go:36", after := #[], guard := none }) (v := ?_) rfl (by kernel_rfl) (by kernel_rfl) (by kernel_rfl) (fun _ _ _ h => h) (Or.inl ⟨rfl, ?_⟩) hHeld ?_
  rotate_left
  · (intro wz hSw; (try dsimp only at hSw); have q0 := hSw.row.cell 1 _ (A.row_1 _ _); have q1 := hSw.ins.cell 3 _ rfl; have q2 := hSw.ins.cell 6 _ rfl; have q3 := hSw.regs.cell b.toNat _ (A.cell_r s b.toNat (by omega)); go_simp; try with_reducible rfl)
  try simp only [Act.put, List.setIfInBounds_toArray, List.set_cons_zero, List.set_cons_succ]
  refine wpAnyH_take (i := 6) (oi := { dst := some 24, op := Op.indexAddr 23 (Operand.tmp 23) (Operand.tmp 22), type := 0, pos := "alu.go:36", after := #[{ on := 5, ground := Ground.data }, { on := 4, ground := Ground.data }], guard := none }) (v := ?_) rfl (by kernel_rfl) (by kernel_rfl) (by kernel_rfl) (fun _ _ _ h => h) (Or.inl ⟨rfl, ?_⟩) hHeld ?_
  rotate_left
  · (intro wz hSw; (try dsimp only at hSw); have q0 := hSw.row.cell 1 _ (A.row_1 _ _); have q1 := hSw.ins.cell 3 _ rfl; have q2 := hSw.ins.cell 6 _ rfl; have q3 := hSw.regs.cell b.toNat _ (A.cell_r s b.toNat (by omega)); go_simp; try with_reducible rfl)
  try simp only [Act.put, List.setIfInBounds_toArray, List.set_cons_zero, List.set_cons_succ]
  refine wpAnyH_take (i := 7) (oi := { dst := some 25, op := Op.load 22 (Operand.tmp 24), type := 22, pos := "alu.go:36", after := #[{ on := 6, ground := Ground.data }], guard := none }) (v := ?_) rfl (by kernel_rfl) (by kernel_rfl) (by kernel_rfl) (fun _ _ _ h => h) (Or.inl ⟨rfl, ?_⟩) hHeld ?_
  rotate_left
  · (intro wz hSw; (try dsimp only at hSw); have q0 := hSw.row.cell 1 _ (A.row_1 _ _); have q1 := hSw.ins.cell 3 _ rfl; have q2 := hSw.ins.cell 6 _ rfl; have q3 := hSw.regs.cell b.toNat _ (A.cell_r s b.toNat (by omega)); go_simp; try with_reducible rfl)
  try simp only [Act.put, List.setIfInBounds_toArray, List.set_cons_zero, List.set_cons_succ]
  refine wpAnyH_take (i := 8) (oi := { dst := some 26, op := Op.load 25 (Operand.tmp 2), type := 25, pos := "alu.go:36", after := #[], guard := none }) (v := ?_) rfl (by kernel_rfl) (by kernel_rfl) (by kernel_rfl) (fun _ _ _ h => h) (Or.inl ⟨rfl, ?_⟩) hHeld ?_
  rotate_left
  · (intro wz hSw; refine exec_load_has 25 (Operand.tmp 2) ?_ _ ?_ hSw.regs Try.underlying25 rfl (A.info25 _) <;> rfl)
  try simp only [Act.put, List.setIfInBounds_toArray, List.set_cons_zero, List.set_cons_succ]
  refine wpAnyH_take (i := 9) (oi := { dst := some 27, op := Op.load 27 (Operand.tmp 3), type := 27, pos := "alu.go:36", after := #[], guard := none }) (v := ?_) rfl (by kernel_rfl) (by kernel_rfl) (by kernel_rfl) (fun _ _ _ h => h) (Or.inl ⟨rfl, ?_⟩) hHeld ?_
  rotate_left
  · (intro wz hSw; refine exec_load_has 27 (Operand.tmp 3) ?_ _ ?_ hSw.ins Try.underlying27 rfl (by kernel_rfl) <;> rfl)
  try simp only [Act.put, List.setIfInBounds_toArray, List.set_cons_zero, List.set_cons_succ]
  refine wpAnyH_take (i := 11) (oi := { dst := some 29, op := Op.fieldAddr 27 (Operand.tmp 3) 6, type := 0, pos := "alu.go:36", after := #[], guard := none }) (v := ?_) rfl (by kernel_rfl) (by kernel_rfl) (by kernel_rfl) (fun _ _ _ h => h) (Or.inl ⟨rfl, ?_⟩) hHeld ?_
  rotate_left
  · (intro wz hSw; (try dsimp only at hSw); have q0 := hSw.row.cell 1 _ (A.row_1 _ _); have q1 := hSw.ins.cell 3 _ rfl; have q2 := hSw.ins.cell 6 _ rfl; have q3 := hSw.regs.cell b.toNat _ (A.cell_r s b.toNat (by omega)); go_simp; try with_reducible rfl)
  try simp only [Act.put, List.setIfInBounds_toArray, List.set_cons_zero, List.set_cons_succ]
  refine wpAnyH_take (i := 12) (oi := { dst := some 30, op := Op.load 4 (Operand.tmp 29), type := 4, pos := "alu.go:36", after := #[{ on := 11, ground := Ground.data }], guard := none }) (v := ?_) rfl (by kernel_rfl) (by kernel_rfl) (by kernel_rfl) (fun _ _ _ h => h) (Or.inl ⟨rfl, ?_⟩) hHeld ?_
  rotate_left
  · (intro wz hSw; (try dsimp only at hSw); have q0 := hSw.row.cell 1 _ (A.row_1 _ _); have q1 := hSw.ins.cell 3 _ rfl; have q2 := hSw.ins.cell 6 _ rfl; have q3 := hSw.regs.cell b.toNat _ (A.cell_r s b.toNat (by omega)); go_simp; try with_reducible rfl)
  try simp only [Act.put, List.setIfInBounds_toArray, List.set_cons_zero, List.set_cons_succ]
  refine wpAnyH_ready (rs := [10, 15]) (by kernel_rfl) (by simp) ?_
  refine AllReadyH.cons (o := { dst := some 28, op := Op.call { callee := Callee.value (Operand.func 18), args := #[Operand.tmp 26, Operand.tmp 27], argTypes := #[25, 27] }, type := 22, pos := "alu.go:36", after := #[{ on := 8, ground := Ground.data }, { on := 9, ground := Ground.data }], guard := none }) rfl (fun K hK => ?_) (AllReadyH.cons (o := { dst := some 8, op := Op.alloc 50, type := 0, pos := "alu.go:36", after := #[], guard := none }) rfl (fun K hK => ?_) (AllReadyH.nil))
  · go_simp
    go_at_call 18
    refine (HN.out _).mono ?_
    rintro e w5 ⟨rfl, hK5⟩
    have hN := (show (A.St s #[.int .i64 k, .int .i64 op, .int .i64 a, .int .i64 b, .int .i64 c, .int .i64 i, .bool u] w2.heap.size (A.row o f) w) _ from hHeld.step hK5)
    clear hHeld
    refine hK.out _ _ hN (fun hHeld => ?_)
    clear hK K hN
    try simp only [Act.put, List.setIfInBounds_toArray, List.set_cons_zero, List.set_cons_succ]
    refine wpAnyH_take (i := 13) (oi := { dst := some 31, op := Op.build 53 #[(0, Operand.tmp 20), (1, Operand.tmp 25), (2, Operand.tmp 28), (3, Operand.tmp 30)], type := 53, pos := "alu.go:36", after := #[{ on := 2, ground := Ground.data }, { on := 7, ground := Ground.data }, { on := 10, ground := Ground.data }, { on := 12, ground := Ground.data }], guard := none }) (v := ?_) rfl (by kernel_rfl) (by kernel_rfl) (by kernel_rfl) (fun _ _ _ h => h) (Or.inl ⟨rfl, ?_⟩) hHeld ?_
    rotate_left
    · (intro wz hSw; refine exec_build (o := { dst := some 31, op := Op.build 53 #[(0, Operand.tmp 20), (1, Operand.tmp 25), (2, Operand.tmp 28), (3, Operand.tmp 30)], type := 53, pos := "alu.go:36", after := #[{ on := 2, ground := Ground.data }, { on := 7, ground := Ground.data }, { on := 10, ground := Ground.data }, { on := 12, ground := Ground.data }], guard := none }) 53 _ rfl (A.opnd s (s.r b.toNat) n u) ?_; (go_simp; exact A.builtOp _ _ _ _))
    try simp only [Act.put, List.setIfInBounds_toArray, List.set_cons_zero, List.set_cons_succ]
    refine wpAnyH_ready (rs := [14, 15]) (by kernel_rfl) (by simp) ?_
    refine AllReadyH.cons (o := { dst := some 32, op := Op.call { callee := Callee.value (Operand.tmp 19), args := #[Operand.tmp 31], argTypes := #[53] }, type := 50, pos := "alu.go:36", after := #[{ on := 1, ground := Ground.data }, { on := 13, ground := Ground.data }, { on := 10, ground := Ground.chain }], guard := none }) rfl (fun K hK => ?_) (AllReadyH.cons (o := { dst := some 8, op := Op.alloc 50, type := 0, pos := "alu.go:36", after := #[], guard := none }) rfl (fun K hK => ?_) (AllReadyH.nil))
    · refine wp_call_value (o := { dst := some 32, op := Op.call { callee := Callee.value (Operand.tmp 19), args := #[Operand.tmp 31], argTypes := #[53] }, type := 50, pos := "alu.go:36", after := #[{ on := 1, ground := Ground.data }, { on := 13, ground := Ground.data }, { on := 10, ground := Ground.chain }], guard := none }) _ _ _ rfl f ?_ HF.out #[.agg (A.opnd s (s.r b.toNat) n u)] ?_ ?_
      · rfl
      · go_simp
      refine (HW.out _).mono ?_
      rintro e w6 ⟨rfl, hK5⟩
      have hN := (show (A.St s #[.int .i64 k, .int .i64 op, .int .i64 a, .int .i64 b, .int .i64 c, .int .i64 i, .bool u] w2.heap.size (A.row o f) w) _ from hHeld.step hK5)
      clear hHeld
      refine hK.out _ _ hN (fun hHeld => ?_)
      clear hK K hN
      try simp only [Act.put, List.setIfInBounds_toArray, List.set_cons_zero, List.set_cons_succ]
      refine wpAnyH_ready (rs := [15]) (by kernel_rfl) (by simp) ?_
      refine AllReadyH.cons (o := { dst := some 8, op := Op.alloc 50, type := 0, pos := "alu.go:36", after := #[], guard := none }) rfl (fun K hK => ?_) (AllReadyH.nil)
      have hl1 := hHeld.res.lt
      have hl2 := hHeld.row.lt
      go_simp
      have hA := Has.new #[.int .u32 0, .int .u32 0, .int .u32 0, .int .u32 0, .int .u32 0, .int .u32 0, .int .u32 0, .int .u32 0, .int .u32 0, .int .u32 0, .int .u32 0, .int .u32 0, .int .u32 0, .int .u32 0, .int .u32 0, .int .u32 0, .int .u32 0, .int .u32 0, .bool false, .bool false, .bool false, .bool false, .int .i64 0] 50 w6
      have hN := (show (A.St s #[.int .i64 k, .int .i64 op, .int .i64 a, .int .i64 b, .int .i64 c, .int .i64 i, .bool u] w2.heap.size (A.row o f) w) _ from hHeld.step ((Kept.refl _).alloc #[.int .u32 0, .int .u32 0, .int .u32 0, .int .u32 0, .int .u32 0, .int .u32 0, .int .u32 0, .int .u32 0, .int .u32 0, .int .u32 0, .int .u32 0, .int .u32 0, .int .u32 0, .int .u32 0, .int .u32 0, .int .u32 0, .int .u32 0, .int .u32 0, .bool false, .bool false, .bool false, .bool false, .int .i64 0] 50))
      clear hHeld
      refine hK.out _ _ hN (fun hHeld => ?_)
      clear hK K hN
      try simp only [Act.put, List.setIfInBounds_toArray, List.set_cons_zero, List.set_cons_succ]
      refine wpAnyH_ready (rs := [16]) (by kernel_rfl) (by simp) ?_
      refine AllReadyH.cons (o := { dst := none, op := Op.store 50 (Operand.tmp 8) (Operand.tmp 32), type := 0, pos := "alu.go:36", after := #[{ on := 15, ground := Ground.data }, { on := 14, ground := Ground.data }, { on := 14, ground := Ground.chain }, { on := 0, ground := Ground.phase }, { on := 1, ground := Ground.phase }, { on := 2, ground := Ground.phase }, { on := 3, ground := Ground.phase }, { on := 4, ground := Ground.phase }, { on := 5, ground := Ground.phase }, { on := 6, ground := Ground.phase }, { on := 7, ground := Ground.phase }, { on := 8, ground := Ground.phase }, { on := 9, ground := Ground.phase }, { on := 10, ground := Ground.phase }, { on := 11, ground := Ground.phase }, { on := 12, ground := Ground.phase }, { on := 13, ground := Ground.phase }, { on := 14, ground := Ground.phase }, { on := 15, ground := Ground.phase }], guard := none }) rfl (fun K hK => ?_) (AllReadyH.nil)
      refine wp_store_row (o := { dst := none, op := Op.store 50 (Operand.tmp 8) (Operand.tmp 32), type := 0, pos := "alu.go:36", after := #[{ on := 15, ground := Ground.data }, { on := 14, ground := Ground.data }, { on := 14, ground := Ground.chain }, { on := 0, ground := Ground.phase }, { on := 1, ground := Ground.phase }, { on := 2, ground := Ground.phase }, { on := 3, ground := Ground.phase }, { on := 4, ground := Ground.phase }, { on := 5, ground := Ground.phase }, { on := 6, ground := Ground.phase }, { on := 7, ground := Ground.phase }, { on := 8, ground := Ground.phase }, { on := 9, ground := Ground.phase }, { on := 10, ground := Ground.phase }, { on := 11, ground := Ground.phase }, { on := 12, ground := Ground.phase }, { on := 13, ground := Ground.phase }, { on := 14, ground := Ground.phase }, { on := 15, ground := Ground.phase }], guard := none }) 50 _ _ rfl _ (A.outc x s' 0) ?_ ?_ 50 _ hA (A.infoOut _ _ _) (by kernel_rfl) (A.one_outc _ _ _) ?_
      · rfl
      · rfl
      replace hA := hA.row (A.outc x s' 0)
      have hN := (show (A.St s #[.int .i64 k, .int .i64 op, .int .i64 a, .int .i64 b, .int .i64 c, .int .i64 i, .bool u] w2.heap.size (A.row o f) w) _ from hHeld.rowNew (by omega) (by omega) (A.outc x s' 0))
      clear hHeld
      refine hK.out _ _ hN (fun hHeld => ?_)
      clear hK K hN
      try simp only [Act.put, List.setIfInBounds_toArray, List.set_cons_zero, List.set_cons_succ]
      refine wpAnyH_done (by kernel_rfl) ?_ _
      generalize World.setRow _ _ _ = wF at hHeld hA
      have q1 := hA.cell 0 _ (A.outc_x _ _ _)
      have q2 := hA.cell 22 _ (A.outc_t _ _ _)
      have hl3 := hHeld.res.lt
      have hl4 := hHeld.row.lt
      have hl5 := hA.lt
      replace hHeld := Lib.hid hHeld
      replace hA := Lib.hid hA
      clear hS
      go_upto_region 8 with (first
        | (with_reducible refine load_part (o := ⟨some 40, _, _, _, _, _⟩) rfl 25 _ rfl _ 1 rfl (A.cells s') hA.out (A.outc_regs _ _ _) Try.underlying25 rfl (A.info25 _) ?_)
        | (with_reducible refine store_last (o := ⟨none, Op.store 25 (.tmp 9) _, _, _, _, _⟩) rfl 25 _ _ rfl _ _ rfl rfl rfl (A.info25 _) (by kernel_rfl) (A.one_cells _) ?_))
      clear q1 q2
      have hG := hHeld.out.step ((Kept.refl wF).alloc (A.cells s') 25)
      have h9 := Has.new (A.cells s') 25 wF
      have h8 := hA.out.alloc (.cells (A.cells s') 25)
      clear hHeld hA
      generalize wF.heap.size = B9 at *
      generalize wF.alloc _ = wG at *
      have c2 := hG.ins.cell 2 _ rfl
      have c3 := h8.cell 0 _ (A.outc_x _ _ _)
      have c9 := h9.cell a.toNat _ (A.cell_r s' a.toNat (by omega))
      have f9 := h9.free a.toNat
      replace hG := Lib.hid hG
      replace h9 := Lib.hid h9
      replace h8 := Lib.hid h8
      go_upto_region 9 with (fail)
      clear c2 c3 c9 f9
      have hH := hG.out.cell (p := ⟨B9, a.toNat, none⟩) hl3 hl4 (.int .u32 x)
      have h9' := h9.out.set a.toNat (.int .u32 x)
      rw [A.set_r s' a.toNat (by omega) x] at h9'
      have h8' := h8.out.other (p := ⟨B9, a.toNat, none⟩) (Nat.ne_of_lt hl5) (.int .u32 x)
      clear hG h9 h8
      generalize World.setCell _ _ _ = wH at *
      have c3 := h8'.cell 0 _ (A.outc_x _ _ _)
      replace hH := Lib.hid hH
      replace h9' := Lib.hid h9'
      clear h8'
      go_wp2_with (first
        | (with_reducible refine load_has (o := ⟨some 47, _, _, _, _, _⟩) rfl 25 _ rfl _ rfl h9'.out Try.underlying25 rfl (A.info25 _) ?_)
        | (with_reducible refine store_has (o := ⟨none, Op.store 25 (.tmp 4) _, _, _, _, _⟩) rfl 25 _ _ rfl _ _ rfl rfl hX.out (A.info25 _) (by kernel_rfl) (A.one_cells _) ?_)
        | (go_at_call 16; (refine (show_any _ x hx0 hx1 _).mono ?_; rintro e w7 ⟨rfl, hK7⟩); (have hX := Lib.hid (hH.out.res.kept hK7)); (have hK := Lib.hid (hH.out.kept.trans hK7)); clear hK7 c3))
      exact bodyPost_ret (results_has2 rfl (w.heap.size + 2) rfl (hX.out.row _) Try.underlying25 rfl (A.info25 _)) rfl ⟨rfl, hK.out.row (by omega) _⟩
    · have hl1 := hHeld.res.lt
      have hl2 := hHeld.row.lt
      go_simp
      have hA := Has.new #[.int .u32 0, .int .u32 0, .int .u32 0, .int .u32 0, .int .u32 0, .int .u32 0, .int .u32 0, .int .u32 0, .int .u32 0, .int .u32 0, .int .u32 0, .int .u32 0, .int .u32 0, .int .u32 0, .int .u32 0, .int .u32 0, .int .u32 0, .int .u32 0, .bool false, .bool false, .bool false, .bool false, .int .i64 0] 50 w5
      have hN := (show (A.St s #[.int .i64 k, .int .i64 op, .int .i64 a, .int .i64 b, .int .i64 c, .int .i64 i, .bool u] w2.heap.size (A.row o f) w) _ from hHeld.step ((Kept.refl _).alloc #[.int .u32 0, .int .u32 0, .int .u32 0, .int .u32 0, .int .u32 0, .int .u32 0, .int .u32 0, .int .u32 0, .int .u32 0, .int .u32 0, .int .u32 0, .int .u32 0, .int .u32 0, .int .u32 0, .int .u32 0, .int .u32 0, .int .u32 0, .int .u32 0, .bool false, .bool false, .bool false, .bool false, .int .i64 0] 50))
      clear hHeld
      refine hK.out _ _ hN (fun hHeld => ?_)
      clear hK K hN
      try simp only [Act.put, List.setIfInBounds_toArray, List.set_cons_zero, List.set_cons_succ]
      refine wpAnyH_ready (rs := [14]) (by kernel_rfl) (by simp) ?_
      refine AllReadyH.cons (o := { dst := some 32, op := Op.call { callee := Callee.value (Operand.tmp 19), args := #[Operand.tmp 31], argTypes := #[53] }, type := 50, pos := "alu.go:36", after := #[{ on := 1, ground := Ground.data }, { on := 13, ground := Ground.data }, { on := 10, ground := Ground.chain }], guard := none }) rfl (fun K hK => ?_) (AllReadyH.nil)
      refine wp_call_value (o := { dst := some 32, op := Op.call { callee := Callee.value (Operand.tmp 19), args := #[Operand.tmp 31], argTypes := #[53] }, type := 50, pos := "alu.go:36", after := #[{ on := 1, ground := Ground.data }, { on := 13, ground := Ground.data }, { on := 10, ground := Ground.chain }], guard := none }) _ _ _ rfl f ?_ HF.out #[.agg (A.opnd s (s.r b.toNat) n u)] ?_ ?_
      · rfl
      · go_simp
      refine (HW.out _).mono ?_
      rintro e w6 ⟨rfl, hK5⟩
      replace hA := hA.kept hK5
      have hN := (show (A.St s #[.int .i64 k, .int .i64 op, .int .i64 a, .int .i64 b, .int .i64 c, .int .i64 i, .bool u] w2.heap.size (A.row o f) w) _ from hHeld.step hK5)
      clear hHeld
      refine hK.out _ _ hN (fun hHeld => ?_)
      clear hK K hN
      try simp only [Act.put, List.setIfInBounds_toArray, List.set_cons_zero, List.set_cons_succ]
      refine wpAnyH_ready (rs := [16]) (by kernel_rfl) (by simp) ?_
      refine AllReadyH.cons (o := { dst := none, op := Op.store 50 (Operand.tmp 8) (Operand.tmp 32), type := 0, pos := "alu.go:36", after := #[{ on := 15, ground := Ground.data }, { on := 14, ground := Ground.data }, { on := 14, ground := Ground.chain }, { on := 0, ground := Ground.phase }, { on := 1, ground := Ground.phase }, { on := 2, ground := Ground.phase }, { on := 3, ground := Ground.phase }, { on := 4, ground := Ground.phase }, { on := 5, ground := Ground.phase }, { on := 6, ground := Ground.phase }, { on := 7, ground := Ground.phase }, { on := 8, ground := Ground.phase }, { on := 9, ground := Ground.phase }, { on := 10, ground := Ground.phase }, { on := 11, ground := Ground.phase }, { on := 12, ground := Ground.phase }, { on := 13, ground := Ground.phase }, { on := 14, ground := Ground.phase }, { on := 15, ground := Ground.phase }], guard := none }) rfl (fun K hK => ?_) (AllReadyH.nil)
      refine wp_store_row (o := { dst := none, op := Op.store 50 (Operand.tmp 8) (Operand.tmp 32), type := 0, pos := "alu.go:36", after := #[{ on := 15, ground := Ground.data }, { on := 14, ground := Ground.data }, { on := 14, ground := Ground.chain }, { on := 0, ground := Ground.phase }, { on := 1, ground := Ground.phase }, { on := 2, ground := Ground.phase }, { on := 3, ground := Ground.phase }, { on := 4, ground := Ground.phase }, { on := 5, ground := Ground.phase }, { on := 6, ground := Ground.phase }, { on := 7, ground := Ground.phase }, { on := 8, ground := Ground.phase }, { on := 9, ground := Ground.phase }, { on := 10, ground := Ground.phase }, { on := 11, ground := Ground.phase }, { on := 12, ground := Ground.phase }, { on := 13, ground := Ground.phase }, { on := 14, ground := Ground.phase }, { on := 15, ground := Ground.phase }], guard := none }) 50 _ _ rfl _ (A.outc x s' 0) ?_ ?_ 50 _ hA (A.infoOut _ _ _) (by kernel_rfl) (A.one_outc _ _ _) ?_
      · rfl
      · rfl
      replace hA := hA.row (A.outc x s' 0)
      have hN := (show (A.St s #[.int .i64 k, .int .i64 op, .int .i64 a, .int .i64 b, .int .i64 c, .int .i64 i, .bool u] w2.heap.size (A.row o f) w) _ from hHeld.rowNew (by omega) (by omega) (A.outc x s' 0))
      clear hHeld
      refine hK.out _ _ hN (fun hHeld => ?_)
      clear hK K hN
      try simp only [Act.put, List.setIfInBounds_toArray, List.set_cons_zero, List.set_cons_succ]
      refine wpAnyH_done (by kernel_rfl) ?_ _
      generalize World.setRow _ _ _ = wF at hHeld hA
      have q1 := hA.cell 0 _ (A.outc_x _ _ _)
      have q2 := hA.cell 22 _ (A.outc_t _ _ _)
      have hl3 := hHeld.res.lt
      have hl4 := hHeld.row.lt
      have hl5 := hA.lt
      replace hHeld := Lib.hid hHeld
      replace hA := Lib.hid hA
      clear hS
      go_upto_region 8 with (first
        | (with_reducible refine load_part (o := ⟨some 40, _, _, _, _, _⟩) rfl 25 _ rfl _ 1 rfl (A.cells s') hA.out (A.outc_regs _ _ _) Try.underlying25 rfl (A.info25 _) ?_)
        | (with_reducible refine store_last (o := ⟨none, Op.store 25 (.tmp 9) _, _, _, _, _⟩) rfl 25 _ _ rfl _ _ rfl rfl rfl (A.info25 _) (by kernel_rfl) (A.one_cells _) ?_))
      clear q1 q2
      have hG := hHeld.out.step ((Kept.refl wF).alloc (A.cells s') 25)
      have h9 := Has.new (A.cells s') 25 wF
      have h8 := hA.out.alloc (.cells (A.cells s') 25)
      clear hHeld hA
      generalize wF.heap.size = B9 at *
      generalize wF.alloc _ = wG at *
      have c2 := hG.ins.cell 2 _ rfl
      have c3 := h8.cell 0 _ (A.outc_x _ _ _)
      have c9 := h9.cell a.toNat _ (A.cell_r s' a.toNat (by omega))
      have f9 := h9.free a.toNat
      replace hG := Lib.hid hG
      replace h9 := Lib.hid h9
      replace h8 := Lib.hid h8
      go_upto_region 9 with (fail)
      clear c2 c3 c9 f9
      have hH := hG.out.cell (p := ⟨B9, a.toNat, none⟩) hl3 hl4 (.int .u32 x)
      have h9' := h9.out.set a.toNat (.int .u32 x)
      rw [A.set_r s' a.toNat (by omega) x] at h9'
      have h8' := h8.out.other (p := ⟨B9, a.toNat, none⟩) (Nat.ne_of_lt hl5) (.int .u32 x)
      clear hG h9 h8
      generalize World.setCell _ _ _ = wH at *
      have c3 := h8'.cell 0 _ (A.outc_x _ _ _)
      replace hH := Lib.hid hH
      replace h9' := Lib.hid h9'
      clear h8'
      go_wp2_with (first
        | (with_reducible refine load_has (o := ⟨some 47, _, _, _, _, _⟩) rfl 25 _ rfl _ rfl h9'.out Try.underlying25 rfl (A.info25 _) ?_)
        | (with_reducible refine store_has (o := ⟨none, Op.store 25 (.tmp 4) _, _, _, _, _⟩) rfl 25 _ _ rfl _ _ rfl rfl hX.out (A.info25 _) (by kernel_rfl) (A.one_cells _) ?_)
        | (go_at_call 16; (refine (show_any _ x hx0 hx1 _).mono ?_; rintro e w7 ⟨rfl, hK7⟩); (have hX := Lib.hid (hH.out.res.kept hK7)); (have hK := Lib.hid (hH.out.kept.trans hK7)); clear hK7 c3))
      exact bodyPost_ret (results_has2 rfl (w.heap.size + 2) rfl (hX.out.row _) Try.underlying25 rfl (A.info25 _)) rfl ⟨rfl, hK.out.row (by omega) _⟩
  · have hl1 := hHeld.res.lt
    have hl2 := hHeld.row.lt
    go_simp
    have hA := Has.new #[.int .u32 0, .int .u32 0, .int .u32 0, .int .u32 0, .int .u32 0, .int .u32 0, .int .u32 0, .int .u32 0, .int .u32 0, .int .u32 0, .int .u32 0, .int .u32 0, .int .u32 0, .int .u32 0, .int .u32 0, .int .u32 0, .int .u32 0, .int .u32 0, .bool false, .bool false, .bool false, .bool false, .int .i64 0] 50 ((w2.alloc (.cells (A.row o f) 46)).drew)
    have e8 : ((w2.alloc (.cells (A.row o f) 46)).drew).heap.size = w2.heap.size + 1 := by show (w2.heap.push _).size = _; simp
    rw [e8] at hA hl1 hl2
    clear e8
    have hN := (show (A.St s #[.int .i64 k, .int .i64 op, .int .i64 a, .int .i64 b, .int .i64 c, .int .i64 i, .bool u] w2.heap.size (A.row o f) w) _ from hHeld.step ((Kept.refl _).alloc #[.int .u32 0, .int .u32 0, .int .u32 0, .int .u32 0, .int .u32 0, .int .u32 0, .int .u32 0, .int .u32 0, .int .u32 0, .int .u32 0, .int .u32 0, .int .u32 0, .int .u32 0, .int .u32 0, .int .u32 0, .int .u32 0, .int .u32 0, .int .u32 0, .bool false, .bool false, .bool false, .bool false, .int .i64 0] 50))
    clear hHeld
    refine hK.out _ _ hN (fun hHeld => ?_)
    clear hK K hN
    try simp only [Act.put, List.setIfInBounds_toArray, List.set_cons_zero, List.set_cons_succ]
    refine wpAnyH_ready (rs := [10]) (by kernel_rfl) (by simp) ?_
    refine AllReadyH.cons (o := { dst := some 28, op := Op.call { callee := Callee.value (Operand.func 18), args := #[Operand.tmp 26, Operand.tmp 27], argTypes := #[25, 27] }, type := 22, pos := "alu.go:36", after := #[{ on := 8, ground := Ground.data }, { on := 9, ground := Ground.data }], guard := none }) rfl (fun K hK => ?_) (AllReadyH.nil)
    go_simp
    go_at_call 18
    refine (HN.out _).mono ?_
    rintro e w5 ⟨rfl, hK5⟩
    replace hA := hA.kept hK5
    have hN := (show (A.St s #[.int .i64 k, .int .i64 op, .int .i64 a, .int .i64 b, .int .i64 c, .int .i64 i, .bool u] w2.heap.size (A.row o f) w) _ from hHeld.step hK5)
    clear hHeld
    refine hK.out _ _ hN (fun hHeld => ?_)
    clear hK K hN
    try simp only [Act.put, List.setIfInBounds_toArray, List.set_cons_zero, List.set_cons_succ]
    refine wpAnyH_take (i := 13) (oi := { dst := some 31, op := Op.build 53 #[(0, Operand.tmp 20), (1, Operand.tmp 25), (2, Operand.tmp 28), (3, Operand.tmp 30)], type := 53, pos := "alu.go:36", after := #[{ on := 2, ground := Ground.data }, { on := 7, ground := Ground.data }, { on := 10, ground := Ground.data }, { on := 12, ground := Ground.data }], guard := none }) (v := ?_) rfl (by kernel_rfl) (by kernel_rfl) (by kernel_rfl) (fun _ _ _ h => h) (Or.inl ⟨rfl, ?_⟩) hHeld ?_
    rotate_left
    · (intro wz hSw; refine exec_build (o := { dst := some 31, op := Op.build 53 #[(0, Operand.tmp 20), (1, Operand.tmp 25), (2, Operand.tmp 28), (3, Operand.tmp 30)], type := 53, pos := "alu.go:36", after := #[{ on := 2, ground := Ground.data }, { on := 7, ground := Ground.data }, { on := 10, ground := Ground.data }, { on := 12, ground := Ground.data }], guard := none }) 53 _ rfl (A.opnd s (s.r b.toNat) n u) ?_; (go_simp; exact A.builtOp _ _ _ _))
    try simp only [Act.put, List.setIfInBounds_toArray, List.set_cons_zero, List.set_cons_succ]
    refine wpAnyH_ready (rs := [14]) (by kernel_rfl) (by simp) ?_
    refine AllReadyH.cons (o := { dst := some 32, op := Op.call { callee := Callee.value (Operand.tmp 19), args := #[Operand.tmp 31], argTypes := #[53] }, type := 50, pos := "alu.go:36", after := #[{ on := 1, ground := Ground.data }, { on := 13, ground := Ground.data }, { on := 10, ground := Ground.chain }], guard := none }) rfl (fun K hK => ?_) (AllReadyH.nil)
    refine wp_call_value (o := { dst := some 32, op := Op.call { callee := Callee.value (Operand.tmp 19), args := #[Operand.tmp 31], argTypes := #[53] }, type := 50, pos := "alu.go:36", after := #[{ on := 1, ground := Ground.data }, { on := 13, ground := Ground.data }, { on := 10, ground := Ground.chain }], guard := none }) _ _ _ rfl f ?_ HF.out #[.agg (A.opnd s (s.r b.toNat) n u)] ?_ ?_
    · rfl
    · go_simp
    refine (HW.out _).mono ?_
    rintro e w6 ⟨rfl, hK5⟩
    replace hA := hA.kept hK5
    have hN := (show (A.St s #[.int .i64 k, .int .i64 op, .int .i64 a, .int .i64 b, .int .i64 c, .int .i64 i, .bool u] w2.heap.size (A.row o f) w) _ from hHeld.step hK5)
    clear hHeld
    refine hK.out _ _ hN (fun hHeld => ?_)
    clear hK K hN
    try simp only [Act.put, List.setIfInBounds_toArray, List.set_cons_zero, List.set_cons_succ]
    refine wpAnyH_ready (rs := [16]) (by kernel_rfl) (by simp) ?_
    refine AllReadyH.cons (o := { dst := none, op := Op.store 50 (Operand.tmp 8) (Operand.tmp 32), type := 0, pos := "alu.go:36", after := #[{ on := 15, ground := Ground.data }, { on := 14, ground := Ground.data }, { on := 14, ground := Ground.chain }, { on := 0, ground := Ground.phase }, { on := 1, ground := Ground.phase }, { on := 2, ground := Ground.phase }, { on := 3, ground := Ground.phase }, { on := 4, ground := Ground.phase }, { on := 5, ground := Ground.phase }, { on := 6, ground := Ground.phase }, { on := 7, ground := Ground.phase }, { on := 8, ground := Ground.phase }, { on := 9, ground := Ground.phase }, { on := 10, ground := Ground.phase }, { on := 11, ground := Ground.phase }, { on := 12, ground := Ground.phase }, { on := 13, ground := Ground.phase }, { on := 14, ground := Ground.phase }, { on := 15, ground := Ground.phase }], guard := none }) rfl (fun K hK => ?_) (AllReadyH.nil)
    refine wp_store_row (o := { dst := none, op := Op.store 50 (Operand.tmp 8) (Operand.tmp 32), type := 0, pos := "alu.go:36", after := #[{ on := 15, ground := Ground.data }, { on := 14, ground := Ground.data }, { on := 14, ground := Ground.chain }, { on := 0, ground := Ground.phase }, { on := 1, ground := Ground.phase }, { on := 2, ground := Ground.phase }, { on := 3, ground := Ground.phase }, { on := 4, ground := Ground.phase }, { on := 5, ground := Ground.phase }, { on := 6, ground := Ground.phase }, { on := 7, ground := Ground.phase }, { on := 8, ground := Ground.phase }, { on := 9, ground := Ground.phase }, { on := 10, ground := Ground.phase }, { on := 11, ground := Ground.phase }, { on := 12, ground := Ground.phase }, { on := 13, ground := Ground.phase }, { on := 14, ground := Ground.phase }, { on := 15, ground := Ground.phase }], guard := none }) 50 _ _ rfl _ (A.outc x s' 0) ?_ ?_ 50 _ hA (A.infoOut _ _ _) (by kernel_rfl) (A.one_outc _ _ _) ?_
    · rfl
    · rfl
    replace hA := hA.row (A.outc x s' 0)
    have hN := (show (A.St s #[.int .i64 k, .int .i64 op, .int .i64 a, .int .i64 b, .int .i64 c, .int .i64 i, .bool u] w2.heap.size (A.row o f) w) _ from hHeld.rowNew (by omega) (by omega) (A.outc x s' 0))
    clear hHeld
    refine hK.out _ _ hN (fun hHeld => ?_)
    clear hK K hN
    try simp only [Act.put, List.setIfInBounds_toArray, List.set_cons_zero, List.set_cons_succ]
    refine wpAnyH_done (by kernel_rfl) ?_ _
    generalize World.setRow _ _ _ = wF at hHeld hA
    have q1 := hA.cell 0 _ (A.outc_x _ _ _)
    have q2 := hA.cell 22 _ (A.outc_t _ _ _)
    have hl3 := hHeld.res.lt
    have hl4 := hHeld.row.lt
    have hl5 := hA.lt
    replace hHeld := Lib.hid hHeld
    replace hA := Lib.hid hA
    clear hS
    go_upto_region 8 with (first
      | (with_reducible refine load_part (o := ⟨some 40, _, _, _, _, _⟩) rfl 25 _ rfl _ 1 rfl (A.cells s') hA.out (A.outc_regs _ _ _) Try.underlying25 rfl (A.info25 _) ?_)
      | (with_reducible refine store_last (o := ⟨none, Op.store 25 (.tmp 9) _, _, _, _, _⟩) rfl 25 _ _ rfl _ _ rfl rfl rfl (A.info25 _) (by kernel_rfl) (A.one_cells _) ?_))
    clear q1 q2
    have hG := hHeld.out.step ((Kept.refl wF).alloc (A.cells s') 25)
    have h9 := Has.new (A.cells s') 25 wF
    have h8 := hA.out.alloc (.cells (A.cells s') 25)
    clear hHeld hA
    generalize wF.heap.size = B9 at *
    generalize wF.alloc _ = wG at *
    have c2 := hG.ins.cell 2 _ rfl
    have c3 := h8.cell 0 _ (A.outc_x _ _ _)
    have c9 := h9.cell a.toNat _ (A.cell_r s' a.toNat (by omega))
    have f9 := h9.free a.toNat
    replace hG := Lib.hid hG
    replace h9 := Lib.hid h9
    replace h8 := Lib.hid h8
    go_upto_region 9 with (fail)
    clear c2 c3 c9 f9
    have hH := hG.out.cell (p := ⟨B9, a.toNat, none⟩) hl3 hl4 (.int .u32 x)
    have h9' := h9.out.set a.toNat (.int .u32 x)
    rw [A.set_r s' a.toNat (by omega) x] at h9'
    have h8' := h8.out.other (p := ⟨B9, a.toNat, none⟩) (Nat.ne_of_lt hl5) (.int .u32 x)
    clear hG h9 h8
    generalize World.setCell _ _ _ = wH at *
    have c3 := h8'.cell 0 _ (A.outc_x _ _ _)
    replace hH := Lib.hid hH
    replace h9' := Lib.hid h9'
    clear h8'
    go_wp2_with (first
      | (with_reducible refine load_has (o := ⟨some 47, _, _, _, _, _⟩) rfl 25 _ rfl _ rfl h9'.out Try.underlying25 rfl (A.info25 _) ?_)
      | (with_reducible refine store_has (o := ⟨none, Op.store 25 (.tmp 4) _, _, _, _, _⟩) rfl 25 _ _ rfl _ _ rfl rfl hX.out (A.info25 _) (by kernel_rfl) (A.one_cells _) ?_)
      | (go_at_call 16; (refine (show_any _ x hx0 hx1 _).mono ?_; rintro e w7 ⟨rfl, hK7⟩); (have hX := Lib.hid (hH.out.res.kept hK7)); (have hK := Lib.hid (hH.out.kept.trans hK7)); clear hK7 c3))
    exact bodyPost_ret (results_has2 rfl (w.heap.size + 2) rfl (hX.out.row _) Try.underlying25 rfl (A.info25 _)) rfl ⟨rfl, hK.out.row (by omega) _⟩
set_option maxHeartbeats 2000000 in
theorem do_trap (s s' : A.Regs) (k op a b c i n x o : Int) (u : Bool) (f : Nat) (ha0 : 0 ≤ a) (ha1 : a < 16) (hb0 : 0 ≤ b) (hb1 : b < 16) (w : World)
    (HO : Hid (∀ w, Calls Try.prog 17 #[.agg #[.int .i64 k, .int .i64 op, .int .i64 a, .int .i64 b, .int .i64 c, .int .i64 i, .bool u]] w fun e w' => e = .returned (.tuple #[.agg (A.row o f), .bool true]) ∧ Kept w w'))
    (HN : Hid (∀ w, Calls Try.prog 18 #[.agg (A.cells s), .agg #[.int .i64 k, .int .i64 op, .int .i64 a, .int .i64 b, .int .i64 c, .int .i64 i, .bool u]] w fun e w' => e = .returned (.int .u32 n) ∧ Kept w w'))
    (HF : Hid (∀ args w, (callFunc f args).run Try.prog w = .ok (.enter f args) w))
    (HW : Hid (∀ w, Calls Try.prog f #[.agg (A.opnd s (s.r b.toNat) n u)] w fun e w' => e = .returned (.agg (A.outc x s' 5)) ∧ Kept w w')) :
    Calls Try.prog 11 #[.agg (A.cells s), .agg #[.int .i64 k, .int .i64 op, .int .i64 a, .int .i64 b, .int .i64 c, .int .i64 i, .bool u]] w fun e w' => e = .returned (.tuple #[.agg (A.cells s), .int .i64 5]) ∧ Kept w w' := by
  go_enter Try.func11, Try.ntmps11
  go_wp2_with fail
  refine (HO.out _).mono ?_; rintro e w2 ⟨rfl, hK2⟩
  have hX : Has (w.heap.size + 2) (A.cells A.none') 25 w2 := (Has.new2 _ _ _ _ _).kept hK2
  have hR := (((Has.new _ _ _).alloc _).alloc _).kept hK2
  have hI := ((Has.new1 _ _ _ _).alloc _).kept hK2
  have hK := ((((Kept.refl w).alloc _ _).alloc _ _).alloc _ _).trans hK2
  clear hK2
  have hS : A.St s #[.int .i64 k, .int .i64 op, .int .i64 a, .int .i64 b, .int .i64 c, .int .i64 i, .bool u] w2.heap.size (A.row o f) w (w2.alloc (.cells (A.row o f) 46)) := ⟨hK.alloc _ _, hR.alloc _, hI.alloc _, hX.alloc _, Has.new _ _ _⟩
  clear hX hR hI hK
  replace hS := Lib.hid hS
  go_upto_region 4 with (first
    | (with_reducible refine store_last (o := ⟨none, Op.store 46 _ _, _, _, _, _⟩) rfl 46 _ _ rfl _ _ rfl rfl rfl (A.infoRow _ _) (by kernel_rfl) (A.one_row _ _) ?_))
  refine wp_region_held_drew (S := A.St s #[.int .i64 k, .int .i64 op, .int .i64 a, .int .i64 b, .int .i64 c, .int .i64 i, .bool u] w2.heap.size (A.row o f) w) (by kernel_rfl) ?_ (fun hHeld => ?_)
  · exact hS.out.step (Kept.refl _).drew
  refine wpAnyH_take (i := 0) (oi := { dst := some 18, op := Op.fieldAddr 46 (Operand.tmp 6) 1, type := 0, pos := "alu.go:36", after := #[], guard := none }) (v := ?_) rfl (by kernel_rfl) (by kernel_rfl) (by kernel_rfl) (fun _ _ _ h => h) (Or.inl ⟨rfl, ?_⟩) hHeld ?_
  rotate_left
  · (intro wz hSw; (try dsimp only at hSw); have q0 := hSw.row.cell 1 _ (A.row_1 _ _); have q1 := hSw.ins.cell 3 _ rfl; have q2 := hSw.ins.cell 6 _ rfl; have q3 := hSw.regs.cell b.toNat _ (A.cell_r s b.toNat (by omega)); go_simp; try with_reducible rfl)
  try simp only [Act.put, List.setIfInBounds_toArray, List.set_cons_zero, List.set_cons_succ]
  refine wpAnyH_take (i := 1) (oi := { dst := some 19, op := Op.load 44 (Operand.tmp 18), type := 44, pos := "alu.go:36", after := #[{ on := 0, ground := Ground.data }], guard := none }) (v := ?_) rfl (by kernel_rfl) (by kernel_rfl) (by kernel_rfl) (fun _ _ _ h => h) (Or.inl ⟨rfl, ?_⟩) hHeld ?_
  rotate_left
  · (intro wz hSw; (try dsimp only at hSw); have q0 := hSw.row.cell 1 _ (A.row_1 _ _); have q1 := hSw.ins.cell 3 _ rfl; have q2 := hSw.ins.cell 6 _ rfl; have q3 := hSw.regs.cell b.toNat _ (A.cell_r s b.toNat (by omega)); go_simp; try with_reducible rfl)
  try simp only [Act.put, List.setIfInBounds_toArray, List.set_cons_zero, List.set_cons_succ]
  refine wpAnyH_take (i := 2) (oi := { dst := some 20, op := Op.load 25 (Operand.tmp 2), type := 25, pos := "alu.go:36", after := #[], guard := none }) (v := ?_) rfl (by kernel_rfl) (by kernel_rfl) (by kernel_rfl) (fun _ _ _ h => h) (Or.inl ⟨rfl, ?_⟩) hHeld ?_
  rotate_left
  · (intro wz hSw; refine exec_load_has 25 (Operand.tmp 2) ?_ _ ?_ hSw.regs Try.underlying25 rfl (A.info25 _) <;> rfl)
  try simp only [Act.put, List.setIfInBounds_toArray, List.set_cons_zero, List.set_cons_succ]
  refine wpAnyH_take (i := 3) (oi := { dst := some 21, op := Op.fieldAddr 27 (Operand.tmp 3) 3, type := 0, pos := "alu.go:36", after := #[], guard := none }) (v := ?_) rfl (by kernel_rfl) (by kernel_rfl) (by kernel_rfl) (fun _ _ _ h => h) (Or.inl ⟨rfl, ?_⟩) hHeld ?_
  rotate_left
  · (intro wz hSw; (try dsimp only at hSw); have q0 := hSw.row.cell 1 _ (A.row_1 _ _); have q1 := hSw.ins.cell 3 _ rfl; have q2 := hSw.ins.cell 6 _ rfl; have q3 := hSw.regs.cell b.toNat _ (A.cell_r s b.toNat (by omega)); go_simp; try with_reducible rfl)
  try simp only [Act.put, List.setIfInBounds_toArray, List.set_cons_zero, List.set_cons_succ]
  refine wpAnyH_take (i := 4) (oi := { dst := some 22, op := Op.load 3 (Operand.tmp 21), type := 3, pos := "alu.go:36", after := #[{ on := 3, ground := Ground.data }], guard := none }) (v := ?_) rfl (by kernel_rfl) (by kernel_rfl) (by kernel_rfl) (fun _ _ _ h => h) (Or.inl ⟨rfl, ?_⟩) hHeld ?_
  rotate_left
  · (intro wz hSw; (try dsimp only at hSw); have q0 := hSw.row.cell 1 _ (A.row_1 _ _); have q1 := hSw.ins.cell 3 _ rfl; have q2 := hSw.ins.cell 6 _ rfl; have q3 := hSw.regs.cell b.toNat _ (A.cell_r s b.toNat (by omega)); go_simp; try with_reducible rfl)
  try simp only [Act.put, List.setIfInBounds_toArray, List.set_cons_zero, List.set_cons_succ]
  refine wpAnyH_take (i := 5) (oi := { dst := some 23, op := Op.fieldAddr 25 (Operand.tmp 2) 0, type := 0, pos := "alu.go:36", after := #[], guard := none }) (v := ?_) rfl (by kernel_rfl) (by kernel_rfl) (by kernel_rfl) (fun _ _ _ h => h) (Or.inl ⟨rfl, ?_⟩) hHeld ?_
  rotate_left
  · (intro wz hSw; (try dsimp only at hSw); have q0 := hSw.row.cell 1 _ (A.row_1 _ _); have q1 := hSw.ins.cell 3 _ rfl; have q2 := hSw.ins.cell 6 _ rfl; have q3 := hSw.regs.cell b.toNat _ (A.cell_r s b.toNat (by omega)); go_simp; try with_reducible rfl)
  try simp only [Act.put, List.setIfInBounds_toArray, List.set_cons_zero, List.set_cons_succ]
  refine wpAnyH_take (i := 6) (oi := { dst := some 24, op := Op.indexAddr 23 (Operand.tmp 23) (Operand.tmp 22), type := 0, pos := "alu.go:36", after := #[{ on := 5, ground := Ground.data }, { on := 4, ground := Ground.data }], guard := none }) (v := ?_) rfl (by kernel_rfl) (by kernel_rfl) (by kernel_rfl) (fun _ _ _ h => h) (Or.inl ⟨rfl, ?_⟩) hHeld ?_
  rotate_left
  · (intro wz hSw; (try dsimp only at hSw); have q0 := hSw.row.cell 1 _ (A.row_1 _ _); have q1 := hSw.ins.cell 3 _ rfl; have q2 := hSw.ins.cell 6 _ rfl; have q3 := hSw.regs.cell b.toNat _ (A.cell_r s b.toNat (by omega)); go_simp; try with_reducible rfl)
  try simp only [Act.put, List.setIfInBounds_toArray, List.set_cons_zero, List.set_cons_succ]
  refine wpAnyH_take (i := 7) (oi := { dst := some 25, op := Op.load 22 (Operand.tmp 24), type := 22, pos := "alu.go:36", after := #[{ on := 6, ground := Ground.data }], guard := none }) (v := ?_) rfl (by kernel_rfl) (by kernel_rfl) (by kernel_rfl) (fun _ _ _ h => h) (Or.inl ⟨rfl, ?_⟩) hHeld ?_
  rotate_left
  · (intro wz hSw; (try dsimp only at hSw); have q0 := hSw.row.cell 1 _ (A.row_1 _ _); have q1 := hSw.ins.cell 3 _ rfl; have q2 := hSw.ins.cell 6 _ rfl; have q3 := hSw.regs.cell b.toNat _ (A.cell_r s b.toNat (by omega)); go_simp; try with_reducible rfl)
  try simp only [Act.put, List.setIfInBounds_toArray, List.set_cons_zero, List.set_cons_succ]
  refine wpAnyH_take (i := 8) (oi := { dst := some 26, op := Op.load 25 (Operand.tmp 2), type := 25, pos := "alu.go:36", after := #[], guard := none }) (v := ?_) rfl (by kernel_rfl) (by kernel_rfl) (by kernel_rfl) (fun _ _ _ h => h) (Or.inl ⟨rfl, ?_⟩) hHeld ?_
  rotate_left
  · (intro wz hSw; refine exec_load_has 25 (Operand.tmp 2) ?_ _ ?_ hSw.regs Try.underlying25 rfl (A.info25 _) <;> rfl)
  try simp only [Act.put, List.setIfInBounds_toArray, List.set_cons_zero, List.set_cons_succ]
  refine wpAnyH_take (i := 9) (oi := { dst := some 27, op := Op.load 27 (Operand.tmp 3), type := 27, pos := "alu.go:36", after := #[], guard := none }) (v := ?_) rfl (by kernel_rfl) (by kernel_rfl) (by kernel_rfl) (fun _ _ _ h => h) (Or.inl ⟨rfl, ?_⟩) hHeld ?_
  rotate_left
  · (intro wz hSw; refine exec_load_has 27 (Operand.tmp 3) ?_ _ ?_ hSw.ins Try.underlying27 rfl (by kernel_rfl) <;> rfl)
  try simp only [Act.put, List.setIfInBounds_toArray, List.set_cons_zero, List.set_cons_succ]
  refine wpAnyH_take (i := 11) (oi := { dst := some 29, op := Op.fieldAddr 27 (Operand.tmp 3) 6, type := 0, pos := "alu.go:36", after := #[], guard := none }) (v := ?_) rfl (by kernel_rfl) (by kernel_rfl) (by kernel_rfl) (fun _ _ _ h => h) (Or.inl ⟨rfl, ?_⟩) hHeld ?_
  rotate_left
  · (intro wz hSw; (try dsimp only at hSw); have q0 := hSw.row.cell 1 _ (A.row_1 _ _); have q1 := hSw.ins.cell 3 _ rfl; have q2 := hSw.ins.cell 6 _ rfl; have q3 := hSw.regs.cell b.toNat _ (A.cell_r s b.toNat (by omega)); go_simp; try with_reducible rfl)
  try simp only [Act.put, List.setIfInBounds_toArray, List.set_cons_zero, List.set_cons_succ]
  refine wpAnyH_take (i := 12) (oi := { dst := some 30, op := Op.load 4 (Operand.tmp 29), type := 4, pos := "alu.go:36", after := #[{ on := 11, ground := Ground.data }], guard := none }) (v := ?_) rfl (by kernel_rfl) (by kernel_rfl) (by kernel_rfl) (fun _ _ _ h => h) (Or.inl ⟨rfl, ?_⟩) hHeld ?_
  rotate_left
  · (intro wz hSw; (try dsimp only at hSw); have q0 := hSw.row.cell 1 _ (A.row_1 _ _); have q1 := hSw.ins.cell 3 _ rfl; have q2 := hSw.ins.cell 6 _ rfl; have q3 := hSw.regs.cell b.toNat _ (A.cell_r s b.toNat (by omega)); go_simp; try with_reducible rfl)
  try simp only [Act.put, List.setIfInBounds_toArray, List.set_cons_zero, List.set_cons_succ]
  refine wpAnyH_ready (rs := [10, 15]) (by kernel_rfl) (by simp) ?_
  refine AllReadyH.cons (o := { dst := some 28, op := Op.call { callee := Callee.value (Operand.func 18), args := #[Operand.tmp 26, Operand.tmp 27], argTypes := #[25, 27] }, type := 22, pos := "alu.go:36", after := #[{ on := 8, ground := Ground.data }, { on := 9, ground := Ground.data }], guard := none }) rfl (fun K hK => ?_) (AllReadyH.cons (o := { dst := some 8, op := Op.alloc 50, type := 0, pos := "alu.go:36", after := #[], guard := none }) rfl (fun K hK => ?_) (AllReadyH.nil))
  · go_simp
    go_at_call 18
    refine (HN.out _).mono ?_
    rintro e w5 ⟨rfl, hK5⟩
    have hN := (show (A.St s #[.int .i64 k, .int .i64 op, .int .i64 a, .int .i64 b, .int .i64 c, .int .i64 i, .bool u] w2.heap.size (A.row o f) w) _ from hHeld.step hK5)
    clear hHeld
    refine hK.out _ _ hN (fun hHeld => ?_)
    clear hK K hN
    try simp only [Act.put, List.setIfInBounds_toArray, List.set_cons_zero, List.set_cons_succ]
    refine wpAnyH_take (i := 13) (oi := { dst := some 31, op := Op.build 53 #[(0, Operand.tmp 20), (1, Operand.tmp 25), (2, Operand.tmp 28), (3, Operand.tmp 30)], type := 53, pos := "alu.go:36", after := #[{ on := 2, ground := Ground.data }, { on := 7, ground := Ground.data }, { on := 10, ground := Ground.data }, { on := 12, ground := Ground.data }], guard := none }) (v := ?_) rfl (by kernel_rfl) (by kernel_rfl) (by kernel_rfl) (fun _ _ _ h => h) (Or.inl ⟨rfl, ?_⟩) hHeld ?_
    rotate_left
    · (intro wz hSw; refine exec_build (o := { dst := some 31, op := Op.build 53 #[(0, Operand.tmp 20), (1, Operand.tmp 25), (2, Operand.tmp 28), (3, Operand.tmp 30)], type := 53, pos := "alu.go:36", after := #[{ on := 2, ground := Ground.data }, { on := 7, ground := Ground.data }, { on := 10, ground := Ground.data }, { on := 12, ground := Ground.data }], guard := none }) 53 _ rfl (A.opnd s (s.r b.toNat) n u) ?_; (go_simp; exact A.builtOp _ _ _ _))
    try simp only [Act.put, List.setIfInBounds_toArray, List.set_cons_zero, List.set_cons_succ]
    refine wpAnyH_ready (rs := [14, 15]) (by kernel_rfl) (by simp) ?_
    refine AllReadyH.cons (o := { dst := some 32, op := Op.call { callee := Callee.value (Operand.tmp 19), args := #[Operand.tmp 31], argTypes := #[53] }, type := 50, pos := "alu.go:36", after := #[{ on := 1, ground := Ground.data }, { on := 13, ground := Ground.data }, { on := 10, ground := Ground.chain }], guard := none }) rfl (fun K hK => ?_) (AllReadyH.cons (o := { dst := some 8, op := Op.alloc 50, type := 0, pos := "alu.go:36", after := #[], guard := none }) rfl (fun K hK => ?_) (AllReadyH.nil))
    · refine wp_call_value (o := { dst := some 32, op := Op.call { callee := Callee.value (Operand.tmp 19), args := #[Operand.tmp 31], argTypes := #[53] }, type := 50, pos := "alu.go:36", after := #[{ on := 1, ground := Ground.data }, { on := 13, ground := Ground.data }, { on := 10, ground := Ground.chain }], guard := none }) _ _ _ rfl f ?_ HF.out #[.agg (A.opnd s (s.r b.toNat) n u)] ?_ ?_
      · rfl
      · go_simp
      refine (HW.out _).mono ?_
      rintro e w6 ⟨rfl, hK5⟩
      have hN := (show (A.St s #[.int .i64 k, .int .i64 op, .int .i64 a, .int .i64 b, .int .i64 c, .int .i64 i, .bool u] w2.heap.size (A.row o f) w) _ from hHeld.step hK5)
      clear hHeld
      refine hK.out _ _ hN (fun hHeld => ?_)
      clear hK K hN
      try simp only [Act.put, List.setIfInBounds_toArray, List.set_cons_zero, List.set_cons_succ]
      refine wpAnyH_ready (rs := [15]) (by kernel_rfl) (by simp) ?_
      refine AllReadyH.cons (o := { dst := some 8, op := Op.alloc 50, type := 0, pos := "alu.go:36", after := #[], guard := none }) rfl (fun K hK => ?_) (AllReadyH.nil)
      have hl1 := hHeld.res.lt
      have hl2 := hHeld.row.lt
      go_simp
      have hA := Has.new #[.int .u32 0, .int .u32 0, .int .u32 0, .int .u32 0, .int .u32 0, .int .u32 0, .int .u32 0, .int .u32 0, .int .u32 0, .int .u32 0, .int .u32 0, .int .u32 0, .int .u32 0, .int .u32 0, .int .u32 0, .int .u32 0, .int .u32 0, .int .u32 0, .bool false, .bool false, .bool false, .bool false, .int .i64 0] 50 w6
      have hN := (show (A.St s #[.int .i64 k, .int .i64 op, .int .i64 a, .int .i64 b, .int .i64 c, .int .i64 i, .bool u] w2.heap.size (A.row o f) w) _ from hHeld.step ((Kept.refl _).alloc #[.int .u32 0, .int .u32 0, .int .u32 0, .int .u32 0, .int .u32 0, .int .u32 0, .int .u32 0, .int .u32 0, .int .u32 0, .int .u32 0, .int .u32 0, .int .u32 0, .int .u32 0, .int .u32 0, .int .u32 0, .int .u32 0, .int .u32 0, .int .u32 0, .bool false, .bool false, .bool false, .bool false, .int .i64 0] 50))
      clear hHeld
      refine hK.out _ _ hN (fun hHeld => ?_)
      clear hK K hN
      try simp only [Act.put, List.setIfInBounds_toArray, List.set_cons_zero, List.set_cons_succ]
      refine wpAnyH_ready (rs := [16]) (by kernel_rfl) (by simp) ?_
      refine AllReadyH.cons (o := { dst := none, op := Op.store 50 (Operand.tmp 8) (Operand.tmp 32), type := 0, pos := "alu.go:36", after := #[{ on := 15, ground := Ground.data }, { on := 14, ground := Ground.data }, { on := 14, ground := Ground.chain }, { on := 0, ground := Ground.phase }, { on := 1, ground := Ground.phase }, { on := 2, ground := Ground.phase }, { on := 3, ground := Ground.phase }, { on := 4, ground := Ground.phase }, { on := 5, ground := Ground.phase }, { on := 6, ground := Ground.phase }, { on := 7, ground := Ground.phase }, { on := 8, ground := Ground.phase }, { on := 9, ground := Ground.phase }, { on := 10, ground := Ground.phase }, { on := 11, ground := Ground.phase }, { on := 12, ground := Ground.phase }, { on := 13, ground := Ground.phase }, { on := 14, ground := Ground.phase }, { on := 15, ground := Ground.phase }], guard := none }) rfl (fun K hK => ?_) (AllReadyH.nil)
      refine wp_store_row (o := { dst := none, op := Op.store 50 (Operand.tmp 8) (Operand.tmp 32), type := 0, pos := "alu.go:36", after := #[{ on := 15, ground := Ground.data }, { on := 14, ground := Ground.data }, { on := 14, ground := Ground.chain }, { on := 0, ground := Ground.phase }, { on := 1, ground := Ground.phase }, { on := 2, ground := Ground.phase }, { on := 3, ground := Ground.phase }, { on := 4, ground := Ground.phase }, { on := 5, ground := Ground.phase }, { on := 6, ground := Ground.phase }, { on := 7, ground := Ground.phase }, { on := 8, ground := Ground.phase }, { on := 9, ground := Ground.phase }, { on := 10, ground := Ground.phase }, { on := 11, ground := Ground.phase }, { on := 12, ground := Ground.phase }, { on := 13, ground := Ground.phase }, { on := 14, ground := Ground.phase }, { on := 15, ground := Ground.phase }], guard := none }) 50 _ _ rfl _ (A.outc x s' 5) ?_ ?_ 50 _ hA (A.infoOut _ _ _) (by kernel_rfl) (A.one_outc _ _ _) ?_
      · rfl
      · rfl
      replace hA := hA.row (A.outc x s' 5)
      have hN := (show (A.St s #[.int .i64 k, .int .i64 op, .int .i64 a, .int .i64 b, .int .i64 c, .int .i64 i, .bool u] w2.heap.size (A.row o f) w) _ from hHeld.rowNew (by omega) (by omega) (A.outc x s' 5))
      clear hHeld
      refine hK.out _ _ hN (fun hHeld => ?_)
      clear hK K hN
      try simp only [Act.put, List.setIfInBounds_toArray, List.set_cons_zero, List.set_cons_succ]
      refine wpAnyH_done (by kernel_rfl) ?_ _
      generalize World.setRow _ _ _ = wF at hHeld hA
      have q2 := hA.cell 22 _ (A.outc_t _ _ _)
      have H6 := Lib.hid (show Kept w wF ∧ Has w.heap.size (A.cells s) 25 wF ∧ Has _ (A.outc x s' 5) 50 wF ∧ HasN (w.heap.size + 2) 21 25 wF from ⟨hHeld.kept, hHeld.regs, hA, ⟨_, rfl, hHeld.res⟩⟩)
      clear hHeld hA hS
      go_upto_region 6 with (fail)
      clear q2
      refine wp_region_held_drew (S := fun w' => Kept w w' ∧ Has w.heap.size (A.cells s) 25 w' ∧ Has w6.heap.size (A.outc x s' 5) 50 w' ∧ HasN (w.heap.size + 2) 21 25 w') (by kernel_rfl) ?_ (fun hHeld => ?_)
      · exact ⟨H6.out.1.drew, H6.out.2.1.drew, H6.out.2.2.1.drew, H6.out.2.2.2⟩
      refine wpAnyH_take (i := 0) (oi := { dst := some 36, op := Op.load 25 (Operand.tmp 2), type := 25, pos := "alu.go:38", after := #[], guard := none }) (v := ?_) rfl (by kernel_rfl) (by kernel_rfl) (by kernel_rfl) (fun _ _ _ h => h) (Or.inl ⟨rfl, ?_⟩) hHeld ?_
      rotate_left
      · (intro wz hSw; refine exec_load_has 25 (Operand.tmp 2) ?_ _ ?_ hSw.2.1 Try.underlying25 rfl (A.info25 _) <;> rfl)
      try simp only [Act.put, List.setIfInBounds_toArray, List.set_cons_zero, List.set_cons_succ]
      refine wpAnyH_take (i := 1) (oi := { dst := some 37, op := Op.fieldAddr 50 (Operand.tmp 8) 2, type := 0, pos := "alu.go:38", after := #[{ on := 3, ground := Ground.gcOnly Departure.lateStores }], guard := none }) (v := ?_) rfl (by kernel_rfl) (by kernel_rfl) (by kernel_rfl) (fun _ _ _ h => h) (Or.inl ⟨rfl, ?_⟩) hHeld ?_
      rotate_left
      · (intro wz hSw; (try dsimp only at hSw); have q0 := hSw.2.2.1.cell 22 _ (A.outc_t _ _ _); go_simp; try with_reducible rfl)
      try simp only [Act.put, List.setIfInBounds_toArray, List.set_cons_zero, List.set_cons_succ]
      refine wpAnyH_take (i := 2) (oi := { dst := some 38, op := Op.load 3 (Operand.tmp 37), type := 3, pos := "alu.go:38", after := #[{ on := 1, ground := Ground.data }, { on := 3, ground := Ground.gcOnly Departure.lateStores }], guard := none }) (v := ?_) rfl (by kernel_rfl) (by kernel_rfl) (by kernel_rfl) (fun _ _ _ h => h) (Or.inl ⟨rfl, ?_⟩) hHeld ?_
      rotate_left
      · (intro wz hSw; (try dsimp only at hSw); have q0 := hSw.2.2.1.cell 22 _ (A.outc_t _ _ _); go_simp; try with_reducible rfl)
      try simp only [Act.put, List.setIfInBounds_toArray, List.set_cons_zero, List.set_cons_succ]
      refine wpAnyH_ready (rs := [3]) (by kernel_rfl) (by simp) ?_
      refine AllReadyH.cons (o := { dst := none, op := Op.store 25 (Operand.tmp 4) (Operand.tmp 36), type := 0, pos := "alu.go:38", after := #[{ on := 0, ground := Ground.data }, { on := 0, ground := Ground.phase }, { on := 1, ground := Ground.textOnly Departure.lateStores }, { on := 2, ground := Ground.textOnly Departure.lateStores }], guard := none }) rfl (fun K hK => ?_) (AllReadyH.nil)
      obtain ⟨old, hold, hR⟩ := hHeld.2.2.2
      refine wp_store_row (o := { dst := none, op := Op.store 25 (Operand.tmp 4) (Operand.tmp 36), type := 0, pos := "alu.go:38", after := #[{ on := 0, ground := Ground.data }, { on := 0, ground := Ground.phase }, { on := 1, ground := Ground.textOnly Departure.lateStores }, { on := 2, ground := Ground.textOnly Departure.lateStores }], guard := none }) 25 _ _ rfl _ (A.cells s) ?_ ?_ 25 old hR (A.info25 _) hold (A.one_cells _) ?_
      · rfl
      · rfl
      replace hR := Has.row hR (A.cells s)
      have hN := (show (fun w' => Kept w w' ∧ Has w.heap.size (A.cells s) 25 w' ∧ Has w6.heap.size (A.outc x s' 5) 50 w' ∧ HasN (w.heap.size + 2) 21 25 w') _ from ⟨hHeld.1.row (by omega) _, hHeld.2.1.rowOther (by omega) _, hHeld.2.2.1.rowOther (by omega) _, ⟨A.cells s, A.size_cells _, hR⟩⟩)
      clear hHeld
      refine hK.out _ _ hN (fun hHeld => ?_)
      clear hK K hN
      try simp only [Act.put, List.setIfInBounds_toArray, List.set_cons_zero, List.set_cons_succ]
      refine wpAnyH_take (i := 4) (oi := { dst := some 5, op := Op.assign (Operand.tmp 38), type := 3, pos := "alu.go:38", after := #[{ on := 2, ground := Ground.data }, { on := 3, ground := Ground.chain }, { on := 0, ground := Ground.phase }, { on := 1, ground := Ground.phase }, { on := 2, ground := Ground.phase }, { on := 3, ground := Ground.phase }], guard := none }) (v := ?_) rfl (by kernel_rfl) (by kernel_rfl) (by kernel_rfl) (fun _ _ _ h => h) (Or.inl ⟨rfl, ?_⟩) hHeld ?_
      rotate_left
      · (intro wz hSw; (try dsimp only at hSw); have q0 := hSw.2.2.1.cell 22 _ (A.outc_t _ _ _); go_simp; try with_reducible rfl)
      try simp only [Act.put, List.setIfInBounds_toArray, List.set_cons_zero, List.set_cons_succ]
      refine wpAnyH_done (by kernel_rfl) ?_ _
      generalize World.setRow _ _ _ = wF at hHeld hR
      replace hR := Lib.hid hR
      go_wp2_with fail
      exact bodyPost_ret (results_has2 rfl (w.heap.size + 2) rfl hR.out Try.underlying25 rfl (A.info25 _)) rfl ⟨rfl, hHeld.1⟩
    · have hl1 := hHeld.res.lt
      have hl2 := hHeld.row.lt
      go_simp
      have hA := Has.new #[.int .u32 0, .int .u32 0, .int .u32 0, .int .u32 0, .int .u32 0, .int .u32 0, .int .u32 0, .int .u32 0, .int .u32 0, .int .u32 0, .int .u32 0, .int .u32 0, .int .u32 0, .int .u32 0, .int .u32 0, .int .u32 0, .int .u32 0, .int .u32 0, .bool false, .bool false, .bool false, .bool false, .int .i64 0] 50 w5
      have hN := (show (A.St s #[.int .i64 k, .int .i64 op, .int .i64 a, .int .i64 b, .int .i64 c, .int .i64 i, .bool u] w2.heap.size (A.row o f) w) _ from hHeld.step ((Kept.refl _).alloc #[.int .u32 0, .int .u32 0, .int .u32 0, .int .u32 0, .int .u32 0, .int .u32 0, .int .u32 0, .int .u32 0, .int .u32 0, .int .u32 0, .int .u32 0, .int .u32 0, .int .u32 0, .int .u32 0, .int .u32 0, .int .u32 0, .int .u32 0, .int .u32 0, .bool false, .bool false, .bool false, .bool false, .int .i64 0] 50))
      clear hHeld
      refine hK.out _ _ hN (fun hHeld => ?_)
      clear hK K hN
      try simp only [Act.put, List.setIfInBounds_toArray, List.set_cons_zero, List.set_cons_succ]
      refine wpAnyH_ready (rs := [14]) (by kernel_rfl) (by simp) ?_
      refine AllReadyH.cons (o := { dst := some 32, op := Op.call { callee := Callee.value (Operand.tmp 19), args := #[Operand.tmp 31], argTypes := #[53] }, type := 50, pos := "alu.go:36", after := #[{ on := 1, ground := Ground.data }, { on := 13, ground := Ground.data }, { on := 10, ground := Ground.chain }], guard := none }) rfl (fun K hK => ?_) (AllReadyH.nil)
      refine wp_call_value (o := { dst := some 32, op := Op.call { callee := Callee.value (Operand.tmp 19), args := #[Operand.tmp 31], argTypes := #[53] }, type := 50, pos := "alu.go:36", after := #[{ on := 1, ground := Ground.data }, { on := 13, ground := Ground.data }, { on := 10, ground := Ground.chain }], guard := none }) _ _ _ rfl f ?_ HF.out #[.agg (A.opnd s (s.r b.toNat) n u)] ?_ ?_
      · rfl
      · go_simp
      refine (HW.out _).mono ?_
      rintro e w6 ⟨rfl, hK5⟩
      replace hA := hA.kept hK5
      have hN := (show (A.St s #[.int .i64 k, .int .i64 op, .int .i64 a, .int .i64 b, .int .i64 c, .int .i64 i, .bool u] w2.heap.size (A.row o f) w) _ from hHeld.step hK5)
      clear hHeld
      refine hK.out _ _ hN (fun hHeld => ?_)
      clear hK K hN
      try simp only [Act.put, List.setIfInBounds_toArray, List.set_cons_zero, List.set_cons_succ]
      refine wpAnyH_ready (rs := [16]) (by kernel_rfl) (by simp) ?_
      refine AllReadyH.cons (o := { dst := none, op := Op.store 50 (Operand.tmp 8) (Operand.tmp 32), type := 0, pos := "alu.go:36", after := #[{ on := 15, ground := Ground.data }, { on := 14, ground := Ground.data }, { on := 14, ground := Ground.chain }, { on := 0, ground := Ground.phase }, { on := 1, ground := Ground.phase }, { on := 2, ground := Ground.phase }, { on := 3, ground := Ground.phase }, { on := 4, ground := Ground.phase }, { on := 5, ground := Ground.phase }, { on := 6, ground := Ground.phase }, { on := 7, ground := Ground.phase }, { on := 8, ground := Ground.phase }, { on := 9, ground := Ground.phase }, { on := 10, ground := Ground.phase }, { on := 11, ground := Ground.phase }, { on := 12, ground := Ground.phase }, { on := 13, ground := Ground.phase }, { on := 14, ground := Ground.phase }, { on := 15, ground := Ground.phase }], guard := none }) rfl (fun K hK => ?_) (AllReadyH.nil)
      refine wp_store_row (o := { dst := none, op := Op.store 50 (Operand.tmp 8) (Operand.tmp 32), type := 0, pos := "alu.go:36", after := #[{ on := 15, ground := Ground.data }, { on := 14, ground := Ground.data }, { on := 14, ground := Ground.chain }, { on := 0, ground := Ground.phase }, { on := 1, ground := Ground.phase }, { on := 2, ground := Ground.phase }, { on := 3, ground := Ground.phase }, { on := 4, ground := Ground.phase }, { on := 5, ground := Ground.phase }, { on := 6, ground := Ground.phase }, { on := 7, ground := Ground.phase }, { on := 8, ground := Ground.phase }, { on := 9, ground := Ground.phase }, { on := 10, ground := Ground.phase }, { on := 11, ground := Ground.phase }, { on := 12, ground := Ground.phase }, { on := 13, ground := Ground.phase }, { on := 14, ground := Ground.phase }, { on := 15, ground := Ground.phase }], guard := none }) 50 _ _ rfl _ (A.outc x s' 5) ?_ ?_ 50 _ hA (A.infoOut _ _ _) (by kernel_rfl) (A.one_outc _ _ _) ?_
      · rfl
      · rfl
      replace hA := hA.row (A.outc x s' 5)
      have hN := (show (A.St s #[.int .i64 k, .int .i64 op, .int .i64 a, .int .i64 b, .int .i64 c, .int .i64 i, .bool u] w2.heap.size (A.row o f) w) _ from hHeld.rowNew (by omega) (by omega) (A.outc x s' 5))
      clear hHeld
      refine hK.out _ _ hN (fun hHeld => ?_)
      clear hK K hN
      try simp only [Act.put, List.setIfInBounds_toArray, List.set_cons_zero, List.set_cons_succ]
      refine wpAnyH_done (by kernel_rfl) ?_ _
      generalize World.setRow _ _ _ = wF at hHeld hA
      have q2 := hA.cell 22 _ (A.outc_t _ _ _)
      have H6 := Lib.hid (show Kept w wF ∧ Has w.heap.size (A.cells s) 25 wF ∧ Has _ (A.outc x s' 5) 50 wF ∧ HasN (w.heap.size + 2) 21 25 wF from ⟨hHeld.kept, hHeld.regs, hA, ⟨_, rfl, hHeld.res⟩⟩)
      clear hHeld hA hS
      go_upto_region 6 with (fail)
      clear q2
      refine wp_region_held_drew (S := fun w' => Kept w w' ∧ Has w.heap.size (A.cells s) 25 w' ∧ Has w5.heap.size (A.outc x s' 5) 50 w' ∧ HasN (w.heap.size + 2) 21 25 w') (by kernel_rfl) ?_ (fun hHeld => ?_)
      · exact ⟨H6.out.1.drew, H6.out.2.1.drew, H6.out.2.2.1.drew, H6.out.2.2.2⟩
      refine wpAnyH_take (i := 0) (oi := { dst := some 36, op := Op.load 25 (Operand.tmp 2), type := 25, pos := "alu.go:38", after := #[], guard := none }) (v := ?_) rfl (by kernel_rfl) (by kernel_rfl) (by kernel_rfl) (fun _ _ _ h => h) (Or.inl ⟨rfl, ?_⟩) hHeld ?_
      rotate_left
      · (intro wz hSw; refine exec_load_has 25 (Operand.tmp 2) ?_ _ ?_ hSw.2.1 Try.underlying25 rfl (A.info25 _) <;> rfl)
      try simp only [Act.put, List.setIfInBounds_toArray, List.set_cons_zero, List.set_cons_succ]
      refine wpAnyH_take (i := 1) (oi := { dst := some 37, op := Op.fieldAddr 50 (Operand.tmp 8) 2, type := 0, pos := "alu.go:38", after := #[{ on := 3, ground := Ground.gcOnly Departure.lateStores }], guard := none }) (v := ?_) rfl (by kernel_rfl) (by kernel_rfl) (by kernel_rfl) (fun _ _ _ h => h) (Or.inl ⟨rfl, ?_⟩) hHeld ?_
      rotate_left
      · (intro wz hSw; (try dsimp only at hSw); have q0 := hSw.2.2.1.cell 22 _ (A.outc_t _ _ _); go_simp; try with_reducible rfl)
      try simp only [Act.put, List.setIfInBounds_toArray, List.set_cons_zero, List.set_cons_succ]
      refine wpAnyH_take (i := 2) (oi := { dst := some 38, op := Op.load 3 (Operand.tmp 37), type := 3, pos := "alu.go:38", after := #[{ on := 1, ground := Ground.data }, { on := 3, ground := Ground.gcOnly Departure.lateStores }], guard := none }) (v := ?_) rfl (by kernel_rfl) (by kernel_rfl) (by kernel_rfl) (fun _ _ _ h => h) (Or.inl ⟨rfl, ?_⟩) hHeld ?_
      rotate_left
      · (intro wz hSw; (try dsimp only at hSw); have q0 := hSw.2.2.1.cell 22 _ (A.outc_t _ _ _); go_simp; try with_reducible rfl)
      try simp only [Act.put, List.setIfInBounds_toArray, List.set_cons_zero, List.set_cons_succ]
      refine wpAnyH_ready (rs := [3]) (by kernel_rfl) (by simp) ?_
      refine AllReadyH.cons (o := { dst := none, op := Op.store 25 (Operand.tmp 4) (Operand.tmp 36), type := 0, pos := "alu.go:38", after := #[{ on := 0, ground := Ground.data }, { on := 0, ground := Ground.phase }, { on := 1, ground := Ground.textOnly Departure.lateStores }, { on := 2, ground := Ground.textOnly Departure.lateStores }], guard := none }) rfl (fun K hK => ?_) (AllReadyH.nil)
      obtain ⟨old, hold, hR⟩ := hHeld.2.2.2
      refine wp_store_row (o := { dst := none, op := Op.store 25 (Operand.tmp 4) (Operand.tmp 36), type := 0, pos := "alu.go:38", after := #[{ on := 0, ground := Ground.data }, { on := 0, ground := Ground.phase }, { on := 1, ground := Ground.textOnly Departure.lateStores }, { on := 2, ground := Ground.textOnly Departure.lateStores }], guard := none }) 25 _ _ rfl _ (A.cells s) ?_ ?_ 25 old hR (A.info25 _) hold (A.one_cells _) ?_
      · rfl
      · rfl
      replace hR := Has.row hR (A.cells s)
      have hN := (show (fun w' => Kept w w' ∧ Has w.heap.size (A.cells s) 25 w' ∧ Has w5.heap.size (A.outc x s' 5) 50 w' ∧ HasN (w.heap.size + 2) 21 25 w') _ from ⟨hHeld.1.row (by omega) _, hHeld.2.1.rowOther (by omega) _, hHeld.2.2.1.rowOther (by omega) _, ⟨A.cells s, A.size_cells _, hR⟩⟩)
      clear hHeld
      refine hK.out _ _ hN (fun hHeld => ?_)
      clear hK K hN
      try simp only [Act.put, List.setIfInBounds_toArray, List.set_cons_zero, List.set_cons_succ]
      refine wpAnyH_take (i := 4) (oi := { dst := some 5, op := Op.assign (Operand.tmp 38), type := 3, pos := "alu.go:38", after := #[{ on := 2, ground := Ground.data }, { on := 3, ground := Ground.chain }, { on := 0, ground := Ground.phase }, { on := 1, ground := Ground.phase }, { on := 2, ground := Ground.phase }, { on := 3, ground := Ground.phase }], guard := none }) (v := ?_) rfl (by kernel_rfl) (by kernel_rfl) (by kernel_rfl) (fun _ _ _ h => h) (Or.inl ⟨rfl, ?_⟩) hHeld ?_
      rotate_left
      · (intro wz hSw; (try dsimp only at hSw); have q0 := hSw.2.2.1.cell 22 _ (A.outc_t _ _ _); go_simp; try with_reducible rfl)
      try simp only [Act.put, List.setIfInBounds_toArray, List.set_cons_zero, List.set_cons_succ]
      refine wpAnyH_done (by kernel_rfl) ?_ _
      generalize World.setRow _ _ _ = wF at hHeld hR
      replace hR := Lib.hid hR
      go_wp2_with fail
      exact bodyPost_ret (results_has2 rfl (w.heap.size + 2) rfl hR.out Try.underlying25 rfl (A.info25 _)) rfl ⟨rfl, hHeld.1⟩
  · have hl1 := hHeld.res.lt
    have hl2 := hHeld.row.lt
    go_simp
    have hA := Has.new #[.int .u32 0, .int .u32 0, .int .u32 0, .int .u32 0, .int .u32 0, .int .u32 0, .int .u32 0, .int .u32 0, .int .u32 0, .int .u32 0, .int .u32 0, .int .u32 0, .int .u32 0, .int .u32 0, .int .u32 0, .int .u32 0, .int .u32 0, .int .u32 0, .bool false, .bool false, .bool false, .bool false, .int .i64 0] 50 ((w2.alloc (.cells (A.row o f) 46)).drew)
    have e8 : ((w2.alloc (.cells (A.row o f) 46)).drew).heap.size = w2.heap.size + 1 := by show (w2.heap.push _).size = _; simp
    rw [e8] at hA hl1 hl2
    clear e8
    have hN := (show (A.St s #[.int .i64 k, .int .i64 op, .int .i64 a, .int .i64 b, .int .i64 c, .int .i64 i, .bool u] w2.heap.size (A.row o f) w) _ from hHeld.step ((Kept.refl _).alloc #[.int .u32 0, .int .u32 0, .int .u32 0, .int .u32 0, .int .u32 0, .int .u32 0, .int .u32 0, .int .u32 0, .int .u32 0, .int .u32 0, .int .u32 0, .int .u32 0, .int .u32 0, .int .u32 0, .int .u32 0, .int .u32 0, .int .u32 0, .int .u32 0, .bool false, .bool false, .bool false, .bool false, .int .i64 0] 50))
    clear hHeld
    refine hK.out _ _ hN (fun hHeld => ?_)
    clear hK K hN
    try simp only [Act.put, List.setIfInBounds_toArray, List.set_cons_zero, List.set_cons_succ]
    refine wpAnyH_ready (rs := [10]) (by kernel_rfl) (by simp) ?_
    refine AllReadyH.cons (o := { dst := some 28, op := Op.call { callee := Callee.value (Operand.func 18), args := #[Operand.tmp 26, Operand.tmp 27], argTypes := #[25, 27] }, type := 22, pos := "alu.go:36", after := #[{ on := 8, ground := Ground.data }, { on := 9, ground := Ground.data }], guard := none }) rfl (fun K hK => ?_) (AllReadyH.nil)
    go_simp
    go_at_call 18
    refine (HN.out _).mono ?_
    rintro e w5 ⟨rfl, hK5⟩
    replace hA := hA.kept hK5
    have hN := (show (A.St s #[.int .i64 k, .int .i64 op, .int .i64 a, .int .i64 b, .int .i64 c, .int .i64 i, .bool u] w2.heap.size (A.row o f) w) _ from hHeld.step hK5)
    clear hHeld
    refine hK.out _ _ hN (fun hHeld => ?_)
    clear hK K hN
    try simp only [Act.put, List.setIfInBounds_toArray, List.set_cons_zero, List.set_cons_succ]
    refine wpAnyH_take (i := 13) (oi := { dst := some 31, op := Op.build 53 #[(0, Operand.tmp 20), (1, Operand.tmp 25), (2, Operand.tmp 28), (3, Operand.tmp 30)], type := 53, pos := "alu.go:36", after := #[{ on := 2, ground := Ground.data }, { on := 7, ground := Ground.data }, { on := 10, ground := Ground.data }, { on := 12, ground := Ground.data }], guard := none }) (v := ?_) rfl (by kernel_rfl) (by kernel_rfl) (by kernel_rfl) (fun _ _ _ h => h) (Or.inl ⟨rfl, ?_⟩) hHeld ?_
    rotate_left
    · (intro wz hSw; refine exec_build (o := { dst := some 31, op := Op.build 53 #[(0, Operand.tmp 20), (1, Operand.tmp 25), (2, Operand.tmp 28), (3, Operand.tmp 30)], type := 53, pos := "alu.go:36", after := #[{ on := 2, ground := Ground.data }, { on := 7, ground := Ground.data }, { on := 10, ground := Ground.data }, { on := 12, ground := Ground.data }], guard := none }) 53 _ rfl (A.opnd s (s.r b.toNat) n u) ?_; (go_simp; exact A.builtOp _ _ _ _))
    try simp only [Act.put, List.setIfInBounds_toArray, List.set_cons_zero, List.set_cons_succ]
    refine wpAnyH_ready (rs := [14]) (by kernel_rfl) (by simp) ?_
    refine AllReadyH.cons (o := { dst := some 32, op := Op.call { callee := Callee.value (Operand.tmp 19), args := #[Operand.tmp 31], argTypes := #[53] }, type := 50, pos := "alu.go:36", after := #[{ on := 1, ground := Ground.data }, { on := 13, ground := Ground.data }, { on := 10, ground := Ground.chain }], guard := none }) rfl (fun K hK => ?_) (AllReadyH.nil)
    refine wp_call_value (o := { dst := some 32, op := Op.call { callee := Callee.value (Operand.tmp 19), args := #[Operand.tmp 31], argTypes := #[53] }, type := 50, pos := "alu.go:36", after := #[{ on := 1, ground := Ground.data }, { on := 13, ground := Ground.data }, { on := 10, ground := Ground.chain }], guard := none }) _ _ _ rfl f ?_ HF.out #[.agg (A.opnd s (s.r b.toNat) n u)] ?_ ?_
    · rfl
    · go_simp
    refine (HW.out _).mono ?_
    rintro e w6 ⟨rfl, hK5⟩
    replace hA := hA.kept hK5
    have hN := (show (A.St s #[.int .i64 k, .int .i64 op, .int .i64 a, .int .i64 b, .int .i64 c, .int .i64 i, .bool u] w2.heap.size (A.row o f) w) _ from hHeld.step hK5)
    clear hHeld
    refine hK.out _ _ hN (fun hHeld => ?_)
    clear hK K hN
    try simp only [Act.put, List.setIfInBounds_toArray, List.set_cons_zero, List.set_cons_succ]
    refine wpAnyH_ready (rs := [16]) (by kernel_rfl) (by simp) ?_
    refine AllReadyH.cons (o := { dst := none, op := Op.store 50 (Operand.tmp 8) (Operand.tmp 32), type := 0, pos := "alu.go:36", after := #[{ on := 15, ground := Ground.data }, { on := 14, ground := Ground.data }, { on := 14, ground := Ground.chain }, { on := 0, ground := Ground.phase }, { on := 1, ground := Ground.phase }, { on := 2, ground := Ground.phase }, { on := 3, ground := Ground.phase }, { on := 4, ground := Ground.phase }, { on := 5, ground := Ground.phase }, { on := 6, ground := Ground.phase }, { on := 7, ground := Ground.phase }, { on := 8, ground := Ground.phase }, { on := 9, ground := Ground.phase }, { on := 10, ground := Ground.phase }, { on := 11, ground := Ground.phase }, { on := 12, ground := Ground.phase }, { on := 13, ground := Ground.phase }, { on := 14, ground := Ground.phase }, { on := 15, ground := Ground.phase }], guard := none }) rfl (fun K hK => ?_) (AllReadyH.nil)
    refine wp_store_row (o := { dst := none, op := Op.store 50 (Operand.tmp 8) (Operand.tmp 32), type := 0, pos := "alu.go:36", after := #[{ on := 15, ground := Ground.data }, { on := 14, ground := Ground.data }, { on := 14, ground := Ground.chain }, { on := 0, ground := Ground.phase }, { on := 1, ground := Ground.phase }, { on := 2, ground := Ground.phase }, { on := 3, ground := Ground.phase }, { on := 4, ground := Ground.phase }, { on := 5, ground := Ground.phase }, { on := 6, ground := Ground.phase }, { on := 7, ground := Ground.phase }, { on := 8, ground := Ground.phase }, { on := 9, ground := Ground.phase }, { on := 10, ground := Ground.phase }, { on := 11, ground := Ground.phase }, { on := 12, ground := Ground.phase }, { on := 13, ground := Ground.phase }, { on := 14, ground := Ground.phase }, { on := 15, ground := Ground.phase }], guard := none }) 50 _ _ rfl _ (A.outc x s' 5) ?_ ?_ 50 _ hA (A.infoOut _ _ _) (by kernel_rfl) (A.one_outc _ _ _) ?_
    · rfl
    · rfl
    replace hA := hA.row (A.outc x s' 5)
    have hN := (show (A.St s #[.int .i64 k, .int .i64 op, .int .i64 a, .int .i64 b, .int .i64 c, .int .i64 i, .bool u] w2.heap.size (A.row o f) w) _ from hHeld.rowNew (by omega) (by omega) (A.outc x s' 5))
    clear hHeld
    refine hK.out _ _ hN (fun hHeld => ?_)
    clear hK K hN
    try simp only [Act.put, List.setIfInBounds_toArray, List.set_cons_zero, List.set_cons_succ]
    refine wpAnyH_done (by kernel_rfl) ?_ _
    generalize World.setRow _ _ _ = wF at hHeld hA
    have q2 := hA.cell 22 _ (A.outc_t _ _ _)
    have H6 := Lib.hid (show Kept w wF ∧ Has w.heap.size (A.cells s) 25 wF ∧ Has _ (A.outc x s' 5) 50 wF ∧ HasN (w.heap.size + 2) 21 25 wF from ⟨hHeld.kept, hHeld.regs, hA, ⟨_, rfl, hHeld.res⟩⟩)
    clear hHeld hA hS
    go_upto_region 6 with (fail)
    clear q2
    refine wp_region_held_drew (S := fun w' => Kept w w' ∧ Has w.heap.size (A.cells s) 25 w' ∧ Has (w2.heap.size + 1) (A.outc x s' 5) 50 w' ∧ HasN (w.heap.size + 2) 21 25 w') (by kernel_rfl) ?_ (fun hHeld => ?_)
    · exact ⟨H6.out.1.drew, H6.out.2.1.drew, H6.out.2.2.1.drew, H6.out.2.2.2⟩
    refine wpAnyH_take (i := 0) (oi := { dst := some 36, op := Op.load 25 (Operand.tmp 2), type := 25, pos := "alu.go:38", after := #[], guard := none }) (v := ?_) rfl (by kernel_rfl) (by kernel_rfl) (by kernel_rfl) (fun _ _ _ h => h) (Or.inl ⟨rfl, ?_⟩) hHeld ?_
    rotate_left
    · (intro wz hSw; refine exec_load_has 25 (Operand.tmp 2) ?_ _ ?_ hSw.2.1 Try.underlying25 rfl (A.info25 _) <;> rfl)
    try simp only [Act.put, List.setIfInBounds_toArray, List.set_cons_zero, List.set_cons_succ]
    refine wpAnyH_take (i := 1) (oi := { dst := some 37, op := Op.fieldAddr 50 (Operand.tmp 8) 2, type := 0, pos := "alu.go:38", after := #[{ on := 3, ground := Ground.gcOnly Departure.lateStores }], guard := none }) (v := ?_) rfl (by kernel_rfl) (by kernel_rfl) (by kernel_rfl) (fun _ _ _ h => h) (Or.inl ⟨rfl, ?_⟩) hHeld ?_
    rotate_left
    · (intro wz hSw; (try dsimp only at hSw); have q0 := hSw.2.2.1.cell 22 _ (A.outc_t _ _ _); go_simp; try with_reducible rfl)
    try simp only [Act.put, List.setIfInBounds_toArray, List.set_cons_zero, List.set_cons_succ]
    refine wpAnyH_take (i := 2) (oi := { dst := some 38, op := Op.load 3 (Operand.tmp 37), type := 3, pos := "alu.go:38", after := #[{ on := 1, ground := Ground.data }, { on := 3, ground := Ground.gcOnly Departure.lateStores }], guard := none }) (v := ?_) rfl (by kernel_rfl) (by kernel_rfl) (by kernel_rfl) (fun _ _ _ h => h) (Or.inl ⟨rfl, ?_⟩) hHeld ?_
    rotate_left
    · (intro wz hSw; (try dsimp only at hSw); have q0 := hSw.2.2.1.cell 22 _ (A.outc_t _ _ _); go_simp; try with_reducible rfl)
    try simp only [Act.put, List.setIfInBounds_toArray, List.set_cons_zero, List.set_cons_succ]
    refine wpAnyH_ready (rs := [3]) (by kernel_rfl) (by simp) ?_
    refine AllReadyH.cons (o := { dst := none, op := Op.store 25 (Operand.tmp 4) (Operand.tmp 36), type := 0, pos := "alu.go:38", after := #[{ on := 0, ground := Ground.data }, { on := 0, ground := Ground.phase }, { on := 1, ground := Ground.textOnly Departure.lateStores }, { on := 2, ground := Ground.textOnly Departure.lateStores }], guard := none }) rfl (fun K hK => ?_) (AllReadyH.nil)
    obtain ⟨old, hold, hR⟩ := hHeld.2.2.2
    refine wp_store_row (o := { dst := none, op := Op.store 25 (Operand.tmp 4) (Operand.tmp 36), type := 0, pos := "alu.go:38", after := #[{ on := 0, ground := Ground.data }, { on := 0, ground := Ground.phase }, { on := 1, ground := Ground.textOnly Departure.lateStores }, { on := 2, ground := Ground.textOnly Departure.lateStores }], guard := none }) 25 _ _ rfl _ (A.cells s) ?_ ?_ 25 old hR (A.info25 _) hold (A.one_cells _) ?_
    · rfl
    · rfl
    replace hR := Has.row hR (A.cells s)
    have hN := (show (fun w' => Kept w w' ∧ Has w.heap.size (A.cells s) 25 w' ∧ Has (w2.heap.size + 1) (A.outc x s' 5) 50 w' ∧ HasN (w.heap.size + 2) 21 25 w') _ from ⟨hHeld.1.row (by omega) _, hHeld.2.1.rowOther (by omega) _, hHeld.2.2.1.rowOther (by omega) _, ⟨A.cells s, A.size_cells _, hR⟩⟩)
    clear hHeld
    refine hK.out _ _ hN (fun hHeld => ?_)
    clear hK K hN
    try simp only [Act.put, List.setIfInBounds_toArray, List.set_cons_zero, List.set_cons_succ]
    refine wpAnyH_take (i := 4) (oi := { dst := some 5, op := Op.assign (Operand.tmp 38), type := 3, pos := "alu.go:38", after := #[{ on := 2, ground := Ground.data }, { on := 3, ground := Ground.chain }, { on := 0, ground := Ground.phase }, { on := 1, ground := Ground.phase }, { on := 2, ground := Ground.phase }, { on := 3, ground := Ground.phase }], guard := none }) (v := ?_) rfl (by kernel_rfl) (by kernel_rfl) (by kernel_rfl) (fun _ _ _ h => h) (Or.inl ⟨rfl, ?_⟩) hHeld ?_
    rotate_left
    · (intro wz hSw; (try dsimp only at hSw); have q0 := hSw.2.2.1.cell 22 _ (A.outc_t _ _ _); go_simp; try with_reducible rfl)
    try simp only [Act.put, List.setIfInBounds_toArray, List.set_cons_zero, List.set_cons_succ]
    refine wpAnyH_done (by kernel_rfl) ?_ _
    generalize World.setRow _ _ _ = wF at hHeld hR
    replace hR := Lib.hid hR
    go_wp2_with fail
    exact bodyPost_ret (results_has2 rfl (w.heap.size + 2) rfl hR.out Try.underlying25 rfl (A.info25 _)) rfl ⟨rfl, hHeld.1⟩
end Go.Proofs.Ytghjdpmijnlhjaa
