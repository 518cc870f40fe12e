/-
  The contracts of the rows of the table of package alu: what comes of each operation.
-/
import Derived.Test.YtghjdpmijnlhjaaAlu1
namespace Go.Proofs.Ytghjdpmijnlhjaa
open Go.RowKit
set_option linter.unusedVariables false
set_option linter.unusedSimpArgs false
theorem move_t (s : A.Regs) (b n : Int) (h0 : 0 ≤ b) (h1 : b < 4294967296) (h2 : 0 ≤ n) (h3 : n < 4294967296) (w : World) :
    Calls Try.prog 45 #[.agg (A.opnd s b n true)] w fun e w' => e = .returned (.agg (A.outc (n * 65536 % 4294967296) s 0)) ∧ Kept w w' := by
  go_enter Try.func45, Try.ntmps45
  go_wp2_with (first
    | (with_reducible refine load_has (o := ⟨some 5, _, _, _, _, _⟩) rfl 53 _ rfl _ rfl ((Has.new _ _ _).alloc _) Try.underlying53 rfl (A.infoOp _ _ _ _) ?_)
    | (with_reducible refine store_has (o := ⟨none, Op.store 50 _ _, _, _, _, _⟩) rfl 50 _ _ rfl _ _ rfl rfl (by assumption) (A.infoOut _ _ _) (by kernel_rfl) (A.one_outc _ _ _) ?_)
    | (go_at_call 40; (refine (just_any _ _ _ _ _ _).mono ?_; rintro e w2 ⟨rfl, hK2⟩); (have hX := (Has.new1 _ _ _ _).kept hK2); (have hK := (((Kept.refl w).alloc _ _).alloc _ _).trans hK2); clear hK2))
  exact bodyPost_ret (results_has rfl (w.heap.size + 1) rfl (hX.row _) Try.underlying50 rfl (A.infoOut _ _ _)) rfl ⟨rfl, hK.row (by omega) _⟩
theorem move_f (s : A.Regs) (b n : Int) (h0 : 0 ≤ b) (h1 : b < 4294967296) (h2 : 0 ≤ n) (h3 : n < 4294967296) (w : World) :
    Calls Try.prog 45 #[.agg (A.opnd s b n false)] w fun e w' => e = .returned (.agg (A.outc n s 0)) ∧ Kept w w' := by
  go_enter Try.func45, Try.ntmps45
  go_wp2_with (first
    | (with_reducible refine load_has (o := ⟨some 10, _, _, _, _, _⟩) rfl 53 _ rfl _ rfl ((Has.new _ _ _).alloc _) Try.underlying53 rfl (A.infoOp _ _ _ _) ?_)
    | (with_reducible refine store_has (o := ⟨none, Op.store 50 _ _, _, _, _, _⟩) rfl 50 _ _ rfl _ _ rfl rfl (by assumption) (A.infoOut _ _ _) (by kernel_rfl) (A.one_outc _ _ _) ?_)
    | (go_at_call 40; (refine (just_any _ _ _ _ _ _).mono ?_; rintro e w2 ⟨rfl, hK2⟩); (have hX := (Has.new1 _ _ _ _).kept hK2); (have hK := (((Kept.refl w).alloc _ _).alloc _ _).trans hK2); clear hK2))
  exact bodyPost_ret (results_has rfl (w.heap.size + 1) rfl (hX.row _) Try.underlying50 rfl (A.infoOut _ _ _)) rfl ⟨rfl, hK.row (by omega) _⟩
theorem high_any (s : A.Regs) (b n : Int) (u : Bool) (w : World) :
    Calls Try.prog 28 #[.agg (A.opnd s b n u)] w fun e w' => e = .returned (.agg (A.outc s.h s 0)) ∧ Kept w w' := by
  go_enter Try.func28, Try.ntmps28
  go_wp2_with (first
    | (with_reducible refine load_has (o := ⟨some 3, _, _, _, _, _⟩) rfl 53 _ rfl _ rfl ((Has.new _ _ _).alloc _) Try.underlying53 rfl (A.infoOp _ _ _ _) ?_)
    | (with_reducible refine store_has (o := ⟨none, Op.store 50 _ _, _, _, _, _⟩) rfl 50 _ _ rfl _ _ rfl rfl (by assumption) (A.infoOut _ _ _) (by kernel_rfl) (A.one_outc _ _ _) ?_)
    | (go_at_call 40; (refine (just_any _ _ _ _ _ _).mono ?_; rintro e w2 ⟨rfl, hK2⟩); (have hX := (Has.new1 _ _ _ _).kept hK2); (have hK := (((Kept.refl w).alloc _ _).alloc _ _).trans hK2); clear hK2))
  exact bodyPost_ret (results_has rfl (w.heap.size + 1) rfl (hX.row _) Try.underlying50 rfl (A.infoOut _ _ _)) rfl ⟨rfl, hK.row (by omega) _⟩
theorem bit_and (s : A.Regs) (b n : Int) (u : Bool) (h0 : 0 ≤ b) (h1 : b < 4294967296) (h2 : 0 ≤ n) (h3 : n < 4294967296) (w : World) :
    Calls Try.prog 50 #[.agg (A.opnd s b n u)] w fun e w' => e = .returned (.agg (A.outc (bits BinOp.and IntKind.u32 b n) s 0)) ∧ Kept w w' := by
  go_enter Try.func50, Try.ntmps50
  go_wp2_with (first
    | (with_reducible refine load_has (o := ⟨some 3, _, _, _, _, _⟩) rfl 53 _ rfl _ rfl ((Has.new _ _ _).alloc _) Try.underlying53 rfl (A.infoOp _ _ _ _) ?_)
    | (with_reducible refine store_has (o := ⟨none, Op.store 50 _ _, _, _, _, _⟩) rfl 50 _ _ rfl _ _ rfl rfl (by assumption) (A.infoOut _ _ _) (by kernel_rfl) (A.one_outc _ _ _) ?_)
    | (go_at_call 40; (refine (just_any _ _ _ _ _ _).mono ?_; rintro e w2 ⟨rfl, hK2⟩); (have hX := (Has.new1 _ _ _ _).kept hK2); (have hK := (((Kept.refl w).alloc _ _).alloc _ _).trans hK2); clear hK2))
  exact bodyPost_ret (results_has rfl (w.heap.size + 1) rfl (hX.row _) Try.underlying50 rfl (A.infoOut _ _ _)) rfl ⟨rfl, hK.row (by omega) _⟩
theorem bit_andNot (s : A.Regs) (b n : Int) (u : Bool) (h0 : 0 ≤ b) (h1 : b < 4294967296) (h2 : 0 ≤ n) (h3 : n < 4294967296) (w : World) :
    Calls Try.prog 51 #[.agg (A.opnd s b n u)] w fun e w' => e = .returned (.agg (A.outc (bits BinOp.andNot IntKind.u32 b n) s 0)) ∧ Kept w w' := by
  go_enter Try.func51, Try.ntmps51
  go_wp2_with (first
    | (with_reducible refine load_has (o := ⟨some 3, _, _, _, _, _⟩) rfl 53 _ rfl _ rfl ((Has.new _ _ _).alloc _) Try.underlying53 rfl (A.infoOp _ _ _ _) ?_)
    | (with_reducible refine store_has (o := ⟨none, Op.store 50 _ _, _, _, _, _⟩) rfl 50 _ _ rfl _ _ rfl rfl (by assumption) (A.infoOut _ _ _) (by kernel_rfl) (A.one_outc _ _ _) ?_)
    | (go_at_call 40; (refine (just_any _ _ _ _ _ _).mono ?_; rintro e w2 ⟨rfl, hK2⟩); (have hX := (Has.new1 _ _ _ _).kept hK2); (have hK := (((Kept.refl w).alloc _ _).alloc _ _).trans hK2); clear hK2))
  exact bodyPost_ret (results_has rfl (w.heap.size + 1) rfl (hX.row _) Try.underlying50 rfl (A.infoOut _ _ _)) rfl ⟨rfl, hK.row (by omega) _⟩
theorem bit_or (s : A.Regs) (b n : Int) (u : Bool) (h0 : 0 ≤ b) (h1 : b < 4294967296) (h2 : 0 ≤ n) (h3 : n < 4294967296) (w : World) :
    Calls Try.prog 52 #[.agg (A.opnd s b n u)] w fun e w' => e = .returned (.agg (A.outc (bits BinOp.or IntKind.u32 b n) s 0)) ∧ Kept w w' := by
  go_enter Try.func52, Try.ntmps52
  go_wp2_with (first
    | (with_reducible refine load_has (o := ⟨some 3, _, _, _, _, _⟩) rfl 53 _ rfl _ rfl ((Has.new _ _ _).alloc _) Try.underlying53 rfl (A.infoOp _ _ _ _) ?_)
    | (with_reducible refine store_has (o := ⟨none, Op.store 50 _ _, _, _, _, _⟩) rfl 50 _ _ rfl _ _ rfl rfl (by assumption) (A.infoOut _ _ _) (by kernel_rfl) (A.one_outc _ _ _) ?_)
    | (go_at_call 40; (refine (just_any _ _ _ _ _ _).mono ?_; rintro e w2 ⟨rfl, hK2⟩); (have hX := (Has.new1 _ _ _ _).kept hK2); (have hK := (((Kept.refl w).alloc _ _).alloc _ _).trans hK2); clear hK2))
  exact bodyPost_ret (results_has rfl (w.heap.size + 1) rfl (hX.row _) Try.underlying50 rfl (A.infoOut _ _ _)) rfl ⟨rfl, hK.row (by omega) _⟩
theorem bit_xor (s : A.Regs) (b n : Int) (u : Bool) (h0 : 0 ≤ b) (h1 : b < 4294967296) (h2 : 0 ≤ n) (h3 : n < 4294967296) (w : World) :
    Calls Try.prog 53 #[.agg (A.opnd s b n u)] w fun e w' => e = .returned (.agg (A.outc (bits BinOp.xor IntKind.u32 b n) s 0)) ∧ Kept w w' := by
  go_enter Try.func53, Try.ntmps53
  go_wp2_with (first
    | (with_reducible refine load_has (o := ⟨some 3, _, _, _, _, _⟩) rfl 53 _ rfl _ rfl ((Has.new _ _ _).alloc _) Try.underlying53 rfl (A.infoOp _ _ _ _) ?_)
    | (with_reducible refine store_has (o := ⟨none, Op.store 50 _ _, _, _, _, _⟩) rfl 50 _ _ rfl _ _ rfl rfl (by assumption) (A.infoOut _ _ _) (by kernel_rfl) (A.one_outc _ _ _) ?_)
    | (go_at_call 40; (refine (just_any _ _ _ _ _ _).mono ?_; rintro e w2 ⟨rfl, hK2⟩); (have hX := (Has.new1 _ _ _ _).kept hK2); (have hK := (((Kept.refl w).alloc _ _).alloc _ _).trans hK2); clear hK2))
  exact bodyPost_ret (results_has rfl (w.heap.size + 1) rfl (hX.row _) Try.underlying50 rfl (A.infoOut _ _ _)) rfl ⟨rfl, hK.row (by omega) _⟩
set_option maxHeartbeats 1000000 in
theorem shift_1 (s : A.Regs) (b n : Int) (u : Bool) (h0 : 0 ≤ b) (h1 : b < 4294967296) (h2 : 0 ≤ n) (h3 : n < 4294967296) (w : World) :
    Calls Try.prog 46 #[.agg (A.opnd s b n u)] w fun e w' => e = .returned (.agg (A.outc (W.shift 1 b n) s 0)) ∧ Kept w w' := by
  have hS0 : (fun w' => Kept w w' ∧ Has w.heap.size (A.opnd s b n u) 53 w' ∧ HasN (w.heap.size + 1) 23 50 w') ((w.alloc (.cells (A.opnd s b n u) 53)).alloc (.cells (A.outc 0 A.none' 0) 50)) := ⟨((Kept.refl w).alloc _ _).alloc _ _, (Has.new _ _ _).alloc _, ⟨_, rfl, Has.new1 _ _ _ _⟩⟩
  have HS0 := Lib.hid hS0
  clear hS0
  go_enter Try.func46, Try.ntmps46
  go_wp2_with fail
  refine wp_region_held_drew (S := fun w' => Kept w w' ∧ Has w.heap.size (A.opnd s b n u) 53 w' ∧ HasN (w.heap.size + 1) 23 50 w') (by kernel_rfl) ?_ (fun hHeld => ?_)
  · exact ⟨HS0.out.1.drew, HS0.out.2.1.drew, HS0.out.2.2⟩
  refine wpAnyH_take (i := 0) (oi := { dst := some 3, op := Op.load 53 (Operand.tmp 1), type := 53, pos := "alu.go:74", after := #[], guard := none }) (v := ?_) rfl (by kernel_rfl) (by kernel_rfl) (by kernel_rfl) (fun _ _ _ h => h) (Or.inl ⟨rfl, ?_⟩) hHeld ?_
  rotate_left
  · (intro wz hSw; refine exec_load_has 53 (Operand.tmp 1) ?_ _ ?_ hSw.2.1 Try.underlying53 rfl (A.infoOp _ _ _ _) <;> rfl)
  try simp only [Act.put, List.setIfInBounds_toArray, List.set_cons_zero, List.set_cons_succ]
  refine wpAnyH_take (i := 1) (oi := { dst := some 4, op := Op.fieldAddr 53 (Operand.tmp 1) 1, type := 0, pos := "alu.go:74", after := #[], guard := none }) (v := ?_) rfl (by kernel_rfl) (by kernel_rfl) (by kernel_rfl) (fun _ _ _ h => h) (Or.inl ⟨rfl, ?_⟩) hHeld ?_
  rotate_left
  · (intro wz hSw; (try dsimp only at hSw); have q1 := hSw.2.1.cell 21 _ (A.opnd_b _ _ _ _); have q2 := hSw.2.1.cell 22 _ (A.opnd_nn _ _ _ _); have q3 := hSw.2.1.cell 23 _ (A.opnd_u _ _ _ _); go_simp; try with_reducible rfl)
  try simp only [Act.put, List.setIfInBounds_toArray, List.set_cons_zero, List.set_cons_succ]
  refine wpAnyH_take (i := 2) (oi := { dst := some 5, op := Op.load 22 (Operand.tmp 4), type := 22, pos := "alu.go:74", after := #[{ on := 1, ground := Ground.data }], guard := none }) (v := ?_) rfl (by kernel_rfl) (by kernel_rfl) (by kernel_rfl) (fun _ _ _ h => h) (Or.inl ⟨rfl, ?_⟩) hHeld ?_
  rotate_left
  · (intro wz hSw; (try dsimp only at hSw); have q1 := hSw.2.1.cell 21 _ (A.opnd_b _ _ _ _); have q2 := hSw.2.1.cell 22 _ (A.opnd_nn _ _ _ _); have q3 := hSw.2.1.cell 23 _ (A.opnd_u _ _ _ _); go_simp; try with_reducible rfl)
  try simp only [Act.put, List.setIfInBounds_toArray, List.set_cons_zero, List.set_cons_succ]
  refine wpAnyH_take (i := 3) (oi := { dst := some 6, op := Op.fieldAddr 53 (Operand.tmp 1) 2, type := 0, pos := "alu.go:74", after := #[], guard := none }) (v := ?_) rfl (by kernel_rfl) (by kernel_rfl) (by kernel_rfl) (fun _ _ _ h => h) (Or.inl ⟨rfl, ?_⟩) hHeld ?_
  rotate_left
  · (intro wz hSw; (try dsimp only at hSw); have q1 := hSw.2.1.cell 21 _ (A.opnd_b _ _ _ _); have q2 := hSw.2.1.cell 22 _ (A.opnd_nn _ _ _ _); have q3 := hSw.2.1.cell 23 _ (A.opnd_u _ _ _ _); go_simp; try with_reducible rfl)
  try simp only [Act.put, List.setIfInBounds_toArray, List.set_cons_zero, List.set_cons_succ]
  refine wpAnyH_take (i := 4) (oi := { dst := some 7, op := Op.load 22 (Operand.tmp 6), type := 22, pos := "alu.go:74", after := #[{ on := 3, ground := Ground.data }], guard := none }) (v := ?_) rfl (by kernel_rfl) (by kernel_rfl) (by kernel_rfl) (fun _ _ _ h => h) (Or.inl ⟨rfl, ?_⟩) hHeld ?_
  rotate_left
  · (intro wz hSw; (try dsimp only at hSw); have q1 := hSw.2.1.cell 21 _ (A.opnd_b _ _ _ _); have q2 := hSw.2.1.cell 22 _ (A.opnd_nn _ _ _ _); have q3 := hSw.2.1.cell 23 _ (A.opnd_u _ _ _ _); go_simp; try with_reducible rfl)
  try simp only [Act.put, List.setIfInBounds_toArray, List.set_cons_zero, List.set_cons_succ]
  refine wpAnyH_ready (rs := [5]) (by kernel_rfl) (by simp) ?_
  refine AllReadyH.cons (o := { dst := some 8, op := Op.call { callee := Callee.value (Operand.func 47), args := #[Operand.const (Value.int IntKind.i64 1), Operand.tmp 5, Operand.tmp 7], argTypes := #[3, 22, 22] }, type := 22, pos := "alu.go:74", after := #[{ on := 2, ground := Ground.data }, { on := 4, ground := Ground.data }], guard := none }) rfl (fun K hK => ?_) (AllReadyH.nil)
  go_simp
  go_at_call 47
  refine (shift_any 1 b n h0 h1 h2 h3 _).mono ?_
  rintro e w5 ⟨rfl, rfl⟩
  have hN := (show (fun w' => Kept w w' ∧ Has w.heap.size (A.opnd s b n u) 53 w' ∧ HasN (w.heap.size + 1) 23 50 w') _ from hHeld)
  clear hHeld
  refine hK.out _ _ hN (fun hHeld => ?_)
  clear hK K hN
  try simp only [Act.put, List.setIfInBounds_toArray, List.set_cons_zero, List.set_cons_succ]
  refine wpAnyH_ready (rs := [6]) (by kernel_rfl) (by simp) ?_
  refine AllReadyH.cons (o := { dst := some 9, op := Op.call { callee := Callee.value (Operand.func 40), args := #[Operand.tmp 3, Operand.tmp 8], argTypes := #[53, 22] }, type := 50, pos := "alu.go:74", after := #[{ on := 0, ground := Ground.data }, { on := 5, ground := Ground.data }, { on := 5, ground := Ground.chain }], guard := none }) rfl (fun K hK => ?_) (AllReadyH.nil)
  go_simp
  go_at_call 40
  refine (just_any _ _ _ _ _ _).mono ?_
  rintro e w5 ⟨rfl, hK5⟩
  have hN := (show (fun w' => Kept w w' ∧ Has w.heap.size (A.opnd s b n u) 53 w' ∧ HasN (w.heap.size + 1) 23 50 w') _ from ⟨hHeld.1.trans hK5, hHeld.2.1.kept hK5, hHeld.2.2.kept hK5⟩)
  clear hHeld
  refine hK.out _ _ hN (fun hHeld => ?_)
  clear hK K hN
  try simp only [Act.put, List.setIfInBounds_toArray, List.set_cons_zero, List.set_cons_succ]
  refine wpAnyH_ready (rs := [7]) (by kernel_rfl) (by simp) ?_
  refine AllReadyH.cons (o := { dst := none, op := Op.store 50 (Operand.tmp 2) (Operand.tmp 9), type := 0, pos := "alu.go:74", after := #[{ on := 6, ground := Ground.data }, { on := 6, ground := Ground.chain }, { on := 0, ground := Ground.phase }, { on := 1, ground := Ground.phase }, { on := 2, ground := Ground.phase }, { on := 3, ground := Ground.phase }, { on := 4, ground := Ground.phase }, { on := 5, ground := Ground.phase }, { on := 6, ground := Ground.phase }], guard := none }) rfl (fun K hK => ?_) (AllReadyH.nil)
  obtain ⟨old, hold, hR⟩ := hHeld.2.2
  refine wp_store_row (o := { dst := none, op := Op.store 50 (Operand.tmp 2) (Operand.tmp 9), type := 0, pos := "alu.go:74", after := #[{ on := 6, ground := Ground.data }, { on := 6, ground := Ground.chain }, { on := 0, ground := Ground.phase }, { on := 1, ground := Ground.phase }, { on := 2, ground := Ground.phase }, { on := 3, ground := Ground.phase }, { on := 4, ground := Ground.phase }, { on := 5, ground := Ground.phase }, { on := 6, ground := Ground.phase }], guard := none }) 50 _ _ rfl _ (A.outc (W.shift 1 b n) s 0) ?_ ?_ 50 old hR (A.infoOut _ _ _) hold (A.one_outc _ _ _) ?_
  · rfl
  · rfl
  have hN := (show (fun w' => Kept w w' ∧ Has w.heap.size (A.opnd s b n u) 53 w' ∧ HasN (w.heap.size + 1) 23 50 w') _ from ⟨hHeld.1.row (by omega) _, hHeld.2.1.rowOther (by omega) _, ⟨(A.outc (W.shift 1 b n) s 0), A.size_outc _ _ _, Has.row hR _⟩⟩)
  clear hHeld
  refine hK.out _ _ hN (fun hHeld => ?_)
  clear hK K hN
  try simp only [Act.put, List.setIfInBounds_toArray, List.set_cons_zero, List.set_cons_succ]
  refine wpAnyH_done (by kernel_rfl) ?_ _
  have hR5 := Has.row hR
  clear hR
  go_wp2_with fail
  exact bodyPost_ret (results_has rfl (w.heap.size + 1) rfl (hR5 _) Try.underlying50 rfl (A.infoOut _ _ _)) rfl ⟨rfl, hHeld.1⟩
set_option maxHeartbeats 1000000 in
theorem shift_2 (s : A.Regs) (b n : Int) (u : Bool) (h0 : 0 ≤ b) (h1 : b < 4294967296) (h2 : 0 ≤ n) (h3 : n < 4294967296) (w : World) :
    Calls Try.prog 48 #[.agg (A.opnd s b n u)] w fun e w' => e = .returned (.agg (A.outc (W.shift 2 b n) s 0)) ∧ Kept w w' := by
  have hS0 : (fun w' => Kept w w' ∧ Has w.heap.size (A.opnd s b n u) 53 w' ∧ HasN (w.heap.size + 1) 23 50 w') ((w.alloc (.cells (A.opnd s b n u) 53)).alloc (.cells (A.outc 0 A.none' 0) 50)) := ⟨((Kept.refl w).alloc _ _).alloc _ _, (Has.new _ _ _).alloc _, ⟨_, rfl, Has.new1 _ _ _ _⟩⟩
  have HS0 := Lib.hid hS0
  clear hS0
  go_enter Try.func48, Try.ntmps48
  go_wp2_with fail
  refine wp_region_held_drew (S := fun w' => Kept w w' ∧ Has w.heap.size (A.opnd s b n u) 53 w' ∧ HasN (w.heap.size + 1) 23 50 w') (by kernel_rfl) ?_ (fun hHeld => ?_)
  · exact ⟨HS0.out.1.drew, HS0.out.2.1.drew, HS0.out.2.2⟩
  refine wpAnyH_take (i := 0) (oi := { dst := some 3, op := Op.load 53 (Operand.tmp 1), type := 53, pos := "alu.go:75", after := #[], guard := none }) (v := ?_) rfl (by kernel_rfl) (by kernel_rfl) (by kernel_rfl) (fun _ _ _ h => h) (Or.inl ⟨rfl, ?_⟩) hHeld ?_
  rotate_left
  · (intro wz hSw; refine exec_load_has 53 (Operand.tmp 1) ?_ _ ?_ hSw.2.1 Try.underlying53 rfl (A.infoOp _ _ _ _) <;> rfl)
  try simp only [Act.put, List.setIfInBounds_toArray, List.set_cons_zero, List.set_cons_succ]
  refine wpAnyH_take (i := 1) (oi := { dst := some 4, op := Op.fieldAddr 53 (Operand.tmp 1) 1, type := 0, pos := "alu.go:75", after := #[], guard := none }) (v := ?_) rfl (by kernel_rfl) (by kernel_rfl) (by kernel_rfl) (fun _ _ _ h => h) (Or.inl ⟨rfl, ?_⟩) hHeld ?_
  rotate_left
  · (intro wz hSw; (try dsimp only at hSw); have q1 := hSw.2.1.cell 21 _ (A.opnd_b _ _ _ _); have q2 := hSw.2.1.cell 22 _ (A.opnd_nn _ _ _ _); have q3 := hSw.2.1.cell 23 _ (A.opnd_u _ _ _ _); go_simp; try with_reducible rfl)
  try simp only [Act.put, List.setIfInBounds_toArray, List.set_cons_zero, List.set_cons_succ]
  refine wpAnyH_take (i := 2) (oi := { dst := some 5, op := Op.load 22 (Operand.tmp 4), type := 22, pos := "alu.go:75", after := #[{ on := 1, ground := Ground.data }], guard := none }) (v := ?_) rfl (by kernel_rfl) (by kernel_rfl) (by kernel_rfl) (fun _ _ _ h => h) (Or.inl ⟨rfl, ?_⟩) hHeld ?_
  rotate_left
  · (intro wz hSw; (try dsimp only at hSw); have q1 := hSw.2.1.cell 21 _ (A.opnd_b _ _ _ _); have q2 := hSw.2.1.cell 22 _ (A.opnd_nn _ _ _ _); have q3 := hSw.2.1.cell 23 _ (A.opnd_u _ _ _ _); go_simp; try with_reducible rfl)
  try simp only [Act.put, List.setIfInBounds_toArray, List.set_cons_zero, List.set_cons_succ]
  refine wpAnyH_take (i := 3) (oi := { dst := some 6, op := Op.fieldAddr 53 (Operand.tmp 1) 2, type := 0, pos := "alu.go:75", after := #[], guard := none }) (v := ?_) rfl (by kernel_rfl) (by kernel_rfl) (by kernel_rfl) (fun _ _ _ h => h) (Or.inl ⟨rfl, ?_⟩) hHeld ?_
  rotate_left
  · (intro wz hSw; (try dsimp only at hSw); have q1 := hSw.2.1.cell 21 _ (A.opnd_b _ _ _ _); have q2 := hSw.2.1.cell 22 _ (A.opnd_nn _ _ _ _); have q3 := hSw.2.1.cell 23 _ (A.opnd_u _ _ _ _); go_simp; try with_reducible rfl)
  try simp only [Act.put, List.setIfInBounds_toArray, List.set_cons_zero, List.set_cons_succ]
  refine wpAnyH_take (i := 4) (oi := { dst := some 7, op := Op.load 22 (Operand.tmp 6), type := 22, pos := "alu.go:75", after := #[{ on := 3, ground := Ground.data }], guard := none }) (v := ?_) rfl (by kernel_rfl) (by kernel_rfl) (by kernel_rfl) (fun _ _ _ h => h) (Or.inl ⟨rfl, ?_⟩) hHeld ?_
  rotate_left
  · (intro wz hSw; (try dsimp only at hSw); have q1 := hSw.2.1.cell 21 _ (A.opnd_b _ _ _ _); have q2 := hSw.2.1.cell 22 _ (A.opnd_nn _ _ _ _); have q3 := hSw.2.1.cell 23 _ (A.opnd_u _ _ _ _); go_simp; try with_reducible rfl)
  try simp only [Act.put, List.setIfInBounds_toArray, List.set_cons_zero, List.set_cons_succ]
  refine wpAnyH_ready (rs := [5]) (by kernel_rfl) (by simp) ?_
  refine AllReadyH.cons (o := { dst := some 8, op := Op.call { callee := Callee.value (Operand.func 47), args := #[Operand.const (Value.int IntKind.i64 2), Operand.tmp 5, Operand.tmp 7], argTypes := #[3, 22, 22] }, type := 22, pos := "alu.go:75", after := #[{ on := 2, ground := Ground.data }, { on := 4, ground := Ground.data }], guard := none }) rfl (fun K hK => ?_) (AllReadyH.nil)
  go_simp
  go_at_call 47
  refine (shift_any 2 b n h0 h1 h2 h3 _).mono ?_
  rintro e w5 ⟨rfl, rfl⟩
  have hN := (show (fun w' => Kept w w' ∧ Has w.heap.size (A.opnd s b n u) 53 w' ∧ HasN (w.heap.size + 1) 23 50 w') _ from hHeld)
  clear hHeld
  refine hK.out _ _ hN (fun hHeld => ?_)
  clear hK K hN
  try simp only [Act.put, List.setIfInBounds_toArray, List.set_cons_zero, List.set_cons_succ]
  refine wpAnyH_ready (rs := [6]) (by kernel_rfl) (by simp) ?_
  refine AllReadyH.cons (o := { dst := some 9, op := Op.call { callee := Callee.value (Operand.func 40), args := #[Operand.tmp 3, Operand.tmp 8], argTypes := #[53, 22] }, type := 50, pos := "alu.go:75", after := #[{ on := 0, ground := Ground.data }, { on := 5, ground := Ground.data }, { on := 5, ground := Ground.chain }], guard := none }) rfl (fun K hK => ?_) (AllReadyH.nil)
  go_simp
  go_at_call 40
  refine (just_any _ _ _ _ _ _).mono ?_
  rintro e w5 ⟨rfl, hK5⟩
  have hN := (show (fun w' => Kept w w' ∧ Has w.heap.size (A.opnd s b n u) 53 w' ∧ HasN (w.heap.size + 1) 23 50 w') _ from ⟨hHeld.1.trans hK5, hHeld.2.1.kept hK5, hHeld.2.2.kept hK5⟩)
  clear hHeld
  refine hK.out _ _ hN (fun hHeld => ?_)
  clear hK K hN
  try simp only [Act.put, List.setIfInBounds_toArray, List.set_cons_zero, List.set_cons_succ]
  refine wpAnyH_ready (rs := [7]) (by kernel_rfl) (by simp) ?_
  refine AllReadyH.cons (o := { dst := none, op := Op.store 50 (Operand.tmp 2) (Operand.tmp 9), type := 0, pos := "alu.go:75", after := #[{ on := 6, ground := Ground.data }, { on := 6, ground := Ground.chain }, { on := 0, ground := Ground.phase }, { on := 1, ground := Ground.phase }, { on := 2, ground := Ground.phase }, { on := 3, ground := Ground.phase }, { on := 4, ground := Ground.phase }, { on := 5, ground := Ground.phase }, { on := 6, ground := Ground.phase }], guard := none }) rfl (fun K hK => ?_) (AllReadyH.nil)
  obtain ⟨old, hold, hR⟩ := hHeld.2.2
  refine wp_store_row (o := { dst := none, op := Op.store 50 (Operand.tmp 2) (Operand.tmp 9), type := 0, pos := "alu.go:75", after := #[{ on := 6, ground := Ground.data }, { on := 6, ground := Ground.chain }, { on := 0, ground := Ground.phase }, { on := 1, ground := Ground.phase }, { on := 2, ground := Ground.phase }, { on := 3, ground := Ground.phase }, { on := 4, ground := Ground.phase }, { on := 5, ground := Ground.phase }, { on := 6, ground := Ground.phase }], guard := none }) 50 _ _ rfl _ (A.outc (W.shift 2 b n) s 0) ?_ ?_ 50 old hR (A.infoOut _ _ _) hold (A.one_outc _ _ _) ?_
  · rfl
  · rfl
  have hN := (show (fun w' => Kept w w' ∧ Has w.heap.size (A.opnd s b n u) 53 w' ∧ HasN (w.heap.size + 1) 23 50 w') _ from ⟨hHeld.1.row (by omega) _, hHeld.2.1.rowOther (by omega) _, ⟨(A.outc (W.shift 2 b n) s 0), A.size_outc _ _ _, Has.row hR _⟩⟩)
  clear hHeld
  refine hK.out _ _ hN (fun hHeld => ?_)
  clear hK K hN
  try simp only [Act.put, List.setIfInBounds_toArray, List.set_cons_zero, List.set_cons_succ]
  refine wpAnyH_done (by kernel_rfl) ?_ _
  have hR5 := Has.row hR
  clear hR
  go_wp2_with fail
  exact bodyPost_ret (results_has rfl (w.heap.size + 1) rfl (hR5 _) Try.underlying50 rfl (A.infoOut _ _ _)) rfl ⟨rfl, hHeld.1⟩
set_option maxHeartbeats 1000000 in
theorem shift_3 (s : A.Regs) (b n : Int) (u : Bool) (h0 : 0 ≤ b) (h1 : b < 4294967296) (h2 : 0 ≤ n) (h3 : n < 4294967296) (w : World) :
    Calls Try.prog 49 #[.agg (A.opnd s b n u)] w fun e w' => e = .returned (.agg (A.outc (W.shift 3 b n) s 0)) ∧ Kept w w' := by
  have hS0 : (fun w' => Kept w w' ∧ Has w.heap.size (A.opnd s b n u) 53 w' ∧ HasN (w.heap.size + 1) 23 50 w') ((w.alloc (.cells (A.opnd s b n u) 53)).alloc (.cells (A.outc 0 A.none' 0) 50)) := ⟨((Kept.refl w).alloc _ _).alloc _ _, (Has.new _ _ _).alloc _, ⟨_, rfl, Has.new1 _ _ _ _⟩⟩
  have HS0 := Lib.hid hS0
  clear hS0
  go_enter Try.func49, Try.ntmps49
  go_wp2_with fail
  refine wp_region_held_drew (S := fun w' => Kept w w' ∧ Has w.heap.size (A.opnd s b n u) 53 w' ∧ HasN (w.heap.size + 1) 23 50 w') (by kernel_rfl) ?_ (fun hHeld => ?_)
  · exact ⟨HS0.out.1.drew, HS0.out.2.1.drew, HS0.out.2.2⟩
  refine wpAnyH_take (i := 0) (oi := { dst := some 3, op := Op.load 53 (Operand.tmp 1), type := 53, pos := "alu.go:76", after := #[], guard := none }) (v := ?_) rfl (by kernel_rfl) (by kernel_rfl) (by kernel_rfl) (fun _ _ _ h => h) (Or.inl ⟨rfl, ?_⟩) hHeld ?_
  rotate_left
  · (intro wz hSw; refine exec_load_has 53 (Operand.tmp 1) ?_ _ ?_ hSw.2.1 Try.underlying53 rfl (A.infoOp _ _ _ _) <;> rfl)
  try simp only [Act.put, List.setIfInBounds_toArray, List.set_cons_zero, List.set_cons_succ]
  refine wpAnyH_take (i := 1) (oi := { dst := some 4, op := Op.fieldAddr 53 (Operand.tmp 1) 1, type := 0, pos := "alu.go:76", after := #[], guard := none }) (v := ?_) rfl (by kernel_rfl) (by kernel_rfl) (by kernel_rfl) (fun _ _ _ h => h) (Or.inl ⟨rfl, ?_⟩) hHeld ?_
  rotate_left
  · (intro wz hSw; (try dsimp only at hSw); have q1 := hSw.2.1.cell 21 _ (A.opnd_b _ _ _ _); have q2 := hSw.2.1.cell 22 _ (A.opnd_nn _ _ _ _); have q3 := hSw.2.1.cell 23 _ (A.opnd_u _ _ _ _); go_simp; try with_reducible rfl)
  try simp only [Act.put, List.setIfInBounds_toArray, List.set_cons_zero, List.set_cons_succ]
  refine wpAnyH_take (i := 2) (oi := { dst := some 5, op := Op.load 22 (Operand.tmp 4), type := 22, pos := "alu.go:76", after := #[{ on := 1, ground := Ground.data }], guard := none }) (v := ?_) rfl (by kernel_rfl) (by kernel_rfl) (by kernel_rfl) (fun _ _ _ h => h) (Or.inl ⟨rfl, ?_⟩) hHeld ?_
  rotate_left
  · (intro wz hSw; (try dsimp only at hSw); have q1 := hSw.2.1.cell 21 _ (A.opnd_b _ _ _ _); have q2 := hSw.2.1.cell 22 _ (A.opnd_nn _ _ _ _); have q3 := hSw.2.1.cell 23 _ (A.opnd_u _ _ _ _); go_simp; try with_reducible rfl)
  try simp only [Act.put, List.setIfInBounds_toArray, List.set_cons_zero, List.set_cons_succ]
  refine wpAnyH_take (i := 3) (oi := { dst := some 6, op := Op.fieldAddr 53 (Operand.tmp 1) 2, type := 0, pos := "alu.go:76", after := #[], guard := none }) (v := ?_) rfl (by kernel_rfl) (by kernel_rfl) (by kernel_rfl) (fun _ _ _ h => h) (Or.inl ⟨rfl, ?_⟩) hHeld ?_
  rotate_left
  · (intro wz hSw; (try dsimp only at hSw); have q1 := hSw.2.1.cell 21 _ (A.opnd_b _ _ _ _); have q2 := hSw.2.1.cell 22 _ (A.opnd_nn _ _ _ _); have q3 := hSw.2.1.cell 23 _ (A.opnd_u _ _ _ _); go_simp; try with_reducible rfl)
  try simp only [Act.put, List.setIfInBounds_toArray, List.set_cons_zero, List.set_cons_succ]
  refine wpAnyH_take (i := 4) (oi := { dst := some 7, op := Op.load 22 (Operand.tmp 6), type := 22, pos := "alu.go:76", after := #[{ on := 3, ground := Ground.data }], guard := none }) (v := ?_) rfl (by kernel_rfl) (by kernel_rfl) (by kernel_rfl) (fun _ _ _ h => h) (Or.inl ⟨rfl, ?_⟩) hHeld ?_
  rotate_left
  · (intro wz hSw; (try dsimp only at hSw); have q1 := hSw.2.1.cell 21 _ (A.opnd_b _ _ _ _); have q2 := hSw.2.1.cell 22 _ (A.opnd_nn _ _ _ _); have q3 := hSw.2.1.cell 23 _ (A.opnd_u _ _ _ _); go_simp; try with_reducible rfl)
  try simp only [Act.put, List.setIfInBounds_toArray, List.set_cons_zero, List.set_cons_succ]
  refine wpAnyH_ready (rs := [5]) (by kernel_rfl) (by simp) ?_
  refine AllReadyH.cons (o := { dst := some 8, op := Op.call { callee := Callee.value (Operand.func 47), args := #[Operand.const (Value.int IntKind.i64 3), Operand.tmp 5, Operand.tmp 7], argTypes := #[3, 22, 22] }, type := 22, pos := "alu.go:76", after := #[{ on := 2, ground := Ground.data }, { on := 4, ground := Ground.data }], guard := none }) rfl (fun K hK => ?_) (AllReadyH.nil)
  go_simp
  go_at_call 47
  refine (shift_any 3 b n h0 h1 h2 h3 _).mono ?_
  rintro e w5 ⟨rfl, rfl⟩
  have hN := (show (fun w' => Kept w w' ∧ Has w.heap.size (A.opnd s b n u) 53 w' ∧ HasN (w.heap.size + 1) 23 50 w') _ from hHeld)
  clear hHeld
  refine hK.out _ _ hN (fun hHeld => ?_)
  clear hK K hN
  try simp only [Act.put, List.setIfInBounds_toArray, List.set_cons_zero, List.set_cons_succ]
  refine wpAnyH_ready (rs := [6]) (by kernel_rfl) (by simp) ?_
  refine AllReadyH.cons (o := { dst := some 9, op := Op.call { callee := Callee.value (Operand.func 40), args := #[Operand.tmp 3, Operand.tmp 8], argTypes := #[53, 22] }, type := 50, pos := "alu.go:76", after := #[{ on := 0, ground := Ground.data }, { on := 5, ground := Ground.data }, { on := 5, ground := Ground.chain }], guard := none }) rfl (fun K hK => ?_) (AllReadyH.nil)
  go_simp
  go_at_call 40
  refine (just_any _ _ _ _ _ _).mono ?_
  rintro e w5 ⟨rfl, hK5⟩
  have hN := (show (fun w' => Kept w w' ∧ Has w.heap.size (A.opnd s b n u) 53 w' ∧ HasN (w.heap.size + 1) 23 50 w') _ from ⟨hHeld.1.trans hK5, hHeld.2.1.kept hK5, hHeld.2.2.kept hK5⟩)
  clear hHeld
  refine hK.out _ _ hN (fun hHeld => ?_)
  clear hK K hN
  try simp only [Act.put, List.setIfInBounds_toArray, List.set_cons_zero, List.set_cons_succ]
  refine wpAnyH_ready (rs := [7]) (by kernel_rfl) (by simp) ?_
  refine AllReadyH.cons (o := { dst := none, op := Op.store 50 (Operand.tmp 2) (Operand.tmp 9), type := 0, pos := "alu.go:76", after := #[{ on := 6, ground := Ground.data }, { on := 6, ground := Ground.chain }, { on := 0, ground := Ground.phase }, { on := 1, ground := Ground.phase }, { on := 2, ground := Ground.phase }, { on := 3, ground := Ground.phase }, { on := 4, ground := Ground.phase }, { on := 5, ground := Ground.phase }, { on := 6, ground := Ground.phase }], guard := none }) rfl (fun K hK => ?_) (AllReadyH.nil)
  obtain ⟨old, hold, hR⟩ := hHeld.2.2
  refine wp_store_row (o := { dst := none, op := Op.store 50 (Operand.tmp 2) (Operand.tmp 9), type := 0, pos := "alu.go:76", after := #[{ on := 6, ground := Ground.data }, { on := 6, ground := Ground.chain }, { on := 0, ground := Ground.phase }, { on := 1, ground := Ground.phase }, { on := 2, ground := Ground.phase }, { on := 3, ground := Ground.phase }, { on := 4, ground := Ground.phase }, { on := 5, ground := Ground.phase }, { on := 6, ground := Ground.phase }], guard := none }) 50 _ _ rfl _ (A.outc (W.shift 3 b n) s 0) ?_ ?_ 50 old hR (A.infoOut _ _ _) hold (A.one_outc _ _ _) ?_
  · rfl
  · rfl
  have hN := (show (fun w' => Kept w w' ∧ Has w.heap.size (A.opnd s b n u) 53 w' ∧ HasN (w.heap.size + 1) 23 50 w') _ from ⟨hHeld.1.row (by omega) _, hHeld.2.1.rowOther (by omega) _, ⟨(A.outc (W.shift 3 b n) s 0), A.size_outc _ _ _, Has.row hR _⟩⟩)
  clear hHeld
  refine hK.out _ _ hN (fun hHeld => ?_)
  clear hK K hN
  try simp only [Act.put, List.setIfInBounds_toArray, List.set_cons_zero, List.set_cons_succ]
  refine wpAnyH_done (by kernel_rfl) ?_ _
  have hR5 := Has.row hR
  clear hR
  go_wp2_with fail
  exact bodyPost_ret (results_has rfl (w.heap.size + 1) rfl (hR5 _) Try.underlying50 rfl (A.infoOut _ _ _)) rfl ⟨rfl, hHeld.1⟩
set_option maxHeartbeats 1000000 in
theorem add_work (s : A.Regs) (b n : Int) (u : Bool) (h0 : 0 ≤ b) (h1 : b < 4294967296) (h2 : 0 ≤ n) (h3 : n < 4294967296) (w : World) :
    Calls Try.prog 54 #[.agg (A.opnd s b n u)] w fun e w' => e = .returned (.agg (A.outc (W.low (b + n + W.one (u && s.c))) (A.setV (A.setC s (W.over (b + n + W.one (u && s.c)))) (!W.inS (W.sgn b + W.sgn n + W.one (u && s.c)))) 0)) ∧ Kept w w' := by
  have hS0 : (fun w' => Kept w w' ∧ Has w.heap.size (A.opnd s b n u) 53 w' ∧ HasN (w.heap.size + 1) 23 50 w') ((w.alloc (.cells (A.opnd s b n u) 53)).alloc (.cells (A.outc 0 A.none' 0) 50)) := ⟨((Kept.refl w).alloc _ _).alloc _ _, (Has.new _ _ _).alloc _, ⟨_, rfl, Has.new1 _ _ _ _⟩⟩
  have HS0 := Lib.hid hS0
  clear hS0
  go_enter Try.func54, Try.ntmps54
  go_wp2_with fail
  refine wp_region_held_drew (S := fun w' => Kept w w' ∧ Has w.heap.size (A.opnd s b n u) 53 w' ∧ HasN (w.heap.size + 1) 23 50 w') (by kernel_rfl) ?_ (fun hHeld => ?_)
  · exact ⟨HS0.out.1.drew, HS0.out.2.1.drew, HS0.out.2.2⟩
  refine wpAnyH_take (i := 0) (oi := { dst := some 3, op := Op.load 53 (Operand.tmp 1), type := 53, pos := "alu.go:81", after := #[], guard := none }) (v := ?_) rfl (by kernel_rfl) (by kernel_rfl) (by kernel_rfl) (fun _ _ _ h => h) (Or.inl ⟨rfl, ?_⟩) hHeld ?_
  rotate_left
  · (intro wz hSw; refine exec_load_has 53 (Operand.tmp 1) ?_ _ ?_ hSw.2.1 Try.underlying53 rfl (A.infoOp _ _ _ _) <;> rfl)
  try simp only [Act.put, List.setIfInBounds_toArray, List.set_cons_zero, List.set_cons_succ]
  refine wpAnyH_take (i := 1) (oi := { dst := some 4, op := Op.fieldAddr 53 (Operand.tmp 1) 1, type := 0, pos := "alu.go:81", after := #[], guard := none }) (v := ?_) rfl (by kernel_rfl) (by kernel_rfl) (by kernel_rfl) (fun _ _ _ h => h) (Or.inl ⟨rfl, ?_⟩) hHeld ?_
  rotate_left
  · (intro wz hSw; (try dsimp only at hSw); have q1 := hSw.2.1.cell 21 _ (A.opnd_b _ _ _ _); have q2 := hSw.2.1.cell 22 _ (A.opnd_nn _ _ _ _); have q3 := hSw.2.1.cell 23 _ (A.opnd_u _ _ _ _); go_simp; try with_reducible rfl)
  try simp only [Act.put, List.setIfInBounds_toArray, List.set_cons_zero, List.set_cons_succ]
  refine wpAnyH_take (i := 2) (oi := { dst := some 5, op := Op.load 22 (Operand.tmp 4), type := 22, pos := "alu.go:81", after := #[{ on := 1, ground := Ground.data }], guard := none }) (v := ?_) rfl (by kernel_rfl) (by kernel_rfl) (by kernel_rfl) (fun _ _ _ h => h) (Or.inl ⟨rfl, ?_⟩) hHeld ?_
  rotate_left
  · (intro wz hSw; (try dsimp only at hSw); have q1 := hSw.2.1.cell 21 _ (A.opnd_b _ _ _ _); have q2 := hSw.2.1.cell 22 _ (A.opnd_nn _ _ _ _); have q3 := hSw.2.1.cell 23 _ (A.opnd_u _ _ _ _); go_simp; try with_reducible rfl)
  try simp only [Act.put, List.setIfInBounds_toArray, List.set_cons_zero, List.set_cons_succ]
  refine wpAnyH_take (i := 3) (oi := { dst := some 6, op := Op.fieldAddr 53 (Operand.tmp 1) 2, type := 0, pos := "alu.go:81", after := #[], guard := none }) (v := ?_) rfl (by kernel_rfl) (by kernel_rfl) (by kernel_rfl) (fun _ _ _ h => h) (Or.inl ⟨rfl, ?_⟩) hHeld ?_
  rotate_left
  · (intro wz hSw; (try dsimp only at hSw); have q1 := hSw.2.1.cell 21 _ (A.opnd_b _ _ _ _); have q2 := hSw.2.1.cell 22 _ (A.opnd_nn _ _ _ _); have q3 := hSw.2.1.cell 23 _ (A.opnd_u _ _ _ _); go_simp; try with_reducible rfl)
  try simp only [Act.put, List.setIfInBounds_toArray, List.set_cons_zero, List.set_cons_succ]
  refine wpAnyH_take (i := 4) (oi := { dst := some 7, op := Op.load 22 (Operand.tmp 6), type := 22, pos := "alu.go:81", after := #[{ on := 3, ground := Ground.data }], guard := none }) (v := ?_) rfl (by kernel_rfl) (by kernel_rfl) (by kernel_rfl) (fun _ _ _ h => h) (Or.inl ⟨rfl, ?_⟩) hHeld ?_
  rotate_left
  · (intro wz hSw; (try dsimp only at hSw); have q1 := hSw.2.1.cell 21 _ (A.opnd_b _ _ _ _); have q2 := hSw.2.1.cell 22 _ (A.opnd_nn _ _ _ _); have q3 := hSw.2.1.cell 23 _ (A.opnd_u _ _ _ _); go_simp; try with_reducible rfl)
  try simp only [Act.put, List.setIfInBounds_toArray, List.set_cons_zero, List.set_cons_succ]
  refine wpAnyH_take (i := 5) (oi := { dst := some 8, op := Op.load 53 (Operand.tmp 1), type := 53, pos := "alu.go:81", after := #[], guard := none }) (v := ?_) rfl (by kernel_rfl) (by kernel_rfl) (by kernel_rfl) (fun _ _ _ h => h) (Or.inl ⟨rfl, ?_⟩) hHeld ?_
  rotate_left
  · (intro wz hSw; refine exec_load_has 53 (Operand.tmp 1) ?_ _ ?_ hSw.2.1 Try.underlying53 rfl (A.infoOp _ _ _ _) <;> rfl)
  try simp only [Act.put, List.setIfInBounds_toArray, List.set_cons_zero, List.set_cons_succ]
  refine wpAnyH_ready (rs := [6]) (by kernel_rfl) (by simp) ?_
  refine AllReadyH.cons (o := { dst := some 9, op := Op.call { callee := Callee.value (Operand.func 57), args := #[Operand.tmp 8], argTypes := #[53] }, type := 4, pos := "alu.go:81", after := #[{ on := 5, ground := Ground.data }], guard := none }) rfl (fun K hK => ?_) (AllReadyH.nil)
  go_simp
  go_at_call 57
  refine (carry_any _ _ _ _ _).mono ?_
  rintro e w5 ⟨rfl, hK5⟩
  have hN := (show (fun w' => Kept w w' ∧ Has w.heap.size (A.opnd s b n u) 53 w' ∧ HasN (w.heap.size + 1) 23 50 w') _ from ⟨hHeld.1.trans hK5, hHeld.2.1.kept hK5, hHeld.2.2.kept hK5⟩)
  clear hHeld
  refine hK.out _ _ hN (fun hHeld => ?_)
  clear hK K hN
  try simp only [Act.put, List.setIfInBounds_toArray, List.set_cons_zero, List.set_cons_succ]
  refine wpAnyH_ready (rs := [7]) (by kernel_rfl) (by simp) ?_
  refine AllReadyH.cons (o := { dst := some 10, op := Op.call { callee := Callee.value (Operand.func 56), args := #[Operand.tmp 5, Operand.tmp 7, Operand.tmp 9], argTypes := #[22, 22, 4] }, type := 57, pos := "alu.go:81", after := #[{ on := 2, ground := Ground.data }, { on := 4, ground := Ground.data }, { on := 6, ground := Ground.data }, { on := 6, ground := Ground.chain }], guard := none }) rfl (fun K hK => ?_) (AllReadyH.nil)
  go_simp
  go_at_call 56
  refine (add_any b n (u && s.c) h0 h1 h2 h3 _).mono ?_
  rintro e w5 ⟨rfl, rfl⟩
  have hN := (show (fun w' => Kept w w' ∧ Has w.heap.size (A.opnd s b n u) 53 w' ∧ HasN (w.heap.size + 1) 23 50 w') _ from hHeld)
  clear hHeld
  refine hK.out _ _ hN (fun hHeld => ?_)
  clear hK K hN
  try simp only [Act.put, List.setIfInBounds_toArray, List.set_cons_zero, List.set_cons_succ]
  refine wpAnyH_take (i := 8) (oi := { dst := some 11, op := Op.extract (Operand.tmp 10) 0, type := 22, pos := "alu.go:81", after := #[{ on := 7, ground := Ground.data }], guard := none }) (v := ?_) rfl (by kernel_rfl) (by kernel_rfl) (by kernel_rfl) (fun _ _ _ h => h) (Or.inl ⟨rfl, ?_⟩) hHeld ?_
  rotate_left
  · (intro wz hSw; (try dsimp only at hSw); have q1 := hSw.2.1.cell 21 _ (A.opnd_b _ _ _ _); have q2 := hSw.2.1.cell 22 _ (A.opnd_nn _ _ _ _); have q3 := hSw.2.1.cell 23 _ (A.opnd_u _ _ _ _); go_simp; try with_reducible rfl)
  try simp only [Act.put, List.setIfInBounds_toArray, List.set_cons_zero, List.set_cons_succ]
  refine wpAnyH_take (i := 9) (oi := { dst := some 12, op := Op.extract (Operand.tmp 10) 1, type := 4, pos := "alu.go:81", after := #[{ on := 7, ground := Ground.data }], guard := none }) (v := ?_) rfl (by kernel_rfl) (by kernel_rfl) (by kernel_rfl) (fun _ _ _ h => h) (Or.inl ⟨rfl, ?_⟩) hHeld ?_
  rotate_left
  · (intro wz hSw; (try dsimp only at hSw); have q1 := hSw.2.1.cell 21 _ (A.opnd_b _ _ _ _); have q2 := hSw.2.1.cell 22 _ (A.opnd_nn _ _ _ _); have q3 := hSw.2.1.cell 23 _ (A.opnd_u _ _ _ _); go_simp; try with_reducible rfl)
  try simp only [Act.put, List.setIfInBounds_toArray, List.set_cons_zero, List.set_cons_succ]
  refine wpAnyH_take (i := 10) (oi := { dst := some 13, op := Op.extract (Operand.tmp 10) 2, type := 4, pos := "alu.go:81", after := #[{ on := 7, ground := Ground.data }], guard := none }) (v := ?_) rfl (by kernel_rfl) (by kernel_rfl) (by kernel_rfl) (fun _ _ _ h => h) (Or.inl ⟨rfl, ?_⟩) hHeld ?_
  rotate_left
  · (intro wz hSw; (try dsimp only at hSw); have q1 := hSw.2.1.cell 21 _ (A.opnd_b _ _ _ _); have q2 := hSw.2.1.cell 22 _ (A.opnd_nn _ _ _ _); have q3 := hSw.2.1.cell 23 _ (A.opnd_u _ _ _ _); go_simp; try with_reducible rfl)
  try simp only [Act.put, List.setIfInBounds_toArray, List.set_cons_zero, List.set_cons_succ]
  refine wpAnyH_ready (rs := [11]) (by kernel_rfl) (by simp) ?_
  refine AllReadyH.cons (o := { dst := some 14, op := Op.call { callee := Callee.value (Operand.func 55), args := #[Operand.tmp 3, Operand.tmp 11, Operand.tmp 12, Operand.tmp 13], argTypes := #[53, 22, 4, 4] }, type := 50, pos := "alu.go:81", after := #[{ on := 0, ground := Ground.data }, { on := 8, ground := Ground.data }, { on := 9, ground := Ground.data }, { on := 10, ground := Ground.data }, { on := 7, ground := Ground.chain }], guard := none }) rfl (fun K hK => ?_) (AllReadyH.nil)
  go_simp
  go_at_call 55
  refine (withFlags_any _ _ _ _ _ _ _ _).mono ?_
  rintro e w5 ⟨rfl, hK5⟩
  have hN := (show (fun w' => Kept w w' ∧ Has w.heap.size (A.opnd s b n u) 53 w' ∧ HasN (w.heap.size + 1) 23 50 w') _ from ⟨hHeld.1.trans hK5, hHeld.2.1.kept hK5, hHeld.2.2.kept hK5⟩)
  clear hHeld
  refine hK.out _ _ hN (fun hHeld => ?_)
  clear hK K hN
  try simp only [Act.put, List.setIfInBounds_toArray, List.set_cons_zero, List.set_cons_succ]
  refine wpAnyH_ready (rs := [12]) (by kernel_rfl) (by simp) ?_
  refine AllReadyH.cons (o := { dst := none, op := Op.store 50 (Operand.tmp 2) (Operand.tmp 14), type := 0, pos := "alu.go:81", after := #[{ on := 11, ground := Ground.data }, { on := 11, ground := Ground.chain }, { on := 0, ground := Ground.phase }, { on := 1, ground := Ground.phase }, { on := 2, ground := Ground.phase }, { on := 3, ground := Ground.phase }, { on := 4, ground := Ground.phase }, { on := 5, ground := Ground.phase }, { on := 6, ground := Ground.phase }, { on := 7, ground := Ground.phase }, { on := 8, ground := Ground.phase }, { on := 9, ground := Ground.phase }, { on := 10, ground := Ground.phase }, { on := 11, ground := Ground.phase }], guard := none }) rfl (fun K hK => ?_) (AllReadyH.nil)
  obtain ⟨old, hold, hR⟩ := hHeld.2.2
  refine wp_store_row (o := { dst := none, op := Op.store 50 (Operand.tmp 2) (Operand.tmp 14), type := 0, pos := "alu.go:81", after := #[{ on := 11, ground := Ground.data }, { on := 11, ground := Ground.chain }, { on := 0, ground := Ground.phase }, { on := 1, ground := Ground.phase }, { on := 2, ground := Ground.phase }, { on := 3, ground := Ground.phase }, { on := 4, ground := Ground.phase }, { on := 5, ground := Ground.phase }, { on := 6, ground := Ground.phase }, { on := 7, ground := Ground.phase }, { on := 8, ground := Ground.phase }, { on := 9, ground := Ground.phase }, { on := 10, ground := Ground.phase }, { on := 11, ground := Ground.phase }], guard := none }) 50 _ _ rfl _ (A.outc (W.low (b + n + W.one (u && s.c))) (A.setV (A.setC s (W.over (b + n + W.one (u && s.c)))) (!W.inS (W.sgn b + W.sgn n + W.one (u && s.c)))) 0) ?_ ?_ 50 old hR (A.infoOut _ _ _) hold (A.one_outc _ _ _) ?_
  · rfl
  · rfl
  have hN := (show (fun w' => Kept w w' ∧ Has w.heap.size (A.opnd s b n u) 53 w' ∧ HasN (w.heap.size + 1) 23 50 w') _ from ⟨hHeld.1.row (by omega) _, hHeld.2.1.rowOther (by omega) _, ⟨(A.outc (W.low (b + n + W.one (u && s.c))) (A.setV (A.setC s (W.over (b + n + W.one (u && s.c)))) (!W.inS (W.sgn b + W.sgn n + W.one (u && s.c)))) 0), A.size_outc _ _ _, Has.row hR _⟩⟩)
  clear hHeld
  refine hK.out _ _ hN (fun hHeld => ?_)
  clear hK K hN
  try simp only [Act.put, List.setIfInBounds_toArray, List.set_cons_zero, List.set_cons_succ]
  refine wpAnyH_done (by kernel_rfl) ?_ _
  have hR5 := Has.row hR
  clear hR
  go_wp2_with fail
  exact bodyPost_ret (results_has rfl (w.heap.size + 1) rfl (hR5 _) Try.underlying50 rfl (A.infoOut _ _ _)) rfl ⟨rfl, hHeld.1⟩
set_option maxHeartbeats 1000000 in
theorem sub_work (s : A.Regs) (b n : Int) (u : Bool) (h0 : 0 ≤ b) (h1 : b < 4294967296) (h2 : 0 ≤ n) (h3 : n < 4294967296) (w : World) :
    Calls Try.prog 58 #[.agg (A.opnd s b n u)] w fun e w' => e = .returned (.agg (A.outc (W.low (b - n - W.one (u && s.c))) (A.setV (A.setC s (W.neg (b - n - W.one (u && s.c)))) (!W.inS (W.sgn b - W.sgn n - W.one (u && s.c)))) 0)) ∧ Kept w w' := by
  have hS0 : (fun w' => Kept w w' ∧ Has w.heap.size (A.opnd s b n u) 53 w' ∧ HasN (w.heap.size + 1) 23 50 w') ((w.alloc (.cells (A.opnd s b n u) 53)).alloc (.cells (A.outc 0 A.none' 0) 50)) := ⟨((Kept.refl w).alloc _ _).alloc _ _, (Has.new _ _ _).alloc _, ⟨_, rfl, Has.new1 _ _ _ _⟩⟩
  have HS0 := Lib.hid hS0
  clear hS0
  go_enter Try.func58, Try.ntmps58
  go_wp2_with fail
  refine wp_region_held_drew (S := fun w' => Kept w w' ∧ Has w.heap.size (A.opnd s b n u) 53 w' ∧ HasN (w.heap.size + 1) 23 50 w') (by kernel_rfl) ?_ (fun hHeld => ?_)
  · exact ⟨HS0.out.1.drew, HS0.out.2.1.drew, HS0.out.2.2⟩
  refine wpAnyH_take (i := 0) (oi := { dst := some 3, op := Op.load 53 (Operand.tmp 1), type := 53, pos := "alu.go:82", after := #[], guard := none }) (v := ?_) rfl (by kernel_rfl) (by kernel_rfl) (by kernel_rfl) (fun _ _ _ h => h) (Or.inl ⟨rfl, ?_⟩) hHeld ?_
  rotate_left
  · (intro wz hSw; refine exec_load_has 53 (Operand.tmp 1) ?_ _ ?_ hSw.2.1 Try.underlying53 rfl (A.infoOp _ _ _ _) <;> rfl)
  try simp only [Act.put, List.setIfInBounds_toArray, List.set_cons_zero, List.set_cons_succ]
  refine wpAnyH_take (i := 1) (oi := { dst := some 4, op := Op.fieldAddr 53 (Operand.tmp 1) 1, type := 0, pos := "alu.go:82", after := #[], guard := none }) (v := ?_) rfl (by kernel_rfl) (by kernel_rfl) (by kernel_rfl) (fun _ _ _ h => h) (Or.inl ⟨rfl, ?_⟩) hHeld ?_
  rotate_left
  · (intro wz hSw; (try dsimp only at hSw); have q1 := hSw.2.1.cell 21 _ (A.opnd_b _ _ _ _); have q2 := hSw.2.1.cell 22 _ (A.opnd_nn _ _ _ _); have q3 := hSw.2.1.cell 23 _ (A.opnd_u _ _ _ _); go_simp; try with_reducible rfl)
  try simp only [Act.put, List.setIfInBounds_toArray, List.set_cons_zero, List.set_cons_succ]
  refine wpAnyH_take (i := 2) (oi := { dst := some 5, op := Op.load 22 (Operand.tmp 4), type := 22, pos := "alu.go:82", after := #[{ on := 1, ground := Ground.data }], guard := none }) (v := ?_) rfl (by kernel_rfl) (by kernel_rfl) (by kernel_rfl) (fun _ _ _ h => h) (Or.inl ⟨rfl, ?_⟩) hHeld ?_
  rotate_left
  · (intro wz hSw; (try dsimp only at hSw); have q1 := hSw.2.1.cell 21 _ (A.opnd_b _ _ _ _); have q2 := hSw.2.1.cell 22 _ (A.opnd_nn _ _ _ _); have q3 := hSw.2.1.cell 23 _ (A.opnd_u _ _ _ _); go_simp; try with_reducible rfl)
  try simp only [Act.put, List.setIfInBounds_toArray, List.set_cons_zero, List.set_cons_succ]
  refine wpAnyH_take (i := 3) (oi := { dst := some 6, op := Op.fieldAddr 53 (Operand.tmp 1) 2, type := 0, pos := "alu.go:82", after := #[], guard := none }) (v := ?_) rfl (by kernel_rfl) (by kernel_rfl) (by kernel_rfl) (fun _ _ _ h => h) (Or.inl ⟨rfl, ?_⟩) hHeld ?_
  rotate_left
  · (intro wz hSw; (try dsimp only at hSw); have q1 := hSw.2.1.cell 21 _ (A.opnd_b _ _ _ _); have q2 := hSw.2.1.cell 22 _ (A.opnd_nn _ _ _ _); have q3 := hSw.2.1.cell 23 _ (A.opnd_u _ _ _ _); go_simp; try with_reducible rfl)
  try simp only [Act.put, List.setIfInBounds_toArray, List.set_cons_zero, List.set_cons_succ]
  refine wpAnyH_take (i := 4) (oi := { dst := some 7, op := Op.load 22 (Operand.tmp 6), type := 22, pos := "alu.go:82", after := #[{ on := 3, ground := Ground.data }], guard := none }) (v := ?_) rfl (by kernel_rfl) (by kernel_rfl) (by kernel_rfl) (fun _ _ _ h => h) (Or.inl ⟨rfl, ?_⟩) hHeld ?_
  rotate_left
  · (intro wz hSw; (try dsimp only at hSw); have q1 := hSw.2.1.cell 21 _ (A.opnd_b _ _ _ _); have q2 := hSw.2.1.cell 22 _ (A.opnd_nn _ _ _ _); have q3 := hSw.2.1.cell 23 _ (A.opnd_u _ _ _ _); go_simp; try with_reducible rfl)
  try simp only [Act.put, List.setIfInBounds_toArray, List.set_cons_zero, List.set_cons_succ]
  refine wpAnyH_take (i := 5) (oi := { dst := some 8, op := Op.load 53 (Operand.tmp 1), type := 53, pos := "alu.go:82", after := #[], guard := none }) (v := ?_) rfl (by kernel_rfl) (by kernel_rfl) (by kernel_rfl) (fun _ _ _ h => h) (Or.inl ⟨rfl, ?_⟩) hHeld ?_
  rotate_left
  · (intro wz hSw; refine exec_load_has 53 (Operand.tmp 1) ?_ _ ?_ hSw.2.1 Try.underlying53 rfl (A.infoOp _ _ _ _) <;> rfl)
  try simp only [Act.put, List.setIfInBounds_toArray, List.set_cons_zero, List.set_cons_succ]
  refine wpAnyH_ready (rs := [6]) (by kernel_rfl) (by simp) ?_
  refine AllReadyH.cons (o := { dst := some 9, op := Op.call { callee := Callee.value (Operand.func 57), args := #[Operand.tmp 8], argTypes := #[53] }, type := 4, pos := "alu.go:82", after := #[{ on := 5, ground := Ground.data }], guard := none }) rfl (fun K hK => ?_) (AllReadyH.nil)
  go_simp
  go_at_call 57
  refine (carry_any _ _ _ _ _).mono ?_
  rintro e w5 ⟨rfl, hK5⟩
  have hN := (show (fun w' => Kept w w' ∧ Has w.heap.size (A.opnd s b n u) 53 w' ∧ HasN (w.heap.size + 1) 23 50 w') _ from ⟨hHeld.1.trans hK5, hHeld.2.1.kept hK5, hHeld.2.2.kept hK5⟩)
  clear hHeld
  refine hK.out _ _ hN (fun hHeld => ?_)
  clear hK K hN
  try simp only [Act.put, List.setIfInBounds_toArray, List.set_cons_zero, List.set_cons_succ]
  refine wpAnyH_ready (rs := [7]) (by kernel_rfl) (by simp) ?_
  refine AllReadyH.cons (o := { dst := some 10, op := Op.call { callee := Callee.value (Operand.func 59), args := #[Operand.tmp 5, Operand.tmp 7, Operand.tmp 9], argTypes := #[22, 22, 4] }, type := 57, pos := "alu.go:82", after := #[{ on := 2, ground := Ground.data }, { on := 4, ground := Ground.data }, { on := 6, ground := Ground.data }, { on := 6, ground := Ground.chain }], guard := none }) rfl (fun K hK => ?_) (AllReadyH.nil)
  go_simp
  go_at_call 59
  refine (sub_any b n (u && s.c) h0 h1 h2 h3 _).mono ?_
  rintro e w5 ⟨rfl, rfl⟩
  have hN := (show (fun w' => Kept w w' ∧ Has w.heap.size (A.opnd s b n u) 53 w' ∧ HasN (w.heap.size + 1) 23 50 w') _ from hHeld)
  clear hHeld
  refine hK.out _ _ hN (fun hHeld => ?_)
  clear hK K hN
  try simp only [Act.put, List.setIfInBounds_toArray, List.set_cons_zero, List.set_cons_succ]
  refine wpAnyH_take (i := 8) (oi := { dst := some 11, op := Op.extract (Operand.tmp 10) 0, type := 22, pos := "alu.go:82", after := #[{ on := 7, ground := Ground.data }], guard := none }) (v := ?_) rfl (by kernel_rfl) (by kernel_rfl) (by kernel_rfl) (fun _ _ _ h => h) (Or.inl ⟨rfl, ?_⟩) hHeld ?_
  rotate_left
  · (intro wz hSw; (try dsimp only at hSw); have q1 := hSw.2.1.cell 21 _ (A.opnd_b _ _ _ _); have q2 := hSw.2.1.cell 22 _ (A.opnd_nn _ _ _ _); have q3 := hSw.2.1.cell 23 _ (A.opnd_u _ _ _ _); go_simp; try with_reducible rfl)
  try simp only [Act.put, List.setIfInBounds_toArray, List.set_cons_zero, List.set_cons_succ]
  refine wpAnyH_take (i := 9) (oi := { dst := some 12, op := Op.extract (Operand.tmp 10) 1, type := 4, pos := "alu.go:82", after := #[{ on := 7, ground := Ground.data }], guard := none }) (v := ?_) rfl (by kernel_rfl) (by kernel_rfl) (by kernel_rfl) (fun _ _ _ h => h) (Or.inl ⟨rfl, ?_⟩) hHeld ?_
  rotate_left
  · (intro wz hSw; (try dsimp only at hSw); have q1 := hSw.2.1.cell 21 _ (A.opnd_b _ _ _ _); have q2 := hSw.2.1.cell 22 _ (A.opnd_nn _ _ _ _); have q3 := hSw.2.1.cell 23 _ (A.opnd_u _ _ _ _); go_simp; try with_reducible rfl)
  try simp only [Act.put, List.setIfInBounds_toArray, List.set_cons_zero, List.set_cons_succ]
  refine wpAnyH_take (i := 10) (oi := { dst := some 13, op := Op.extract (Operand.tmp 10) 2, type := 4, pos := "alu.go:82", after := #[{ on := 7, ground := Ground.data }], guard := none }) (v := ?_) rfl (by kernel_rfl) (by kernel_rfl) (by kernel_rfl) (fun _ _ _ h => h) (Or.inl ⟨rfl, ?_⟩) hHeld ?_
  rotate_left
  · (intro wz hSw; (try dsimp only at hSw); have q1 := hSw.2.1.cell 21 _ (A.opnd_b _ _ _ _); have q2 := hSw.2.1.cell 22 _ (A.opnd_nn _ _ _ _); have q3 := hSw.2.1.cell 23 _ (A.opnd_u _ _ _ _); go_simp; try with_reducible rfl)
  try simp only [Act.put, List.setIfInBounds_toArray, List.set_cons_zero, List.set_cons_succ]
  refine wpAnyH_ready (rs := [11]) (by kernel_rfl) (by simp) ?_
  refine AllReadyH.cons (o := { dst := some 14, op := Op.call { callee := Callee.value (Operand.func 55), args := #[Operand.tmp 3, Operand.tmp 11, Operand.tmp 12, Operand.tmp 13], argTypes := #[53, 22, 4, 4] }, type := 50, pos := "alu.go:82", after := #[{ on := 0, ground := Ground.data }, { on := 8, ground := Ground.data }, { on := 9, ground := Ground.data }, { on := 10, ground := Ground.data }, { on := 7, ground := Ground.chain }], guard := none }) rfl (fun K hK => ?_) (AllReadyH.nil)
  go_simp
  go_at_call 55
  refine (withFlags_any _ _ _ _ _ _ _ _).mono ?_
  rintro e w5 ⟨rfl, hK5⟩
  have hN := (show (fun w' => Kept w w' ∧ Has w.heap.size (A.opnd s b n u) 53 w' ∧ HasN (w.heap.size + 1) 23 50 w') _ from ⟨hHeld.1.trans hK5, hHeld.2.1.kept hK5, hHeld.2.2.kept hK5⟩)
  clear hHeld
  refine hK.out _ _ hN (fun hHeld => ?_)
  clear hK K hN
  try simp only [Act.put, List.setIfInBounds_toArray, List.set_cons_zero, List.set_cons_succ]
  refine wpAnyH_ready (rs := [12]) (by kernel_rfl) (by simp) ?_
  refine AllReadyH.cons (o := { dst := none, op := Op.store 50 (Operand.tmp 2) (Operand.tmp 14), type := 0, pos := "alu.go:82", after := #[{ on := 11, ground := Ground.data }, { on := 11, ground := Ground.chain }, { on := 0, ground := Ground.phase }, { on := 1, ground := Ground.phase }, { on := 2, ground := Ground.phase }, { on := 3, ground := Ground.phase }, { on := 4, ground := Ground.phase }, { on := 5, ground := Ground.phase }, { on := 6, ground := Ground.phase }, { on := 7, ground := Ground.phase }, { on := 8, ground := Ground.phase }, { on := 9, ground := Ground.phase }, { on := 10, ground := Ground.phase }, { on := 11, ground := Ground.phase }], guard := none }) rfl (fun K hK => ?_) (AllReadyH.nil)
  obtain ⟨old, hold, hR⟩ := hHeld.2.2
  refine wp_store_row (o := { dst := none, op := Op.store 50 (Operand.tmp 2) (Operand.tmp 14), type := 0, pos := "alu.go:82", after := #[{ on := 11, ground := Ground.data }, { on := 11, ground := Ground.chain }, { on := 0, ground := Ground.phase }, { on := 1, ground := Ground.phase }, { on := 2, ground := Ground.phase }, { on := 3, ground := Ground.phase }, { on := 4, ground := Ground.phase }, { on := 5, ground := Ground.phase }, { on := 6, ground := Ground.phase }, { on := 7, ground := Ground.phase }, { on := 8, ground := Ground.phase }, { on := 9, ground := Ground.phase }, { on := 10, ground := Ground.phase }, { on := 11, ground := Ground.phase }], guard := none }) 50 _ _ rfl _ (A.outc (W.low (b - n - W.one (u && s.c))) (A.setV (A.setC s (W.neg (b - n - W.one (u && s.c)))) (!W.inS (W.sgn b - W.sgn n - W.one (u && s.c)))) 0) ?_ ?_ 50 old hR (A.infoOut _ _ _) hold (A.one_outc _ _ _) ?_
  · rfl
  · rfl
  have hN := (show (fun w' => Kept w w' ∧ Has w.heap.size (A.opnd s b n u) 53 w' ∧ HasN (w.heap.size + 1) 23 50 w') _ from ⟨hHeld.1.row (by omega) _, hHeld.2.1.rowOther (by omega) _, ⟨(A.outc (W.low (b - n - W.one (u && s.c))) (A.setV (A.setC s (W.neg (b - n - W.one (u && s.c)))) (!W.inS (W.sgn b - W.sgn n - W.one (u && s.c)))) 0), A.size_outc _ _ _, Has.row hR _⟩⟩)
  clear hHeld
  refine hK.out _ _ hN (fun hHeld => ?_)
  clear hK K hN
  try simp only [Act.put, List.setIfInBounds_toArray, List.set_cons_zero, List.set_cons_succ]
  refine wpAnyH_done (by kernel_rfl) ?_ _
  have hR5 := Has.row hR
  clear hR
  go_wp2_with fail
  exact bodyPost_ret (results_has rfl (w.heap.size + 1) rfl (hR5 _) Try.underlying50 rfl (A.infoOut _ _ _)) rfl ⟨rfl, hHeld.1⟩
set_option maxHeartbeats 1000000 in
theorem mul_work (s : A.Regs) (b n : Int) (u : Bool) (h0 : 0 ≤ b) (h1 : b < 4294967296) (h2 : 0 ≤ n) (h3 : n < 4294967296) (w : World) :
    Calls Try.prog 60 #[.agg (A.opnd s b n u)] w fun e w' => e = .returned (.agg (A.outc (W.low (W.prod u b n)) (A.setH s (W.low (W.prod u b n / 4294967296))) 0)) ∧ Kept w w' := by
  have hS0 : (fun w' => Kept w w' ∧ Has w.heap.size (A.opnd s b n u) 53 w' ∧ HasN (w.heap.size + 1) 23 50 w') ((w.alloc (.cells (A.opnd s b n u) 53)).alloc (.cells (A.outc 0 A.none' 0) 50)) := ⟨((Kept.refl w).alloc _ _).alloc _ _, (Has.new _ _ _).alloc _, ⟨_, rfl, Has.new1 _ _ _ _⟩⟩
  have HS0 := Lib.hid hS0
  clear hS0
  go_enter Try.func60, Try.ntmps60
  go_wp2_with fail
  refine wp_region_held_drew (S := fun w' => Kept w w' ∧ Has w.heap.size (A.opnd s b n u) 53 w' ∧ HasN (w.heap.size + 1) 23 50 w') (by kernel_rfl) ?_ (fun hHeld => ?_)
  · exact ⟨HS0.out.1.drew, HS0.out.2.1.drew, HS0.out.2.2⟩
  refine wpAnyH_take (i := 0) (oi := { dst := some 3, op := Op.load 53 (Operand.tmp 1), type := 53, pos := "alu.go:83", after := #[], guard := none }) (v := ?_) rfl (by kernel_rfl) (by kernel_rfl) (by kernel_rfl) (fun _ _ _ h => h) (Or.inl ⟨rfl, ?_⟩) hHeld ?_
  rotate_left
  · (intro wz hSw; refine exec_load_has 53 (Operand.tmp 1) ?_ _ ?_ hSw.2.1 Try.underlying53 rfl (A.infoOp _ _ _ _) <;> rfl)
  try simp only [Act.put, List.setIfInBounds_toArray, List.set_cons_zero, List.set_cons_succ]
  refine wpAnyH_take (i := 1) (oi := { dst := some 4, op := Op.fieldAddr 53 (Operand.tmp 1) 1, type := 0, pos := "alu.go:83", after := #[], guard := none }) (v := ?_) rfl (by kernel_rfl) (by kernel_rfl) (by kernel_rfl) (fun _ _ _ h => h) (Or.inl ⟨rfl, ?_⟩) hHeld ?_
  rotate_left
  · (intro wz hSw; (try dsimp only at hSw); have q1 := hSw.2.1.cell 21 _ (A.opnd_b _ _ _ _); have q2 := hSw.2.1.cell 22 _ (A.opnd_nn _ _ _ _); have q3 := hSw.2.1.cell 23 _ (A.opnd_u _ _ _ _); go_simp; try with_reducible rfl)
  try simp only [Act.put, List.setIfInBounds_toArray, List.set_cons_zero, List.set_cons_succ]
  refine wpAnyH_take (i := 2) (oi := { dst := some 5, op := Op.load 22 (Operand.tmp 4), type := 22, pos := "alu.go:83", after := #[{ on := 1, ground := Ground.data }], guard := none }) (v := ?_) rfl (by kernel_rfl) (by kernel_rfl) (by kernel_rfl) (fun _ _ _ h => h) (Or.inl ⟨rfl, ?_⟩) hHeld ?_
  rotate_left
  · (intro wz hSw; (try dsimp only at hSw); have q1 := hSw.2.1.cell 21 _ (A.opnd_b _ _ _ _); have q2 := hSw.2.1.cell 22 _ (A.opnd_nn _ _ _ _); have q3 := hSw.2.1.cell 23 _ (A.opnd_u _ _ _ _); go_simp; try with_reducible rfl)
  try simp only [Act.put, List.setIfInBounds_toArray, List.set_cons_zero, List.set_cons_succ]
  refine wpAnyH_take (i := 3) (oi := { dst := some 6, op := Op.fieldAddr 53 (Operand.tmp 1) 2, type := 0, pos := "alu.go:83", after := #[], guard := none }) (v := ?_) rfl (by kernel_rfl) (by kernel_rfl) (by kernel_rfl) (fun _ _ _ h => h) (Or.inl ⟨rfl, ?_⟩) hHeld ?_
  rotate_left
  · (intro wz hSw; (try dsimp only at hSw); have q1 := hSw.2.1.cell 21 _ (A.opnd_b _ _ _ _); have q2 := hSw.2.1.cell 22 _ (A.opnd_nn _ _ _ _); have q3 := hSw.2.1.cell 23 _ (A.opnd_u _ _ _ _); go_simp; try with_reducible rfl)
  try simp only [Act.put, List.setIfInBounds_toArray, List.set_cons_zero, List.set_cons_succ]
  refine wpAnyH_take (i := 4) (oi := { dst := some 7, op := Op.load 22 (Operand.tmp 6), type := 22, pos := "alu.go:83", after := #[{ on := 3, ground := Ground.data }], guard := none }) (v := ?_) rfl (by kernel_rfl) (by kernel_rfl) (by kernel_rfl) (fun _ _ _ h => h) (Or.inl ⟨rfl, ?_⟩) hHeld ?_
  rotate_left
  · (intro wz hSw; (try dsimp only at hSw); have q1 := hSw.2.1.cell 21 _ (A.opnd_b _ _ _ _); have q2 := hSw.2.1.cell 22 _ (A.opnd_nn _ _ _ _); have q3 := hSw.2.1.cell 23 _ (A.opnd_u _ _ _ _); go_simp; try with_reducible rfl)
  try simp only [Act.put, List.setIfInBounds_toArray, List.set_cons_zero, List.set_cons_succ]
  refine wpAnyH_take (i := 5) (oi := { dst := some 8, op := Op.fieldAddr 53 (Operand.tmp 1) 3, type := 0, pos := "alu.go:83", after := #[], guard := none }) (v := ?_) rfl (by kernel_rfl) (by kernel_rfl) (by kernel_rfl) (fun _ _ _ h => h) (Or.inl ⟨rfl, ?_⟩) hHeld ?_
  rotate_left
  · (intro wz hSw; (try dsimp only at hSw); have q1 := hSw.2.1.cell 21 _ (A.opnd_b _ _ _ _); have q2 := hSw.2.1.cell 22 _ (A.opnd_nn _ _ _ _); have q3 := hSw.2.1.cell 23 _ (A.opnd_u _ _ _ _); go_simp; try with_reducible rfl)
  try simp only [Act.put, List.setIfInBounds_toArray, List.set_cons_zero, List.set_cons_succ]
  refine wpAnyH_take (i := 6) (oi := { dst := some 9, op := Op.load 4 (Operand.tmp 8), type := 4, pos := "alu.go:83", after := #[{ on := 5, ground := Ground.data }], guard := none }) (v := ?_) rfl (by kernel_rfl) (by kernel_rfl) (by kernel_rfl) (fun _ _ _ h => h) (Or.inl ⟨rfl, ?_⟩) hHeld ?_
  rotate_left
  · (intro wz hSw; (try dsimp only at hSw); have q1 := hSw.2.1.cell 21 _ (A.opnd_b _ _ _ _); have q2 := hSw.2.1.cell 22 _ (A.opnd_nn _ _ _ _); have q3 := hSw.2.1.cell 23 _ (A.opnd_u _ _ _ _); go_simp; try with_reducible rfl)
  try simp only [Act.put, List.setIfInBounds_toArray, List.set_cons_zero, List.set_cons_succ]
  refine wpAnyH_ready (rs := [7]) (by kernel_rfl) (by simp) ?_
  refine AllReadyH.cons (o := { dst := some 10, op := Op.call { callee := Callee.value (Operand.func 62), args := #[Operand.tmp 5, Operand.tmp 7, Operand.tmp 9], argTypes := #[22, 22, 4] }, type := 59, pos := "alu.go:83", after := #[{ on := 2, ground := Ground.data }, { on := 4, ground := Ground.data }, { on := 6, ground := Ground.data }], guard := none }) rfl (fun K hK => ?_) (AllReadyH.nil)
  go_simp
  go_at_call 62
  refine (mul_any b n u h0 h1 h2 h3 _).mono ?_
  rintro e w5 ⟨rfl, rfl⟩
  have hN := (show (fun w' => Kept w w' ∧ Has w.heap.size (A.opnd s b n u) 53 w' ∧ HasN (w.heap.size + 1) 23 50 w') _ from hHeld)
  clear hHeld
  refine hK.out _ _ hN (fun hHeld => ?_)
  clear hK K hN
  try simp only [Act.put, List.setIfInBounds_toArray, List.set_cons_zero, List.set_cons_succ]
  refine wpAnyH_take (i := 8) (oi := { dst := some 11, op := Op.extract (Operand.tmp 10) 0, type := 22, pos := "alu.go:83", after := #[{ on := 7, ground := Ground.data }], guard := none }) (v := ?_) rfl (by kernel_rfl) (by kernel_rfl) (by kernel_rfl) (fun _ _ _ h => h) (Or.inl ⟨rfl, ?_⟩) hHeld ?_
  rotate_left
  · (intro wz hSw; (try dsimp only at hSw); have q1 := hSw.2.1.cell 21 _ (A.opnd_b _ _ _ _); have q2 := hSw.2.1.cell 22 _ (A.opnd_nn _ _ _ _); have q3 := hSw.2.1.cell 23 _ (A.opnd_u _ _ _ _); go_simp; try with_reducible rfl)
  try simp only [Act.put, List.setIfInBounds_toArray, List.set_cons_zero, List.set_cons_succ]
  refine wpAnyH_take (i := 9) (oi := { dst := some 12, op := Op.extract (Operand.tmp 10) 1, type := 22, pos := "alu.go:83", after := #[{ on := 7, ground := Ground.data }], guard := none }) (v := ?_) rfl (by kernel_rfl) (by kernel_rfl) (by kernel_rfl) (fun _ _ _ h => h) (Or.inl ⟨rfl, ?_⟩) hHeld ?_
  rotate_left
  · (intro wz hSw; (try dsimp only at hSw); have q1 := hSw.2.1.cell 21 _ (A.opnd_b _ _ _ _); have q2 := hSw.2.1.cell 22 _ (A.opnd_nn _ _ _ _); have q3 := hSw.2.1.cell 23 _ (A.opnd_u _ _ _ _); go_simp; try with_reducible rfl)
  try simp only [Act.put, List.setIfInBounds_toArray, List.set_cons_zero, List.set_cons_succ]
  refine wpAnyH_ready (rs := [10]) (by kernel_rfl) (by simp) ?_
  refine AllReadyH.cons (o := { dst := some 13, op := Op.call { callee := Callee.value (Operand.func 61), args := #[Operand.tmp 3, Operand.tmp 11, Operand.tmp 12], argTypes := #[53, 22, 22] }, type := 50, pos := "alu.go:83", after := #[{ on := 0, ground := Ground.data }, { on := 8, ground := Ground.data }, { on := 9, ground := Ground.data }, { on := 7, ground := Ground.chain }], guard := none }) rfl (fun K hK => ?_) (AllReadyH.nil)
  go_simp
  go_at_call 61
  refine (withHigh_any _ _ _ _ _ _ _).mono ?_
  rintro e w5 ⟨rfl, hK5⟩
  have hN := (show (fun w' => Kept w w' ∧ Has w.heap.size (A.opnd s b n u) 53 w' ∧ HasN (w.heap.size + 1) 23 50 w') _ from ⟨hHeld.1.trans hK5, hHeld.2.1.kept hK5, hHeld.2.2.kept hK5⟩)
  clear hHeld
  refine hK.out _ _ hN (fun hHeld => ?_)
  clear hK K hN
  try simp only [Act.put, List.setIfInBounds_toArray, List.set_cons_zero, List.set_cons_succ]
  refine wpAnyH_ready (rs := [11]) (by kernel_rfl) (by simp) ?_
  refine AllReadyH.cons (o := { dst := none, op := Op.store 50 (Operand.tmp 2) (Operand.tmp 13), type := 0, pos := "alu.go:83", after := #[{ on := 10, ground := Ground.data }, { on := 10, ground := Ground.chain }, { on := 0, ground := Ground.phase }, { on := 1, ground := Ground.phase }, { on := 2, ground := Ground.phase }, { on := 3, ground := Ground.phase }, { on := 4, ground := Ground.phase }, { on := 5, ground := Ground.phase }, { on := 6, ground := Ground.phase }, { on := 7, ground := Ground.phase }, { on := 8, ground := Ground.phase }, { on := 9, ground := Ground.phase }, { on := 10, ground := Ground.phase }], guard := none }) rfl (fun K hK => ?_) (AllReadyH.nil)
  obtain ⟨old, hold, hR⟩ := hHeld.2.2
  refine wp_store_row (o := { dst := none, op := Op.store 50 (Operand.tmp 2) (Operand.tmp 13), type := 0, pos := "alu.go:83", after := #[{ on := 10, ground := Ground.data }, { on := 10, ground := Ground.chain }, { on := 0, ground := Ground.phase }, { on := 1, ground := Ground.phase }, { on := 2, ground := Ground.phase }, { on := 3, ground := Ground.phase }, { on := 4, ground := Ground.phase }, { on := 5, ground := Ground.phase }, { on := 6, ground := Ground.phase }, { on := 7, ground := Ground.phase }, { on := 8, ground := Ground.phase }, { on := 9, ground := Ground.phase }, { on := 10, ground := Ground.phase }], guard := none }) 50 _ _ rfl _ (A.outc (W.low (W.prod u b n)) (A.setH s (W.low (W.prod u b n / 4294967296))) 0) ?_ ?_ 50 old hR (A.infoOut _ _ _) hold (A.one_outc _ _ _) ?_
  · rfl
  · rfl
  have hN := (show (fun w' => Kept w w' ∧ Has w.heap.size (A.opnd s b n u) 53 w' ∧ HasN (w.heap.size + 1) 23 50 w') _ from ⟨hHeld.1.row (by omega) _, hHeld.2.1.rowOther (by omega) _, ⟨(A.outc (W.low (W.prod u b n)) (A.setH s (W.low (W.prod u b n / 4294967296))) 0), A.size_outc _ _ _, Has.row hR _⟩⟩)
  clear hHeld
  refine hK.out _ _ hN (fun hHeld => ?_)
  clear hK K hN
  try simp only [Act.put, List.setIfInBounds_toArray, List.set_cons_zero, List.set_cons_succ]
  refine wpAnyH_done (by kernel_rfl) ?_ _
  have hR5 := Has.row hR
  clear hR
  go_wp2_with fail
  exact bodyPost_ret (results_has rfl (w.heap.size + 1) rfl (hR5 _) Try.underlying50 rfl (A.infoOut _ _ _)) rfl ⟨rfl, hHeld.1⟩
end Go.Proofs.Ytghjdpmijnlhjaa
