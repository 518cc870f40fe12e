/-
  The contracts of package machine: Start, Place, Words, Out, New.
-/
import Derived.Test.YtpfgmfiegnkocaaM14
namespace Go.Proofs.Ytpfgmfiegnkocaa
open Go.RowKit
set_option linter.unusedVariables false
set_option linter.unusedSimpArgs false
set_option maxRecDepth 100000
theorem But.drew2 {B : Nat} {a b : World} (h : But B a b) : But B a.drew b.drew := ⟨h.os, h.tape, h.output, h.size, h.block, h.froze⟩
theorem Mac.setPc {F : Nat → Prop} {B : Nat} {x : X.St} {w : World} (h : Mac F B x w) (pc : Int) (p0 : 0 ≤ pc) (p1 : pc < 4294967296) : Mac F B ⟨x.ws, x.s, pc, x.st, x.ins, x.outs⟩ (w.setCell ⟨B, 4120, none⟩ (.int .u32 pc)) ∧ But B w (w.setCell ⟨B, 4120, none⟩ (.int .u32 pc)) := by
  obtain ⟨ai, ni, ci, ao, no, co, h⟩ := h
  have hB : But B w (w.setCell ⟨B, 4120, none⟩ (.int .u32 pc)) := (But.refl B w).setCell _ _
  have h2 := h.mem.set1 23 (.int .u32 pc)
  rw [X.tl_pc] at h2
  exact ⟨⟨ai, ni, ci, ao, no, co, h.own hB _ _ _ _ h2 h.ok p0 p1⟩, hB⟩
theorem Mac.setRegs {F : Nat → Prop} {B : Nat} {x : X.St} {w : World} (h : Mac F B x w) (s : A.Regs) (ok : A.Ok s) : Mac F B ⟨x.ws, s, x.pc, x.st, x.ins, x.outs⟩ (w.setCells B 4099 (A.cells s).toList) ∧ But B w (w.setCells B 4099 (A.cells s).toList) := by
  obtain ⟨ai, ni, ci, ao, no, co, h⟩ := h
  have hB : But B w (w.setCells B 4099 (A.cells s).toList) := but_setCells _ _ _ _ (But.refl B w)
  have h1 := h.mem.setN (A.cells s).toList 2
  rw [X.tl_regs] at h1
  exact ⟨⟨ai, ni, ci, ao, no, co, h.own hB _ _ _ _ h1 ok h.pc0 h.pc1⟩, hB⟩
theorem start_any {F : Nat → Prop} {B : Nat} {x : X.St} {w : World} (h : Mac F B x w) (pc : Int) (s : A.Regs) (ok : A.Ok s) (p0 : 0 ≤ pc) (p1 : pc < 4294967296) :
    Calls Try.prog 24 #[.pointer (some ⟨B, 0, none⟩), .int .u32 pc, .agg (A.cells s)] w fun e w' => e = .returned (.tuple #[]) ∧ Mac F B ⟨x.ws, s, pc, 0, x.ins, x.outs⟩ w' ∧ But B w w' := by
  have hBg : B < w.heap.size := h.sub B h.inB
  go_enter Try.func24, Try.ntmps24
  go_upto_region 1 with (fail)
  generalize hw1 : w.alloc (Obj.cells _ _) = w1
  have hR : Has w.heap.size (A.cells s) 42 w1 := by rw [← hw1]; exact Has.new _ _ _
  have hK : Kept w w1 := by rw [← hw1]; exact (Kept.refl w).alloc _ _
  clear hw1
  have hgB : w.heap.size ≠ B := by omega
  generalize w.heap.size = g at *
  have hMd := Lib.hid (show Mac F B x w1.drew from h.kept hK.drew)
  have hM1 := Lib.hid (show Mac F B x w1 from h.kept hK)
  have hKd := Lib.hid (show Kept w w1.drew from hK.drew)
  have cq := hMd.out.pc
  have fq := hMd.out.free 4120
  clear h hK
  refine wp_region_held_drew (S := fun wz => Has g (A.cells s) 42 wz) (by kernel_rfl) ?_ (fun hHeld => ?_)
  · exact hR
  refine wpAnyH_take (i := 0) (oi := { dst := some 6, op := Op.move (Operand.tmp 0), type := 32, pos := "machine.go:46", after := #[], guard := none }) (v := ?_) rfl (by kernel_rfl) (by kernel_rfl) (by kernel_rfl) (fun _ _ _ h => h) (Or.inl ⟨rfl, ?_⟩) hHeld ?_
  rotate_left
  · (intro wz hSw; (try dsimp only at hSw); go_simp; try with_reducible rfl)
  try simp only [Act.put, List.setIfInBounds_toArray, List.set_cons_zero, List.set_cons_succ]
  refine wpAnyH_take (i := 1) (oi := { dst := some 7, op := Op.move (Operand.tmp 0), type := 32, pos := "machine.go:46", after := #[{ on := 7, ground := Ground.gcOnly Departure.lateStores }], guard := none }) (v := ?_) rfl (by kernel_rfl) (by kernel_rfl) (by kernel_rfl) (fun _ _ _ h => h) (Or.inl ⟨rfl, ?_⟩) hHeld ?_
  rotate_left
  · (intro wz hSw; (try dsimp only at hSw); go_simp; try with_reducible rfl)
  try simp only [Act.put, List.setIfInBounds_toArray, List.set_cons_zero, List.set_cons_succ]
  refine wpAnyH_take (i := 2) (oi := { dst := some 8, op := Op.move (Operand.tmp 0), type := 32, pos := "machine.go:46", after := #[{ on := 10, ground := Ground.gcOnly Departure.lateStores }], guard := none }) (v := ?_) rfl (by kernel_rfl) (by kernel_rfl) (by kernel_rfl) (fun _ _ _ h => h) (Or.inl ⟨rfl, ?_⟩) hHeld ?_
  rotate_left
  · (intro wz hSw; (try dsimp only at hSw); go_simp; try with_reducible rfl)
  try simp only [Act.put, List.setIfInBounds_toArray, List.set_cons_zero, List.set_cons_succ]
  refine wpAnyH_take (i := 3) (oi := { dst := some 9, op := Op.move (Operand.tmp 1), type := 39, pos := "machine.go:46", after := #[], guard := none }) (v := ?_) rfl (by kernel_rfl) (by kernel_rfl) (by kernel_rfl) (fun _ _ _ h => h) (Or.inl ⟨rfl, ?_⟩) hHeld ?_
  rotate_left
  · (intro wz hSw; (try dsimp only at hSw); go_simp; try with_reducible rfl)
  try simp only [Act.put, List.setIfInBounds_toArray, List.set_cons_zero, List.set_cons_succ]
  refine wpAnyH_take (i := 4) (oi := { dst := some 10, op := Op.load 42 (Operand.tmp 5), type := 42, pos := "machine.go:46", after := #[{ on := 7, ground := Ground.gcOnly Departure.lateStores }], guard := none }) (v := ?_) rfl (by kernel_rfl) (by kernel_rfl) (by kernel_rfl) (fun _ _ _ h => h) (Or.inl ⟨rfl, ?_⟩) hHeld ?_
  rotate_left
  · (intro wz hSw; refine exec_load_has 42 (Operand.tmp 5) ?_ _ ?_ hSw Try.underlying42 rfl (A.info25 _) <;> rfl)
  try simp only [Act.put, List.setIfInBounds_toArray, List.set_cons_zero, List.set_cons_succ]
  refine wpAnyH_take (i := 5) (oi := { dst := some 11, op := Op.nilCheck (Operand.tmp 6), type := 0, pos := "machine.go:46", after := #[{ on := 0, ground := Ground.data }, { on := 0, ground := Ground.phase }, { on := 1, ground := Ground.textOnly Departure.lateStores }, { on := 2, ground := Ground.textOnly Departure.lateStores }, { on := 3, ground := Ground.phase }, { on := 4, ground := Ground.textOnly Departure.lateStores }], guard := none }) (v := ?_) rfl (by kernel_rfl) (by kernel_rfl) (by kernel_rfl) (fun _ _ _ h => h) (Or.inl ⟨rfl, ?_⟩) hHeld ?_
  rotate_left
  · (intro wz hSw; (try dsimp only at hSw); go_simp; try with_reducible rfl)
  try simp only [Act.put, List.setIfInBounds_toArray, List.set_cons_zero, List.set_cons_succ]
  refine wpAnyH_take (i := 6) (oi := { dst := some 12, op := Op.fieldAddr 77 (Operand.tmp 11) 2, type := 0, pos := "machine.go:46", after := #[{ on := 5, ground := Ground.data }, { on := 0, ground := Ground.phase }, { on := 1, ground := Ground.textOnly Departure.lateStores }, { on := 2, ground := Ground.textOnly Departure.lateStores }, { on := 3, ground := Ground.phase }, { on := 4, ground := Ground.textOnly Departure.lateStores }], guard := none }) (v := ?_) rfl (by kernel_rfl) (by kernel_rfl) (by kernel_rfl) (fun _ _ _ h => h) (Or.inl ⟨rfl, ?_⟩) hHeld ?_
  rotate_left
  · (intro wz hSw; (try dsimp only at hSw); go_simp; try with_reducible rfl)
  try simp only [Act.put, List.setIfInBounds_toArray, List.set_cons_zero, List.set_cons_succ]
  refine wpAnyH_ready (rs := [7]) (by kernel_rfl) (by simp) ?_
  refine AllReadyH.cons (o := { dst := none, op := Op.store 39 (Operand.tmp 12) (Operand.tmp 9), type := 0, pos := "machine.go:46", after := #[{ on := 6, ground := Ground.data }, { on := 3, ground := Ground.data }, { on := 0, ground := Ground.phase }, { on := 1, ground := Ground.textOnly Departure.lateStores }, { on := 2, ground := Ground.textOnly Departure.lateStores }, { on := 3, ground := Ground.phase }, { on := 4, ground := Ground.textOnly Departure.lateStores }], guard := none }) rfl (fun K hK => ?_) (AllReadyH.nil)
  go_simp
  generalize hwa : World.drew (World.setCell _ _ _) = wa
  have hMa : Mac F B ⟨x.ws, x.s, pc, x.st, x.ins, x.outs⟩ wa ∧ But B w1.drew wa := by rw [← hwa]; exact ⟨(hM1.out.setPc pc p0 p1).1.kept (Kept.refl _).drew, (hM1.out.setPc pc p0 p1).2.drew2⟩
  clear hwa
  have hN := (show (fun wz => Has g (A.cells s) 42 wz) _ from hMa.2.has hgB hHeld)
  clear hHeld
  refine hK.out _ _ hN (fun hHeld => ?_)
  clear hK K hN
  try simp only [Act.put, List.setIfInBounds_toArray, List.set_cons_zero, List.set_cons_succ]
  refine wpAnyH_take (i := 8) (oi := { dst := some 13, op := Op.nilCheck (Operand.tmp 7), type := 0, pos := "machine.go:46", after := #[{ on := 1, ground := Ground.data }, { on := 0, ground := Ground.phase }, { on := 1, ground := Ground.phase }, { on := 2, ground := Ground.textOnly Departure.lateStores }, { on := 3, ground := Ground.phase }, { on := 4, ground := Ground.phase }, { on := 5, ground := Ground.phase }, { on := 6, ground := Ground.phase }, { on := 7, ground := Ground.phase }], guard := none }) (v := ?_) rfl (by kernel_rfl) (by kernel_rfl) (by kernel_rfl) (fun _ _ _ h => h) (Or.inl ⟨rfl, ?_⟩) hHeld ?_
  rotate_left
  · (intro wz hSw; (try dsimp only at hSw); go_simp; try with_reducible rfl)
  try simp only [Act.put, List.setIfInBounds_toArray, List.set_cons_zero, List.set_cons_succ]
  refine wpAnyH_take (i := 9) (oi := { dst := some 14, op := Op.fieldAddr 77 (Operand.tmp 13) 1, type := 0, pos := "machine.go:46", after := #[{ on := 8, ground := Ground.data }, { on := 0, ground := Ground.phase }, { on := 1, ground := Ground.phase }, { on := 2, ground := Ground.textOnly Departure.lateStores }, { on := 3, ground := Ground.phase }, { on := 4, ground := Ground.phase }, { on := 5, ground := Ground.phase }, { on := 6, ground := Ground.phase }, { on := 7, ground := Ground.phase }], guard := none }) (v := ?_) rfl (by kernel_rfl) (by kernel_rfl) (by kernel_rfl) (fun _ _ _ h => h) (Or.inl ⟨rfl, ?_⟩) hHeld ?_
  rotate_left
  · (intro wz hSw; (try dsimp only at hSw); go_simp; try with_reducible rfl)
  try simp only [Act.put, List.setIfInBounds_toArray, List.set_cons_zero, List.set_cons_succ]
  refine wpAnyH_ready (rs := [10]) (by kernel_rfl) (by simp) ?_
  refine AllReadyH.cons (o := { dst := none, op := Op.store 42 (Operand.tmp 14) (Operand.tmp 10), type := 0, pos := "machine.go:46", after := #[{ on := 9, ground := Ground.data }, { on := 4, ground := Ground.data }, { on := 7, ground := Ground.chain }, { on := 0, ground := Ground.phase }, { on := 1, ground := Ground.phase }, { on := 2, ground := Ground.textOnly Departure.lateStores }, { on := 3, ground := Ground.phase }, { on := 4, ground := Ground.phase }, { on := 5, ground := Ground.phase }, { on := 6, ground := Ground.phase }, { on := 7, ground := Ground.phase }], guard := none }) rfl (fun K hK => ?_) (AllReadyH.nil)
  have hthb := hMa.1.there
  refine wp_store_mid (op := { dst := none, op := Op.store 42 (Operand.tmp 14) (Operand.tmp 10), type := 0, pos := "machine.go:46", after := #[{ on := 9, ground := Ground.data }, { on := 4, ground := Ground.data }, { on := 7, ground := Ground.chain }, { on := 0, ground := Ground.phase }, { on := 1, ground := Ground.phase }, { on := 2, ground := Ground.textOnly Departure.lateStores }, { on := 3, ground := Ground.phase }, { on := 4, ground := Ground.phase }, { on := 5, ground := Ground.phase }, { on := 6, ground := Ground.phase }, { on := 7, ground := Ground.phase }], guard := none }) 42 _ _ rfl _ _ (A.cells s) rfl rfl hthb (A.info25 _) (A.one_cells _) ?_
  have hMb := hMa.1.setRegs s ok
  generalize World.setCells _ _ _ _ = wb at *
  have hN := (show (fun wz => Has g (A.cells s) 42 wz) _ from hMb.2.has hgB hHeld)
  clear hHeld
  refine hK.out _ _ hN (fun hHeld => ?_)
  clear hK K hN
  try simp only [Act.put, List.setIfInBounds_toArray, List.set_cons_zero, List.set_cons_succ]
  refine wpAnyH_take (i := 11) (oi := { dst := some 15, op := Op.nilCheck (Operand.tmp 8), type := 0, pos := "machine.go:46", after := #[{ on := 2, ground := Ground.data }, { on := 0, ground := Ground.phase }, { on := 1, ground := Ground.phase }, { on := 2, ground := Ground.phase }, { on := 3, ground := Ground.phase }, { on := 4, ground := Ground.phase }, { on := 5, ground := Ground.phase }, { on := 6, ground := Ground.phase }, { on := 7, ground := Ground.phase }, { on := 8, ground := Ground.phase }, { on := 9, ground := Ground.phase }, { on := 10, ground := Ground.phase }], guard := none }) (v := ?_) rfl (by kernel_rfl) (by kernel_rfl) (by kernel_rfl) (fun _ _ _ h => h) (Or.inl ⟨rfl, ?_⟩) hHeld ?_
  rotate_left
  · (intro wz hSw; (try dsimp only at hSw); go_simp; try with_reducible rfl)
  try simp only [Act.put, List.setIfInBounds_toArray, List.set_cons_zero, List.set_cons_succ]
  refine wpAnyH_take (i := 12) (oi := { dst := some 16, op := Op.fieldAddr 77 (Operand.tmp 15) 3, type := 0, pos := "machine.go:46", after := #[{ on := 11, ground := Ground.data }, { on := 0, ground := Ground.phase }, { on := 1, ground := Ground.phase }, { on := 2, ground := Ground.phase }, { on := 3, ground := Ground.phase }, { on := 4, ground := Ground.phase }, { on := 5, ground := Ground.phase }, { on := 6, ground := Ground.phase }, { on := 7, ground := Ground.phase }, { on := 8, ground := Ground.phase }, { on := 9, ground := Ground.phase }, { on := 10, ground := Ground.phase }], guard := none }) (v := ?_) rfl (by kernel_rfl) (by kernel_rfl) (by kernel_rfl) (fun _ _ _ h => h) (Or.inl ⟨rfl, ?_⟩) hHeld ?_
  rotate_left
  · (intro wz hSw; (try dsimp only at hSw); go_simp; try with_reducible rfl)
  try simp only [Act.put, List.setIfInBounds_toArray, List.set_cons_zero, List.set_cons_succ]
  refine wpAnyH_ready (rs := [13]) (by kernel_rfl) (by simp) ?_
  refine AllReadyH.cons (o := { dst := none, op := Op.store 3 (Operand.tmp 16) (Operand.const (Value.int IntKind.i64 0)), type := 0, pos := "machine.go:46", after := #[{ on := 12, ground := Ground.data }, { on := 10, ground := Ground.chain }, { on := 0, ground := Ground.phase }, { on := 1, ground := Ground.phase }, { on := 2, ground := Ground.phase }, { on := 3, ground := Ground.phase }, { on := 4, ground := Ground.phase }, { on := 5, ground := Ground.phase }, { on := 6, ground := Ground.phase }, { on := 7, ground := Ground.phase }, { on := 8, ground := Ground.phase }, { on := 9, ground := Ground.phase }, { on := 10, ground := Ground.phase }], guard := none }) rfl (fun K hK => ?_) (AllReadyH.nil)
  have q1 := hMb.1.st
  have q2 := hMb.1.free 4121
  go_simp
  have hMc := hMb.1.setSt 0
  have hN := (show (fun wz => Has g (A.cells s) 42 wz) _ from hMc.2.has hgB hHeld)
  clear hHeld
  refine hK.out _ _ hN (fun hHeld => ?_)
  clear hK K hN
  try simp only [Act.put, List.setIfInBounds_toArray, List.set_cons_zero, List.set_cons_succ]
  refine wpAnyH_done (by kernel_rfl) ?_ _
  have hB := (((hKd.out.but B).trans hMa.2).trans hMb.2).trans hMc.2
  replace hB := Lib.hid hB
  replace hMc := Lib.hid hMc.1
  clear hMa hMb hHeld
  generalize World.setCell wb _ _ = wc at *
  go_wp2
  go_end0
  exact ⟨rfl, hMc.out, hB.out⟩
end Go.Proofs.Ytpfgmfiegnkocaa
