import Derived.Below
import Derived.Carry
import Derived.ChangeSame
import Derived.OpenShut
import Derived.RowKit
import Derived.WideShapes
import Derived.Test.YtlmddkciamdldaaGreatPf
/-
  Two machines stand the same: alike.
-/
namespace Go.Proofs.YtlmddkciamdldaaGreat
open Go.RowKit
set_option linter.unusedVariables false
set_option linter.unusedSimpArgs false
set_option maxRecDepth 100000
set_option maxHeartbeats 8000000 in
theorem alike_any {F G : Nat → Prop} {B E : Nat} {x : X.St} {w : World} (h : Mac F B x w) (hr : RMac G E x w) (ho : x.outs.length ≤ 1000000000) :
    Calls Tryz.prog 12 #[.pointer (some ⟨B, 0, none⟩), .pointer (some ⟨E, 0, none⟩)] w fun e w' => e = .returned (.bool true) ∧ Turn T0 w w' := by
  obtain ⟨D, C, ai, ni, ci, ao, no, co, hr⟩ := hr
  have hS0 := Lib.hid (show Mac F B x w.drew ∧ RMacAt G E x D C ai ni ci ao no co w.drew ∧ Turn T0 w w.drew from ⟨h.kept (Kept.refl _).drew, hr.kept (Kept.refl _).drew, (Turn.refl T0 w).drew⟩)
  clear h hr
  go_enter Tryz.func12, Tryz.ntmps12
  go_upto_region 1 with (fail)
  refine wp_region_held_drew (S := fun wz => Mac F B x wz ∧ RMacAt G E x D C ai ni ci ao no co wz ∧ Turn T0 w wz) (by kernel_rfl) ?_ (fun hHeld => ?_)
  · exact hS0.out
  refine tk 0 ⟨some 5, .move (.tmp 0), 30, "law.go:55", #[], none⟩ (v := ?_) hHeld ?_ ?_
  rotate_left
  · (intro wz hSw; (try dsimp only at hSw); clear hSw; go_simp; try with_reducible rfl)
  try simp only [Act.put, q0, q1, q2]
  refine tk 2 ⟨some 7, .move (.tmp 1), 31, "law.go:55", #[], none⟩ (v := ?_) hHeld ?_ ?_
  rotate_left
  · (intro wz hSw; (try dsimp only at hSw); clear hSw; go_simp; try with_reducible rfl)
  try simp only [Act.put, q0, q1, q2]
  refine tk 3 ⟨some 8, .nilCheck (.tmp 7), 0, "law.go:55", #[eD 2], none⟩ (v := ?_) hHeld ?_ ?_
  rotate_left
  · (intro wz hSw; (try dsimp only at hSw); clear hSw; go_simp; try with_reducible rfl)
  try simp only [Act.put, q0, q1, q2]
  refine tk 4 ⟨some 9, .fieldAddr 54 (.tmp 8) 3, 0, "law.go:55", #[eD 3], none⟩ (v := ?_) hHeld ?_ ?_
  rotate_left
  · (intro wz hSw; (try dsimp only at hSw); clear hSw; go_simp; try with_reducible rfl)
  try simp only [Act.put, q0, q1, q2]
  refine tk 5 ⟨some 10, .load 3 (.tmp 9), 3, "law.go:55", #[eD 4], none⟩ (v := ?_) hHeld ?_ ?_
  rotate_left
  · (intro wz hSw; (try dsimp only at hSw); have p0 : World.cell? wz ⟨E, 0, none⟩ = some (.pointer (some ⟨D, 0, none⟩)) := hSw.2.1.box.cell 0 _ rfl; have p22 : World.cell? wz ⟨E, 22, none⟩ = some (.int .u32 x.pc) := hSw.2.1.box.cell 22 _ rfl; have p23 : World.cell? wz ⟨E, 23, none⟩ = some (.int .i64 x.st) := hSw.2.1.box.cell 23 _ rfl; have p25 : World.cell? wz ⟨E, 25, none⟩ = some (.slice ao no co) := hSw.2.1.box.cell 25 _ rfl; clear hSw; go_simp; try with_reducible rfl)
  try simp only [Act.put, q0, q1, q2]
  refine wpAnyH_ready (rs := [1]) (by kernel_rfl) (by simp) ?_
  refine AllReadyH.cons (o := ⟨some 6, .call { callee := .value (.func 14), args := #[.tmp 5], argTypes := #[30] }, 3, "law.go:55", #[eD 0], none⟩) rfl (fun K hK => ?_) (AllReadyH.nil)
  go_simp
  go_at_call 14
  refine (status_any hHeld.1).mono ?_
  rintro e wa ⟨rfl, rfl⟩
  have hN := (show (fun wz => Mac F B x wz ∧ RMacAt G E x D C ai ni ci ao no co wz ∧ Turn T0 w wz) _ from hHeld)
  clear hHeld
  refine hK.out _ _ hN (fun hHeld => ?_)
  clear hK K hN
  try simp only [Act.put, q0, q1, q2]
  refine tk 6 ⟨some 11, .binOp .eql 3 (.tmp 6) (.tmp 10) 3, 4, "law.go:55", #[eD 1, eD 5], none⟩ (v := ?_) hHeld ?_ ?_
  rotate_left
  · (intro wz hSw; (try dsimp only at hSw); clear hSw; go_simp; try with_reducible rfl)
  try simp only [Act.put, q0, q1, q2]
  refine tk 7 ⟨some 12, .move (.tmp 11), 4, "law.go:55", #[eD 6, eC 1], none⟩ (v := ?_) hHeld ?_ ?_
  rotate_left
  · (intro wz hSw; (try dsimp only at hSw); clear hSw; go_simp; try with_reducible rfl)
  try simp only [Act.put, q0, q1, q2]
  refine tk 8 ⟨some 13, .move (.tmp 0), 30, "law.go:55", #[eG 7], some (7, true)⟩ (v := ?_) hHeld ?_ ?_
  rotate_left
  · (intro wz hSw; (try dsimp only at hSw); clear hSw; go_simp; try with_reducible rfl)
  try simp only [Act.put, q0, q1, q2]
  refine tk 10 ⟨some 15, .move (.tmp 1), 31, "law.go:55", #[eG 7], some (7, true)⟩ (v := ?_) hHeld ?_ ?_
  rotate_left
  · (intro wz hSw; (try dsimp only at hSw); clear hSw; go_simp; try with_reducible rfl)
  try simp only [Act.put, q0, q1, q2]
  refine tk 11 ⟨some 16, .nilCheck (.tmp 15), 0, "law.go:55", #[eD 10, eG 7], some (7, true)⟩ (v := ?_) hHeld ?_ ?_
  rotate_left
  · (intro wz hSw; (try dsimp only at hSw); clear hSw; go_simp; try with_reducible rfl)
  try simp only [Act.put, q0, q1, q2]
  refine tk 12 ⟨some 17, .fieldAddr 54 (.tmp 16) 2, 0, "law.go:55", #[eD 11, eG 7], some (7, true)⟩ (v := ?_) hHeld ?_ ?_
  rotate_left
  · (intro wz hSw; (try dsimp only at hSw); clear hSw; go_simp; try with_reducible rfl)
  try simp only [Act.put, q0, q1, q2]
  refine tk 13 ⟨some 18, .load 23 (.tmp 17), 23, "law.go:55", #[eD 12, eG 7], some (7, true)⟩ (v := ?_) hHeld ?_ ?_
  rotate_left
  · (intro wz hSw; (try dsimp only at hSw); have p0 : World.cell? wz ⟨E, 0, none⟩ = some (.pointer (some ⟨D, 0, none⟩)) := hSw.2.1.box.cell 0 _ rfl; have p22 : World.cell? wz ⟨E, 22, none⟩ = some (.int .u32 x.pc) := hSw.2.1.box.cell 22 _ rfl; have p23 : World.cell? wz ⟨E, 23, none⟩ = some (.int .i64 x.st) := hSw.2.1.box.cell 23 _ rfl; have p25 : World.cell? wz ⟨E, 25, none⟩ = some (.slice ao no co) := hSw.2.1.box.cell 25 _ rfl; clear hSw; go_simp; try with_reducible rfl)
  try simp only [Act.put, q0, q1, q2]
  refine wpAnyH_ready (rs := [9]) (by kernel_rfl) (by simp) ?_
  refine AllReadyH.cons (o := ⟨some 14, .call { callee := .value (.func 15), args := #[.tmp 13], argTypes := #[30] }, 23, "law.go:55", #[eD 8, eC 7, eG 7], some (7, true)⟩) rfl (fun K hK => ?_) (AllReadyH.nil)
  go_simp
  go_at_call 15
  refine (pc_any hHeld.1).mono ?_
  rintro e wb ⟨rfl, rfl⟩
  have hN := (show (fun wz => Mac F B x wz ∧ RMacAt G E x D C ai ni ci ao no co wz ∧ Turn T0 w wz) _ from hHeld)
  clear hHeld
  refine hK.out _ _ hN (fun hHeld => ?_)
  clear hK K hN
  try simp only [Act.put, q0, q1, q2]
  refine tk 14 ⟨some 19, .binOp .eql 23 (.tmp 14) (.tmp 18) 23, 4, "law.go:55", #[eD 9, eD 13, eG 7], some (7, true)⟩ (v := ?_) hHeld ?_ ?_
  rotate_left
  · (intro wz hSw; (try dsimp only at hSw); clear hSw; go_simp; try with_reducible rfl)
  try simp only [Act.put, q0, q1, q2]
  refine tk 15 ⟨some 20, .pick (.tmp 12) (.tmp 19) (.const (.bool false)), 4, "law.go:55", #[eD 7, eD 14], none⟩ (v := ?_) hHeld ?_ ?_
  rotate_left
  · (intro wz hSw; (try dsimp only at hSw); clear hSw; go_simp; try with_reducible rfl)
  try simp only [Act.put, q0, q1, q2]
  refine tk 16 ⟨some 21, .move (.tmp 20), 4, "law.go:55", #[eD 15, eC 9], none⟩ (v := ?_) hHeld ?_ ?_
  rotate_left
  · (intro wz hSw; (try dsimp only at hSw); clear hSw; go_simp; try with_reducible rfl)
  try simp only [Act.put, q0, q1, q2]
  refine tk 17 ⟨some 22, .move (.tmp 0), 30, "law.go:55", #[eG 16], some (16, true)⟩ (v := ?_) hHeld ?_ ?_
  rotate_left
  · (intro wz hSw; (try dsimp only at hSw); clear hSw; go_simp; try with_reducible rfl)
  try simp only [Act.put, q0, q1, q2]
  refine tk 19 ⟨some 24, .move (.tmp 1), 31, "law.go:55", #[eG 16], some (16, true)⟩ (v := ?_) hHeld ?_ ?_
  rotate_left
  · (intro wz hSw; (try dsimp only at hSw); clear hSw; go_simp; try with_reducible rfl)
  try simp only [Act.put, q0, q1, q2]
  refine tk 20 ⟨some 25, .nilCheck (.tmp 24), 0, "law.go:55", #[eD 19, eG 16], some (16, true)⟩ (v := ?_) hHeld ?_ ?_
  rotate_left
  · (intro wz hSw; (try dsimp only at hSw); clear hSw; go_simp; try with_reducible rfl)
  try simp only [Act.put, q0, q1, q2]
  refine tk 21 ⟨some 26, .fieldAddr 54 (.tmp 25) 1, 0, "law.go:55", #[eD 20, eG 16], some (16, true)⟩ (v := ?_) hHeld ?_ ?_
  rotate_left
  · (intro wz hSw; (try dsimp only at hSw); clear hSw; go_simp; try with_reducible rfl)
  try simp only [Act.put, q0, q1, q2]
  refine tk 22 ⟨some 27, .load 26 (.tmp 26), 26, "law.go:55", #[eD 21, eG 16], some (16, true)⟩ (v := ?_) hHeld ?_ ?_
  rotate_left
  · (intro wz hSw; refine exec_load_mid 26 (Operand.tmp 26) ?_ E 1 ?_ (A.cells x.s) (X.rc_range hSw.2.1.box) Tryz.underlying26 rfl (A.info25 _) <;> rfl)
  try simp only [Act.put, q0, q1, q2]
  refine wpAnyH_ready (rs := [18]) (by kernel_rfl) (by simp) ?_
  refine AllReadyH.cons (o := ⟨some 23, .call { callee := .value (.func 16), args := #[.tmp 22], argTypes := #[30] }, 26, "law.go:55", #[eD 17, eC 16, eG 16], some (16, true)⟩) rfl (fun K hK => ?_) (AllReadyH.nil)
  go_simp
  go_at_call 16
  refine (regs_any hHeld.1).mono ?_
  rintro e wc ⟨rfl, hKc⟩
  have hN := (show (fun wz => Mac F B x wz ∧ RMacAt G E x D C ai ni ci ao no co wz ∧ Turn T0 w wz) _ from ⟨hHeld.1.turn (hKc.turn T0) (fun _ _ h => h), hHeld.2.1.turn (hKc.turn T0) (fun _ _ h => h), hHeld.2.2.trans (hKc.turn T0)⟩)
  clear hHeld
  refine hK.out _ _ hN (fun hHeld => ?_)
  clear hK K hN
  try simp only [Act.put, q0, q1, q2]
  refine tk 23 ⟨some 28, .binOp .eql 26 (.tmp 23) (.tmp 27) 26, 4, "law.go:55", #[eD 18, eD 22, eG 16], some (16, true)⟩ (v := ?_) hHeld ?_ ?_
  rotate_left
  · (intro wz hSw; refine exec_eq_regs (o := ⟨some 28, .binOp .eql 26 (.tmp 23) (.tmp 27) 26, 4, "law.go:55", #[eD 18, eD 22, eG 16], some (16, true)⟩) (Operand.tmp 23) (Operand.tmp 27) ?_ x.s ?_ ?_ <;> rfl)
  try simp only [Act.put, q0, q1, q2]
  refine tk 24 ⟨some 29, .pick (.tmp 21) (.tmp 28) (.const (.bool false)), 4, "law.go:55", #[eD 16, eD 23], none⟩ (v := ?_) hHeld ?_ ?_
  rotate_left
  · (intro wz hSw; (try dsimp only at hSw); clear hSw; go_simp; try with_reducible rfl)
  try simp only [Act.put, q0, q1, q2]
  refine tk 25 ⟨some 30, .move (.tmp 29), 4, "law.go:55", #[eD 24, eC 18], none⟩ (v := ?_) hHeld ?_ ?_
  rotate_left
  · (intro wz hSw; (try dsimp only at hSw); clear hSw; go_simp; try with_reducible rfl)
  try simp only [Act.put, q0, q1, q2]
  refine tk 26 ⟨some 31, .move (.tmp 0), 30, "law.go:55", #[eG 25], some (25, true)⟩ (v := ?_) hHeld ?_ ?_
  rotate_left
  · (intro wz hSw; (try dsimp only at hSw); clear hSw; go_simp; try with_reducible rfl)
  try simp only [Act.put, q0, q1, q2]
  refine tk 28 ⟨some 33, .move (.tmp 1), 31, "law.go:55", #[eG 25], some (25, true)⟩ (v := ?_) hHeld ?_ ?_
  rotate_left
  · (intro wz hSw; (try dsimp only at hSw); clear hSw; go_simp; try with_reducible rfl)
  try simp only [Act.put, q0, q1, q2]
  refine tk 29 ⟨some 34, .nilCheck (.tmp 33), 0, "law.go:55", #[eD 28, eG 25], some (25, true)⟩ (v := ?_) hHeld ?_ ?_
  rotate_left
  · (intro wz hSw; (try dsimp only at hSw); clear hSw; go_simp; try with_reducible rfl)
  try simp only [Act.put, q0, q1, q2]
  refine tk 30 ⟨some 35, .fieldAddr 54 (.tmp 34) 0, 0, "law.go:55", #[eD 29, eG 25], some (25, true)⟩ (v := ?_) hHeld ?_ ?_
  rotate_left
  · (intro wz hSw; (try dsimp only at hSw); clear hSw; go_simp; try with_reducible rfl)
  try simp only [Act.put, q0, q1, q2]
  refine tk 31 ⟨some 36, .load 52 (.tmp 35), 52, "law.go:55", #[eD 30, eG 25], some (25, true)⟩ (v := ?_) hHeld ?_ ?_
  rotate_left
  · (intro wz hSw; (try dsimp only at hSw); have p0 : World.cell? wz ⟨E, 0, none⟩ = some (.pointer (some ⟨D, 0, none⟩)) := hSw.2.1.box.cell 0 _ rfl; have p22 : World.cell? wz ⟨E, 22, none⟩ = some (.int .u32 x.pc) := hSw.2.1.box.cell 22 _ rfl; have p23 : World.cell? wz ⟨E, 23, none⟩ = some (.int .i64 x.st) := hSw.2.1.box.cell 23 _ rfl; have p25 : World.cell? wz ⟨E, 25, none⟩ = some (.slice ao no co) := hSw.2.1.box.cell 25 _ rfl; clear hSw; go_simp; try with_reducible rfl)
  try simp only [Act.put, q0, q1, q2]
  refine wpAnyH_ready (rs := [27]) (by kernel_rfl) (by simp) ?_
  refine AllReadyH.cons (o := ⟨some 32, .call { callee := .value (.func 19), args := #[.tmp 31], argTypes := #[30] }, 22, "law.go:55", #[eD 26, eC 25, eG 25], some (25, true)⟩) rfl (fun K hK => ?_) (AllReadyH.nil)
  go_simp
  go_at_call 19
  refine (words_any hHeld.1).mono ?_
  rintro e wd ⟨gx, rfl, px1, px2, px3⟩
  have hN := (show (fun wz => Mac F B x wz ∧ RMacAt G E x D C ai ni ci ao no co wz ∧ Turn T0 w wz) _ from ⟨hHeld.1.turn (px3.turn T0) (fun _ _ h => h), hHeld.2.1.turn (px3.turn T0) (fun _ _ h => h), hHeld.2.2.trans (px3.turn T0)⟩)
  clear hHeld
  refine hK.out _ _ hN (fun hHeld => ?_)
  clear hK K hN
  try simp only [Act.put, q0, q1, q2]
  refine wpAnyH_ready (rs := [32]) (by kernel_rfl) (by simp) ?_
  refine AllReadyH.cons (o := ⟨some 37, .call { callee := .value (.func 34), args := #[.tmp 36], argTypes := #[52] }, 22, "law.go:55", #[eD 31, eC 27, eG 25], some (25, true)⟩) rfl (fun K hK => ?_) (AllReadyH.nil)
  go_simp
  go_at_call 34
  refine (R.words_any hHeld.2.1.mem).mono ?_
  rintro e we ⟨gy, cy, rfl, py1, py2⟩
  have px4 := px2.turn0 (below_turn0 py2)
  have hN := (show (fun wz => Mac F B x wz ∧ RMacAt G E x D C ai ni ci ao no co wz ∧ Turn T0 w wz) _ from ⟨hHeld.1.turn (below_turn0 py2) (fun _ _ h => h), hHeld.2.1.turn (below_turn0 py2) (fun _ _ h => h), hHeld.2.2.trans (below_turn0 py2)⟩)
  clear hHeld
  refine hK.out _ _ hN (fun hHeld => ?_)
  clear hK K hN
  try simp only [Act.put, q0, q1, q2]
  refine wpAnyH_ready (rs := [33]) (by kernel_rfl) (by simp) ?_
  refine AllReadyH.cons (o := ⟨some 38, .call { callee := .value (.func 17), args := #[.tmp 32, .tmp 37], argTypes := #[22, 22] }, 4, "law.go:55", #[eD 27, eD 32, eC 32, eG 25], some (25, true)⟩) rfl (fun K hK => ?_) (AllReadyH.nil)
  have CS := same_any px4 py1
  rw [decide_eq_true (rfl : x.ws = x.ws)] at CS
  go_simp
  go_at_call 17
  refine (CS).mono ?_
  rintro e wf ⟨rfl, hKf⟩
  clear CS
  have hN := (show (fun wz => Mac F B x wz ∧ RMacAt G E x D C ai ni ci ao no co wz ∧ Turn T0 w wz) _ from ⟨hHeld.1.turn (hKf.turn T0) (fun _ _ h => h), hHeld.2.1.turn (hKf.turn T0) (fun _ _ h => h), hHeld.2.2.trans (hKf.turn T0)⟩)
  clear hHeld
  refine hK.out _ _ hN (fun hHeld => ?_)
  clear hK K hN
  try simp only [Act.put, q0, q1, q2]
  refine tk 34 ⟨some 39, .pick (.tmp 30) (.tmp 38) (.const (.bool false)), 4, "law.go:55", #[eD 25, eD 33], none⟩ (v := ?_) hHeld ?_ ?_
  rotate_left
  · (intro wz hSw; (try dsimp only at hSw); clear hSw; go_simp; try with_reducible rfl)
  try simp only [Act.put, q0, q1, q2]
  refine tk 35 ⟨some 40, .move (.tmp 39), 4, "law.go:55", #[eD 34, eC 33], none⟩ (v := ?_) hHeld ?_ ?_
  rotate_left
  · (intro wz hSw; (try dsimp only at hSw); clear hSw; go_simp; try with_reducible rfl)
  try simp only [Act.put, q0, q1, q2]
  refine tk 36 ⟨some 41, .move (.tmp 0), 30, "law.go:55", #[eG 35], some (35, true)⟩ (v := ?_) hHeld ?_ ?_
  rotate_left
  · (intro wz hSw; (try dsimp only at hSw); clear hSw; go_simp; try with_reducible rfl)
  try simp only [Act.put, q0, q1, q2]
  refine tk 38 ⟨some 43, .move (.tmp 1), 31, "law.go:55", #[eG 35], some (35, true)⟩ (v := ?_) hHeld ?_ ?_
  rotate_left
  · (intro wz hSw; (try dsimp only at hSw); clear hSw; go_simp; try with_reducible rfl)
  try simp only [Act.put, q0, q1, q2]
  refine tk 39 ⟨some 44, .nilCheck (.tmp 43), 0, "law.go:55", #[eD 38, eG 35], some (35, true)⟩ (v := ?_) hHeld ?_ ?_
  rotate_left
  · (intro wz hSw; (try dsimp only at hSw); clear hSw; go_simp; try with_reducible rfl)
  try simp only [Act.put, q0, q1, q2]
  refine tk 40 ⟨some 45, .fieldAddr 54 (.tmp 44) 5, 0, "law.go:55", #[eD 39, eG 35], some (35, true)⟩ (v := ?_) hHeld ?_ ?_
  rotate_left
  · (intro wz hSw; (try dsimp only at hSw); clear hSw; go_simp; try with_reducible rfl)
  try simp only [Act.put, q0, q1, q2]
  refine tk 41 ⟨some 46, .load 22 (.tmp 45), 22, "law.go:55", #[eD 40, eG 35], some (35, true)⟩ (v := ?_) hHeld ?_ ?_
  rotate_left
  · (intro wz hSw; (try dsimp only at hSw); have p0 : World.cell? wz ⟨E, 0, none⟩ = some (.pointer (some ⟨D, 0, none⟩)) := hSw.2.1.box.cell 0 _ rfl; have p22 : World.cell? wz ⟨E, 22, none⟩ = some (.int .u32 x.pc) := hSw.2.1.box.cell 22 _ rfl; have p23 : World.cell? wz ⟨E, 23, none⟩ = some (.int .i64 x.st) := hSw.2.1.box.cell 23 _ rfl; have p25 : World.cell? wz ⟨E, 25, none⟩ = some (.slice ao no co) := hSw.2.1.box.cell 25 _ rfl; clear hSw; go_simp; try with_reducible rfl)
  try simp only [Act.put, q0, q1, q2]
  refine wpAnyH_ready (rs := [37]) (by kernel_rfl) (by simp) ?_
  refine AllReadyH.cons (o := ⟨some 42, .call { callee := .value (.func 18), args := #[.tmp 41], argTypes := #[30] }, 22, "law.go:55", #[eD 36, eC 35, eG 35], some (35, true)⟩) rfl (fun K hK => ?_) (AllReadyH.nil)
  go_simp
  go_at_call 18
  refine (outs_any hHeld.1 ho).mono ?_
  rintro e wg ⟨az, cz, rfl, pz1, pz2, pz3⟩
  have hN := (show (fun wz => Mac F B x wz ∧ RMacAt G E x D C ai ni ci ao no co wz ∧ Turn T0 w wz) _ from ⟨hHeld.1.turn pz2 (fun _ _ h => h), hHeld.2.1.turn pz2 (fun _ _ h => h), hHeld.2.2.trans pz2⟩)
  clear hHeld
  refine hK.out _ _ hN (fun hHeld => ?_)
  clear hK K hN
  try simp only [Act.put, q0, q1, q2]
  refine wpAnyH_ready (rs := [42]) (by kernel_rfl) (by simp) ?_
  refine AllReadyH.cons (o := ⟨some 47, .call { callee := .value (.func 17), args := #[.tmp 42, .tmp 46], argTypes := #[22, 22] }, 4, "law.go:55", #[eD 37, eD 41, eC 37, eG 35], some (35, true)⟩) rfl (fun K hK => ?_) (AllReadyH.nil)
  have CS := same_any pz1 (hHeld.2.1.out.ws hHeld.2.1.rng)
  rw [decide_eq_true (rfl : x.outs = x.outs)] at CS
  go_simp
  go_at_call 17
  refine (CS).mono ?_
  rintro e wh ⟨rfl, hKh⟩
  clear CS
  have hN := (show (fun wz => Mac F B x wz ∧ RMacAt G E x D C ai ni ci ao no co wz ∧ Turn T0 w wz) _ from ⟨hHeld.1.turn (hKh.turn T0) (fun _ _ h => h), hHeld.2.1.turn (hKh.turn T0) (fun _ _ h => h), hHeld.2.2.trans (hKh.turn T0)⟩)
  clear hHeld
  refine hK.out _ _ hN (fun hHeld => ?_)
  clear hK K hN
  try simp only [Act.put, q0, q1, q2]
  refine tk 43 ⟨some 48, .pick (.tmp 40) (.tmp 47) (.const (.bool false)), 4, "law.go:55", #[eD 35, eD 42], none⟩ (v := ?_) hHeld ?_ ?_
  rotate_left
  · (intro wz hSw; (try dsimp only at hSw); clear hSw; go_simp; try with_reducible rfl)
  try simp only [Act.put, q0, q1, q2]
  refine tk 44 ⟨some 4, .assign (.tmp 48), 4, "law.go:55", #[eD 43, eC 42, eP 0, eP 1, eP 2, eP 3, eP 4, eP 5, eP 6, eP 7, eP 8, eP 9, eP 10, eP 11, eP 12, eP 13, eP 14, eP 15, eP 16, eP 17, eP 18, eP 19, eP 20, eP 21, eP 22, eP 23, eP 24, eP 25, eP 26, eP 27, eP 28, eP 29, eP 30, eP 31, eP 32, eP 33, eP 34, eP 35, eP 36, eP 37, eP 38, eP 39, eP 40, eP 41, eP 42, eP 43], none⟩ (v := ?_) hHeld ?_ ?_
  rotate_left
  · (intro wz hSw; (try dsimp only at hSw); clear hSw; go_simp; try with_reducible rfl)
  try simp only [Act.put, q0, q1, q2]
  refine wpAnyH_done (by kernel_rfl) ?_ _
  have hT := Lib.hid hHeld.2.2
  clear hHeld
  go_wp2
  go_ret
  exact ⟨rfl, hT.out⟩
end Go.Proofs.YtlmddkciamdldaaGreat

/-
  The law MachinePlays.
-/
namespace Go.Proofs.YtlmddkciamdldaaGreat
open Go.RowKit
set_option linter.unusedVariables false
set_option linter.unusedSimpArgs false
set_option maxRecDepth 100000
theorem X.Four.put2 {w0 : World} {F3 F4 F G : Nat → Prop} {w w' : World} (h : X.Four w0 T0 T0 F3 F4 w) (hT : Turn T0 w w') (hs : ∀ k, F k → k < w'.heap.size) (hF : ∀ k, F k → w.heap.size ≤ k) (hs2 : ∀ k, G k → k < w'.heap.size) (hG : ∀ k, G k → w.heap.size ≤ k) (hd : ∀ k, F k → ¬ G k) : X.Four w0 F G F3 F4 w' :=
  ⟨hd, fun k a b => by have := hF k a; have := h.s3 k b; omega, fun k a b => by have := hF k a; have := h.s4 k b; omega, fun k a b => by have := hG k a; have := h.s3 k b; omega, fun k a b => by have := hG k a; have := h.s4 k b; omega, h.d34,
    fun k a => Nat.le_trans h.b.size (hF k a), fun k a => Nat.le_trans h.b.size (hG k a), h.g3, h.g4, hs, hs2, fun k a => Nat.lt_of_lt_of_le (h.s3 k a) hT.size, fun k a => Nat.lt_of_lt_of_le (h.s4 k a) hT.size, h.b.trans (hT.below w0.heap.size h.b.size fun _ h => h.elim)⟩
theorem X.Four.keep {w0 : World} {F1 F2 F3 F4 : Nat → Prop} {w w' : World} (h : X.Four w0 F1 F2 F3 F4 w) (hs : w.heap.size ≤ w'.heap.size) (hb : Below w0.heap.size w0 w') : X.Four w0 F1 F2 F3 F4 w' :=
  ⟨h.d12, h.d13, h.d14, h.d23, h.d24, h.d34, h.g1, h.g2, h.g3, h.g4, fun k a => Nat.lt_of_lt_of_le (h.s1 k a) hs, fun k a => Nat.lt_of_lt_of_le (h.s2 k a) hs, fun k a => Nat.lt_of_lt_of_le (h.s3 k a) hs, fun k a => Nat.lt_of_lt_of_le (h.s4 k a) hs, hb⟩
/-- two machines and the document's two -/
def X.Quad (w0 : World) (B1 E1 B2 E2 : Nat) (x1 y1 x2 y2 : X.St) (w : World) : Prop := ∃ F1 G1 F2 G2, X.Four w0 F1 G1 F2 G2 w ∧ Mac F1 B1 x1 w ∧ RMac G1 E1 y1 w ∧ Mac F2 B2 x2 w ∧ RMac G2 E2 y2 w
theorem X.Quad.swap {w0 : World} {B1 E1 B2 E2 : Nat} {x1 y1 x2 y2 : X.St} {w : World} (h : X.Quad w0 B1 E1 B2 E2 x1 y1 x2 y2 w) : X.Quad w0 B2 E2 B1 E1 x2 y2 x1 y1 w := by
  obtain ⟨F1, G1, F2, G2, h, m1, r1, m2, r2⟩ := h; exact ⟨F2, G2, F1, G1, h.rot.rot, m2, r2, m1, r1⟩
theorem X.Quad.b {w0 : World} {B1 E1 B2 E2 : Nat} {x1 y1 x2 y2 : X.St} {w : World} (h : X.Quad w0 B1 E1 B2 E2 x1 y1 x2 y2 w) : Below w0.heap.size w0 w := by
  obtain ⟨F1, G1, F2, G2, h, _⟩ := h; exact h.b
theorem X.Quad.turn0 {w0 : World} {B1 E1 B2 E2 : Nat} {x1 y1 x2 y2 : X.St} {w w' : World} (h : X.Quad w0 B1 E1 B2 E2 x1 y1 x2 y2 w) (hT : Turn T0 w w') : X.Quad w0 B1 E1 B2 E2 x1 y1 x2 y2 w' := by
  obtain ⟨F1, G1, F2, G2, h, m1, r1, m2, r2⟩ := h
  exact ⟨F1, G1, F2, G2, h.turn0 hT, m1.turn hT (fun _ _ h => h), r1.turn hT (fun _ _ h => h), m2.turn hT (fun _ _ h => h), r2.turn hT (fun _ _ h => h)⟩
theorem X.Quad.step {w0 : World} {B1 E1 B2 E2 : Nat} {x1 y1 x2 y2 : X.St} {w : World} (h : X.Quad w0 B1 E1 B2 E2 x1 y1 x2 y2 w) (hn : x1.outs.length < 1000000) :
    Calls Tryz.prog 10 #[.pointer (some ⟨B1, 0, none⟩)] w fun e w' => e = .returned (.int .i64 (X.step x1).st) ∧ X.Quad w0 B1 E1 B2 E2 (X.step x1) y1 x2 y2 w' := by
  obtain ⟨F1, G1, F2, G2, h, m1, r1, m2, r2⟩ := h
  refine (step_any m1 hn).mono ?_
  rintro e w' ⟨he, F', p1, p2, p3⟩
  exact ⟨he, F', G1, F2, G2, h.step p2 p1.sub p3, p1, r1.turn p2 (fun k a b => h.d12 k b a), m2.turn p2 (fun k a b => h.d13 k b a), r2.turn p2 (fun k a b => h.d14 k b a)⟩
theorem X.Quad.rstep {w0 : World} {B1 E1 B2 E2 : Nat} {x1 y1 x2 y2 : X.St} {w : World} (h : X.Quad w0 B1 E1 B2 E2 x1 y1 x2 y2 w) (hn : y1.outs.length < 1000000) :
    Calls Tryz.prog 11 #[.pointer (some ⟨E1, 0, none⟩)] w fun e w' => e = .returned (.int .i64 (X.step y1).st) ∧ X.Quad w0 B1 E1 B2 E2 x1 (X.step y1) x2 y2 w' := by
  obtain ⟨F1, G1, F2, G2, h, m1, r1, m2, r2⟩ := h
  refine (rstep_any r1 hn).mono ?_
  rintro e w' ⟨he, F', p1, p2, p3⟩
  exact ⟨he, F1, F', F2, G2, (h.rot.step p2 p1.sub p3).rot.rot.rot, m1.turn p2 (fun k a b => h.d12 k a b), p1, m2.turn p2 (fun k a b => h.d23 k b a), r2.turn p2 (fun k a b => h.d24 k b a)⟩
theorem X.Quad.alike {w0 : World} {B1 E1 B2 E2 : Nat} {x1 x2 y2 : X.St} {w : World} (h : X.Quad w0 B1 E1 B2 E2 x1 x1 x2 y2 w) (ho : x1.outs.length ≤ 1000000000) :
    Calls Tryz.prog 12 #[.pointer (some ⟨B1, 0, none⟩), .pointer (some ⟨E1, 0, none⟩)] w fun e w' => e = .returned (.bool true) ∧ X.Quad w0 B1 E1 B2 E2 x1 x1 x2 y2 w' := by
  obtain ⟨F1, G1, F2, G2, hh, m1, r1, m2, r2⟩ := id h
  exact (alike_any m1 r1 ho).mono fun e w' hq => ⟨hq.1, h.turn0 hq.2⟩
set_option maxHeartbeats 8000000 in
theorem walk_Plays {w : World} {ap : Option Addr} {n c : Nat} {xs : List Int} (hl : Ws w ap n c xs) (s : A.Regs) (pc : Int) {ai : Option Addr} {ni ci : Nat} {is : List Int} (hi : Ws w ai ni ci is) (hs : A.Ok s) (p0 : 0 ≤ pc) (p1 : pc < 4294967296) :
    Calls Tryz.prog 3 #[.slice ap n c, .agg (X.setC s pc (.slice ai ni ci))] w fun e w' => e = .returned (.bool true) ∧ Below w.heap.size w w' := by
  obtain ⟨p, hp⟩ : ∃ p, pc % 80 = p := ⟨_, rfl⟩
  have q0 : 0 ≤ p := by omega
  have q1 : p < 4294967296 := by omega
  have hL := Lib.hid hl
  have hI := Lib.hid hi
  clear hl hi
  go_enter Tryz.func3, Tryz.ntmps3
  go_wp2_with (fail)
  refine (shown_any _).mono ?_; rintro e w1 ⟨rfl, hT1⟩
  have hA := (Kept.refl w).alloc (X.setC s pc (.slice ai ni ci)) 28
  have hTw1 : Turn T0 w w1 := (hA.turn T0).trans hT1
  have hS1 : Has w.heap.size (X.setC s pc (.slice ai ni ci)) 28 w1 := (Has.new _ _ w).turn0 hT1
  have hLb : ∀ ad, ap = some ad → 0 < n → ad.block < w.heap.size := fun ad e hn => by subst e; exact hL.out.lt hn
  have hIb : ∀ ad, ai = some ad → 0 < ni → ad.block < w.heap.size := fun ad e hn => by subst e; exact hI.out.lt hn
  have hgl : w.heap.size < w1.heap.size := hS1.lt
  have hS0 : Has w.heap.size (X.setC s pc (.slice ai ni ci)) 28 w1.drew ∧ Ws w1.drew ap n c xs ∧ Ws w1.drew ai ni ci is := ⟨hS1, (hL.out.turn0 hTw1).drew, (hI.out.turn0 hTw1).drew⟩
  have hTd : Turn T0 w w1.drew := hTw1.drew
  have hFr := Lib.hid (X.Four.start (w0 := w) (w := w1.drew) (hTd.below w.heap.size (Nat.le_refl _) fun _ h => h.elim))
  replace hS0 := Lib.hid hS0
  replace hTd := Lib.hid hTd
  replace hLb := Lib.hid hLb
  replace hIb := Lib.hid hIb
  replace hgl := Lib.hid hgl
  clear hA hT1 hTw1 hS1 hL hI
  go_upto_region 2 with (fail)
  generalize hg : w.heap.size = g at *
  refine wp_region_held_drew (S := fun wz => Has g (X.setC s pc (.slice ai ni ci)) 28 wz ∧ Ws wz ap n c xs ∧ Ws wz ai ni ci is) (by kernel_rfl) ?_ (fun hHeld => ?_)
  · exact hS0.out
  refine tk 0 ⟨some 13, .move (.tmp 0), 22, "law.go:74", #[], none⟩ (v := ?_) hHeld ?_ ?_
  rotate_left
  · (intro wz hSw; (try dsimp only at hSw); go_simp; try with_reducible rfl)
  try simp only [Act.put, q0, q1, q2]
  refine tk 2 ⟨some 15, .load 28 (.tmp 3), 28, "law.go:74", #[], none⟩ (v := ?_) hHeld ?_ ?_
  rotate_left
  · (intro wz hSw; refine exec_load_has 28 (Operand.tmp 3) ?_ _ ?_ hSw.1 Tryz.underlying28 rfl (by kernel_rfl) <;> rfl)
  try simp only [Act.put, q0, q1, q2]
  refine wpAnyH_ready (rs := [1]) (by kernel_rfl) (by simp) ?_
  refine AllReadyH.cons (o := ⟨some 14, .call { callee := .value (.func 8), args := #[.tmp 13], argTypes := #[22] }, 22, "law.go:74", #[eD 0], none⟩) rfl (fun K hK => ?_) (AllReadyH.nil)
  go_simp
  go_at_call 8
  refine (few6_any _ _ _ _ _ hHeld.2.1).mono ?_
  rintro e wd ⟨rfl, rfl⟩
  have hN := (show (fun wz => Has g (X.setC s pc (.slice ai ni ci)) 28 wz ∧ Ws wz ap n c xs ∧ Ws wz ai ni ci is) _ from hHeld)
  clear hHeld
  refine hK.out _ _ hN (fun hHeld => ?_)
  clear hK K hN
  try simp only [Act.put, q0, q1, q2]
  refine wpAnyH_ready (rs := [3]) (by kernel_rfl) (by simp) ?_
  refine AllReadyH.cons (o := ⟨some 16, .call { callee := .value (.func 7), args := #[.tmp 14, .tmp 15], argTypes := #[22, 28] }, 32, "law.go:74", #[eD 1, eD 2, eC 1], none⟩) rfl (fun K hK => ?_) (AllReadyH.nil)
  go_simp
  go_at_call 7
  refine (made_any (hHeld.2.1.take (min n 20) (Nat.min_le_left _ _)) (Nat.min_le_right _ _) s pc hHeld.2.2 hs p0 p1).mono ?_
  rintro e wea ⟨Ba, Ea, rfl, Fa, Ga, m1a, m2a⟩
  have hN := (show (fun wz => Has g (X.setC s pc (.slice ai ni ci)) 28 wz ∧ Ws wz ap n c xs ∧ Ws wz ai ni ci is) _ from ⟨hHeld.1.turn0 m2a, hHeld.2.1.turn0 m2a, hHeld.2.2.turn0 m2a⟩)
  clear hHeld
  refine hK.out _ _ hN (fun hHeld => ?_)
  clear hK K hN
  try simp only [Act.put, q0, q1, q2]
  refine tk 4 ⟨some 12, .move (.tmp 16), 32, "law.go:74", #[eD 3], none⟩ (v := ?_) hHeld ?_ ?_
  rotate_left
  · (intro wz hSw; (try dsimp only at hSw); go_simp; try with_reducible rfl)
  try simp only [Act.put, q0, q1, q2]
  refine tk 5 ⟨some 17, .extract (.tmp 12) 0, 30, "law.go:74", #[eD 4], none⟩ (v := ?_) hHeld ?_ ?_
  rotate_left
  · (intro wz hSw; (try dsimp only at hSw); go_simp; try with_reducible rfl)
  try simp only [Act.put, q0, q1, q2]
  refine tk 6 ⟨some 18, .extract (.tmp 12) 1, 31, "law.go:74", #[eD 4, eL 7], none⟩ (v := ?_) hHeld ?_ ?_
  rotate_left
  · (intro wz hSw; (try dsimp only at hSw); go_simp; try with_reducible rfl)
  try simp only [Act.put, q0, q1, q2]
  refine tk 7 ⟨some 6, .assign (.tmp 17), 30, "law.go:74", #[eD 5, eC 3, eP 0, eP 1, eP 2, eP 3, eP 4, eP 5, eT 6], none⟩ (v := ?_) hHeld ?_ ?_
  rotate_left
  · (intro wz hSw; (try dsimp only at hSw); go_simp; try with_reducible rfl)
  try simp only [Act.put, q0, q1, q2]
  refine tk 8 ⟨some 7, .assign (.tmp 18), 31, "law.go:74", #[eD 6, eC 7, eP 0, eP 1, eP 2, eP 3, eP 4, eP 5, eP 6, eP 7], none⟩ (v := ?_) hHeld ?_ ?_
  rotate_left
  · (intro wz hSw; (try dsimp only at hSw); go_simp; try with_reducible rfl)
  try simp only [Act.put, q0, q1, q2]
  refine wpAnyH_done (by kernel_rfl) ?_ _
  have hF1 := hFr.out.put2 m2a m1a.p.sub (fun k hk => m1a.fF k hk) m1a.r.sub (fun k hk => m1a.fG k hk) m1a.ap
  have hne : ∀ k, Fa k → ¬ k = g := fun k hk e => by have h1 := m1a.fF k hk; have h2 := hgl.out; have h3 : w1.heap.size ≤ k := h1; omega
  have hnr : ∀ k, Ga k → ¬ k = g := fun k hk e => by have h1 := m1a.fG k hk; have h2 := hgl.out; have h3 : w1.heap.size ≤ k := h1; omega
  have cp : wea.cell? ⟨g, 21, none⟩ = some (.int .u32 pc) := hHeld.1.cell 21 _ rfl
  have fp := hHeld.1.free 21
  have hB2 : But g wea (wea.setCell ⟨g, 21, none⟩ (.int .u32 p)) := (But.refl _ wea).setCell _ _
  have hTg := (hB2.turn (F := fun k => k = g) rfl).drew
  have hMa := Lib.hid (m1a.p.turn hTg hne)
  have hRa := Lib.hid (m1a.r.turn hTg hnr)
  have hFr := Lib.hid (hF1.keep (w' := (wea.setCell ⟨g, 21, none⟩ (.int .u32 p)).drew) hTg.size (by rw [hg]; have := hF1.b; rw [hg] at this; exact this.trans (hTg.below g (by have := this.size; omega) fun k hk => by omega)))
  have hS2 : Has g (X.setC s p (.slice ai ni ci)) 28 (wea.setCell ⟨g, 21, none⟩ (.int .u32 p)) := hHeld.1.set 21 _
  have hL2 := hHeld.2.1.but hB2 fun ad e hn => by have := hLb.out ad e hn; omega
  have hI2 := hHeld.2.2.but hB2 fun ad e hn => by have := hIb.out ad e hn; omega
  have hS0 : Has g (X.setC s p (.slice ai ni ci)) 28 (wea.setCell ⟨g, 21, none⟩ (.int .u32 p)).drew ∧ Ws (wea.setCell ⟨g, 21, none⟩ (.int .u32 p)).drew ap n c xs ∧ Ws (wea.setCell ⟨g, 21, none⟩ (.int .u32 p)).drew ai ni ci is := ⟨hS2, hL2.drew, hI2.drew⟩
  replace hS0 := Lib.hid hS0
  clear hHeld hF1 hne hnr hB2 hTg hS2 hL2 hI2 m1a m2a hTd hLb hIb hgl
  go_upto_region 4 with (fail)
  clear cp fp
  generalize wea.setCell _ _ = w2 at *
  refine wp_region_held_drew (S := fun wz => Has g (X.setC s p (.slice ai ni ci)) 28 wz ∧ Ws wz ap n c xs ∧ Ws wz ai ni ci is) (by kernel_rfl) ?_ (fun hHeld => ?_)
  · exact hS0.out
  refine tk 0 ⟨some 24, .move (.tmp 0), 22, "law.go:76", #[], none⟩ (v := ?_) hHeld ?_ ?_
  rotate_left
  · (intro wz hSw; (try dsimp only at hSw); go_simp; try with_reducible rfl)
  try simp only [Act.put, q0, q1, q2]
  refine tk 2 ⟨some 26, .load 28 (.tmp 3), 28, "law.go:76", #[], none⟩ (v := ?_) hHeld ?_ ?_
  rotate_left
  · (intro wz hSw; refine exec_load_has 28 (Operand.tmp 3) ?_ _ ?_ hSw.1 Tryz.underlying28 rfl (by kernel_rfl) <;> rfl)
  try simp only [Act.put, q0, q1, q2]
  refine wpAnyH_ready (rs := [1]) (by kernel_rfl) (by simp) ?_
  refine AllReadyH.cons (o := ⟨some 25, .call { callee := .value (.func 9), args := #[.tmp 24], argTypes := #[22] }, 22, "law.go:76", #[eD 0], none⟩) rfl (fun K hK => ?_) (AllReadyH.nil)
  go_simp
  go_at_call 9
  refine (fitw_any hHeld.2.1).mono ?_
  rintro e wdb ⟨gfb, cfb, rfl, p1b, p2b, p3b⟩
  have hN := (show (fun wz => Has g (X.setC s p (.slice ai ni ci)) 28 wz ∧ Ws wz ap n c xs ∧ Ws wz ai ni ci is) _ from ⟨hHeld.1.turn0 (below_turn0 p2b), hHeld.2.1.turn0 (below_turn0 p2b), hHeld.2.2.turn0 (below_turn0 p2b)⟩)
  clear hHeld
  refine hK.out _ _ hN (fun hHeld => ?_)
  clear hK K hN
  try simp only [Act.put, q0, q1, q2]
  refine wpAnyH_ready (rs := [3]) (by kernel_rfl) (by simp) ?_
  refine AllReadyH.cons (o := ⟨some 27, .call { callee := .value (.func 7), args := #[.tmp 25, .tmp 26], argTypes := #[22, 28] }, 32, "law.go:76", #[eD 1, eD 2, eC 1], none⟩) rfl (fun K hK => ?_) (AllReadyH.nil)
  go_simp
  go_at_call 7
  refine (made_any p1b (Nat.min_le_right _ _) s p hHeld.2.2 hs q0 q1).mono ?_
  rintro e web ⟨Bb, Eb, rfl, Fb, Gb, m1b, m2b⟩
  have mTb := (below_turn0 p2b).trans m2b
  have hN := (show (fun wz => Has g (X.setC s p (.slice ai ni ci)) 28 wz ∧ Ws wz ap n c xs ∧ Ws wz ai ni ci is) _ from ⟨hHeld.1.turn0 m2b, hHeld.2.1.turn0 m2b, hHeld.2.2.turn0 m2b⟩)
  clear hHeld
  refine hK.out _ _ hN (fun hHeld => ?_)
  clear hK K hN
  try simp only [Act.put, q0, q1, q2]
  refine tk 4 ⟨some 23, .move (.tmp 27), 32, "law.go:76", #[eD 3], none⟩ (v := ?_) hHeld ?_ ?_
  rotate_left
  · (intro wz hSw; (try dsimp only at hSw); go_simp; try with_reducible rfl)
  try simp only [Act.put, q0, q1, q2]
  refine tk 5 ⟨some 28, .extract (.tmp 23) 0, 30, "law.go:76", #[eD 4], none⟩ (v := ?_) hHeld ?_ ?_
  rotate_left
  · (intro wz hSw; (try dsimp only at hSw); go_simp; try with_reducible rfl)
  try simp only [Act.put, q0, q1, q2]
  refine tk 6 ⟨some 29, .extract (.tmp 23) 1, 31, "law.go:76", #[eD 4, eL 7], none⟩ (v := ?_) hHeld ?_ ?_
  rotate_left
  · (intro wz hSw; (try dsimp only at hSw); go_simp; try with_reducible rfl)
  try simp only [Act.put, q0, q1, q2]
  refine tk 7 ⟨some 8, .assign (.tmp 28), 30, "law.go:76", #[eD 5, eC 3, eP 0, eP 1, eP 2, eP 3, eP 4, eP 5, eT 6], none⟩ (v := ?_) hHeld ?_ ?_
  rotate_left
  · (intro wz hSw; (try dsimp only at hSw); go_simp; try with_reducible rfl)
  try simp only [Act.put, q0, q1, q2]
  refine tk 8 ⟨some 9, .assign (.tmp 29), 31, "law.go:76", #[eD 6, eC 7, eP 0, eP 1, eP 2, eP 3, eP 4, eP 5, eP 6, eP 7], none⟩ (v := ?_) hHeld ?_ ?_
  rotate_left
  · (intro wz hSw; (try dsimp only at hSw); go_simp; try with_reducible rfl)
  try simp only [Act.put, q0, q1, q2]
  refine wpAnyH_done (by kernel_rfl) ?_ _
  have hFr := Lib.hid (X.Four.put2 hFr.out.rot.rot mTb m1b.p.sub (fun k hk => Nat.le_trans p2b.size (m1b.fF k hk)) m1b.r.sub (fun k hk => Nat.le_trans p2b.size (m1b.fG k hk)) m1b.ap)
  have hQ : X.Quad w Ba Ea Bb Eb _ _ _ _ web := ⟨Fa, Ga, Fb, Gb, hFr.out.rot.rot, hMa.out.turn mTb (fun _ _ h => h), hRa.out.turn mTb (fun _ _ h => h), m1b.p, m1b.r⟩
  clear hHeld hS0 hFr hMa hRa m1b m2b mTb p1b p2b p3b
  generalize hxb : (⟨M.placed (List.replicate (min n 20 + 4) 0) 0 ((xs.map X.fit1).take 20), s, p, 0, is.take 20, []⟩ : X.St) = xb at *
  generalize hxa : (⟨M.placed (List.replicate (min n 20 + 4) 0) 0 (xs.take (min n 20)), s, pc, 0, is.take 20, []⟩ : X.St) = xa at *
  have hob : xb.outs.length = 0 := by rw [← hxb]; rfl
  have hoa : xa.outs.length = 0 := by rw [← hxa]; rfl
  clear hxa hxb
  replace hQ := Lib.hid hQ
  go_wp2
  go_loopw [10] (fun i wr => ∃ k : Nat, k ≤ 30 ∧ i = .int .i64 k ∧ X.Quad w Ba Ea Bb Eb (X.go k xa) (X.go k xa) (X.go k xb) (X.go k xb) wr) (fun i _ => 30 - (intOf i).toNat)
  case atStart => exact ⟨0, Nat.zero_le _, rfl, hQ.out⟩
  case round =>
    obtain ⟨k, hk, rfl, hQr⟩ := hrel
    replace hQr := Lib.hid hQr
    clear hQ
    by_cases d1 : k < 30
    · have d2 : (k : Int) < 30 := by omega
      have hla := X.go_outs k xa
      have hlb := X.go_outs k xb
      have hla' := X.go_outs (k + 1) xa
      have hlb' := X.go_outs (k + 1) xb
      have ga := X.go_succ k xa
      have gb := X.go_succ k xb
      rw [ga] at hla'
      rw [gb] at hlb'
      have hga := Lib.hid ga
      have hgb := Lib.hid gb
      clear ga gb
      generalize X.go k xa = x at *
      generalize X.go k xb = y at *
      have C1 := Lib.hid (hQr.out.step (by omega))
      clear hQr
      generalize hx' : X.step x = x' at *
      generalize hy' : X.step y = y' at *
      go_wp2_with (fail)
      refine C1.out.mono ?_; rintro e w3 ⟨rfl, hQ3⟩
      clear C1
      have C2 := hQ3.rstep (by omega)
      rw [hx'] at C2
      replace C2 := Lib.hid C2
      clear hQ3
      go_wp2_with (fail)
      refine C2.out.mono ?_; rintro e w4 ⟨rfl, hQ4⟩
      clear C2
      have C3 := Lib.hid (hQ4.alike (by omega))
      clear hQ4
      go_wp2_with (fail)
      refine C3.out.mono ?_; rintro e w5 ⟨rfl, hQ5⟩
      clear C3
      have C4 := hQ5.swap.step (by omega)
      rw [hy'] at C4
      replace C4 := Lib.hid C4
      clear hQ5
      go_wp2_with (fail)
      refine C4.out.mono ?_; rintro e w6 ⟨rfl, hQ6⟩
      clear C4
      have C5 := hQ6.rstep (by omega)
      rw [hy'] at C5
      replace C5 := Lib.hid C5
      clear hQ6
      go_wp2_with (fail)
      refine C5.out.mono ?_; rintro e w7 ⟨rfl, hQ7⟩
      clear C5
      have C6 := Lib.hid (hQ7.alike (by omega))
      clear hQ7
      go_wp2_with (fail)
      refine C6.out.mono ?_; rintro e w8 ⟨rfl, hQ8⟩
      clear C6
      have hQn : X.Quad w Ba Ea Bb Eb (X.go (k + 1) xa) (X.go (k + 1) xa) (X.go (k + 1) xb) (X.go (k + 1) xb) w8 := by rw [hga.out, hgb.out]; exact hQ8.swap
      replace hQn := Lib.hid hQn
      clear hQ8 hga hgb hx' hy'
      go_wp2
      go_roundw
      case rel => exact ⟨k + 1, by omega, by go_num, hQn.out⟩
      case measure => simp [intOf]; omega
    · have d2 : ¬ (k : Int) < 30 := by omega
      have hb := Lib.hid hQr.out.b
      clear hQr
      go_wp2
      go_ret
      exact ⟨rfl, hg ▸ hb.out⟩
end Go.Proofs.YtlmddkciamdldaaGreat

/-
  Data that came in, opened to any depth: numbers, bools, strings, structs, arrays, slices; what a reading of it says of the memory. No Go text is named here.
-/
namespace Go.Proofs.YtlmddkciamdldaaGreat
open Go.ChangeShapes Go.WideShapes Go.RowKit
set_option linter.unusedVariables false
set_option linter.unusedSimpArgs false
set_option maxRecDepth 100000
/-- the shape of a type -/
inductive Sh where
  | int (k : IntKind)
  | bool
  | str
  | nil
  | cons (f r : Sh)
  | rep (n : Nat) (e : Sh)
  | sl (e : Sh)
/-- how many cells -/
def Sh.size : Sh → Nat
  | .int _ | .bool | .str | .sl _ => 1
  | .nil => 0
  | .cons f r => f.size + r.size
  | .rep n e => n * e.size
/-- a struct's fields, one behind the other -/
def shFields (P : Program) (g : TypeId → Option Sh) : Nat → List Field → Option Sh
  | _, [] => some .nil
  | off, f :: fs =>
    match g f.type with
    | some s => if f.offset = off ∧ P.cellsOf f.type = s.size then (shFields P g (off + s.size) fs).map (Sh.cons s) else none
    | none => none
def shapeAt (P : Program) : Nat → TypeId → Option Sh
  | 0, _ => none
  | n + 1, t =>
    match P.underlying t with
    | some (.int k) => some (.int k)
    | some .bool => some .bool
    | some .string => some .str
    | some (.struct fs) => match shFields P (shapeAt P n) 0 fs.toList with
      | some s => if P.cellsOf t = s.size then some s else none
      | none => none
    | some (.array m e) => match shapeAt P n e with
      | some s => if P.cellsOf e = s.size ∧ P.cellsOf t = m * s.size then some (.rep m s) else none
      | none => none
    | some (.slice e) => match shapeAt P n e with
      | some s => if P.cellsOf e = s.size then some (.sl s) else none
      | none => none
    | _ => none
/-- what the cells hold, and what lies behind them -/
def Sees (w : World) : Sh → List Value → Prop
  | .int k, cs => ∃ a, cs = [.int k a] ∧ (Lit.int k a).wf = true
  | .bool, cs => ∃ b, cs = [.bool b]
  | .str, cs => ∃ s, cs = [.string s] ∧ s.size ≤ maxLen
  | .nil, cs => cs = []
  | .cons f r, cs => ∃ c d, cs = c ++ d ∧ c.length = f.size ∧ Sees w f c ∧ Sees w r d
  | .rep n e, cs => cs.length = n * e.size ∧ ∀ i, i < n → Sees w e ((cs.drop (i * e.size)).take e.size)
  | .sl e, cs => cs = [.slice none 0 0] ∨ ∃ (a : Addr) (len cap : Nat), cs = [.slice (some a) len cap] ∧ len ≤ cap ∧ cap ≤ maxLen ∧ ∀ i, i < len → ∃ es, w.cells? 0 (a.add (i * e.size)) e.size = some es ∧ Sees w e es
section
variable {H : Type} {enc : TypeId × Value → H} {P : Program} {w : World} {spare : Nat → Bool} {held : Bool}
theorem sees_fields {m : Nat} {g : TypeId → Option Sh} (ih : ∀ t s, g t = some s → ∀ cs (x : DataW H × List MemPlace), DataW.trod enc P w 0 spare held m t cs = some x → Sees w s cs) :
    ∀ (fs : List Field) (off : Nat) (s : Sh) (cs : List Value) (ys : List (DataW H × List MemPlace)), shFields P g off fs = some s → (cs.drop off).length = s.size →
      fs.mapM (fun f => DataW.trod enc P w 0 spare held m f.type ((cs.drop f.offset).take (P.cellsOf f.type))) = some ys → Sees w s (cs.drop off)
  | [], off, s, cs, ys, hk, hl, h => by
    simp [shFields] at hk
    subst hk
    exact List.length_eq_zero_iff.1 hl
  | f :: fs, off, s, cs, ys, hk, hl, h => by
    unfold shFields at hk
    split at hk
    · rename_i s0 hg
      split at hk
      · rename_i hc
        simp only [Option.map_eq_some_iff] at hk
        obtain ⟨r, hr, rfl⟩ := hk
        rw [List.mapM_cons] at h
        simp only [bind, Option.bind_eq_some_iff, pure, Option.some.injEq] at h
        obtain ⟨y, hy, ys', hys, rfl⟩ := h
        have h0 := ih _ _ hg _ _ hy
        rw [hc.1, hc.2] at h0
        have hl2 : (cs.drop off).length = s0.size + r.size := hl
        have hl' : (cs.drop (off + s0.size)).length = r.size := by
          rw [← List.drop_drop, List.length_drop, hl2]; omega
        refine ⟨(cs.drop off).take s0.size, (cs.drop off).drop s0.size, (List.take_append_drop _ _).symm, ?_, h0, ?_⟩
        · rw [List.length_take, hl2]; omega
        · rw [List.drop_drop]
          exact sees_fields ih fs (off + s0.size) r cs ys' hr hl' hys
      · cases hk
    · cases hk
/-- a reading says what is seen -/
theorem sees_of : ∀ (n : Nat) (t : TypeId) (s : Sh), shapeAt P n t = some s → ∀ (fuel : Nat) (cs : List Value) (x : DataW H × List MemPlace), DataW.trod enc P w 0 spare held fuel t cs = some x → Sees w s cs
  | 0, t, s, h, _, _, _, _ => by simp [shapeAt] at h
  | n + 1, t, s, h, fuel, cs, x, hx => by
    cases fuel with
    | zero => simp [DataW.trod] at hx
    | succ m =>
      unfold shapeAt at h
      split at h
      · rename_i k hu
        simp only [Option.some.injEq] at h; subst h
        obtain ⟨a, rfl, _, wa⟩ := DataW.trod_int hu hx
        exact ⟨a, rfl, wa⟩
      · rename_i hu
        simp only [Option.some.injEq] at h; subst h
        obtain ⟨b, rfl, _⟩ := DataW.trod_bool hu hx
        exact ⟨b, rfl⟩
      · rename_i hu
        simp only [Option.some.injEq] at h; subst h
        rw [DataW.trod_step] at hx
        unfold DataW.trodStep at hx
        rw [hu] at hx
        split at hx <;> simp_all
        exact ⟨_, rfl, hx.1⟩
      · rename_i fs hu
        split at h
        · rename_i s0 hk
          split at h
          · rename_i hc
            simp only [Option.some.injEq] at h; subst h
            rw [DataW.trod_step] at hx
            unfold DataW.trodStep at hx
            simp only [hu] at hx
            split at hx
            · rename_i hlen
              simp only [Option.map_eq_some_iff] at hx
              obtain ⟨ys, hys, rfl⟩ := hx
              have := sees_fields (fun t s hg cs x hx => sees_of n t s hg m cs x hx) fs.toList 0 s0 cs ys hk (by rw [List.drop_zero, hlen, hc]) hys
              rw [List.drop_zero] at this
              exact this
            · cases hx
          · cases h
        · cases h
      · rename_i q e hu
        split at h
        · rename_i s0 hk
          split at h
          · rename_i hc
            simp only [Option.some.injEq] at h; subst h
            rw [DataW.trod_step] at hx
            unfold DataW.trodStep at hx
            simp only [hu] at hx
            split at hx
            · rename_i hlen
              simp only [Option.map_eq_some_iff] at hx
              obtain ⟨ys, hys, rfl⟩ := hx
              rw [hc.1] at hys
              refine ⟨by rw [hlen, hc.2], fun i hi => ?_⟩
              have := mapM_some_get hys i i (by simp [hi])
              obtain ⟨y, hy⟩ : ∃ y, ys[i]? = some y := by
                have hl := mapM_some_length hys
                exact ⟨ys[i]'(by rw [hl]; simpa using hi), List.getElem?_eq_getElem _⟩
              rw [hy] at this
              exact sees_of n e s0 hk m _ _ this
            · cases hx
          · cases h
        · cases h
      · rename_i e hu
        split at h
        · rename_i s0 hk
          split at h
          · rename_i hc
            simp only [Option.some.injEq] at h; subst h
            rcases DataW.trod_slice hu hx with ⟨h0, _⟩ | ⟨a, len, cap, elems, rest, q, hq, hcs, _, _, hl, hm, hlen, hel, _⟩
            · exact Or.inl h0
            · refine Or.inr ⟨a, len, cap, hcs, hl, hm, fun i hi => ?_⟩
              have he := hel i hi
              obtain ⟨y, hy⟩ : ∃ y, elems[i]? = some y := ⟨elems[i]'(by omega), List.getElem?_eq_getElem _⟩
              rw [hy, Option.bind_eq_some_iff] at he
              obtain ⟨es, h1, h2⟩ := he
              rw [hc] at h1
              exact ⟨es, h1, sees_of n e s0 hk q es y h2⟩
          · cases h
        · cases h
      · cases h
theorem open_sees {n : Nat} {t : TypeId} {s : Sh} {v : Value} {d : DataW H} {p : List MemPlace} (hs : shapeAt P n t = some s) (h : DataW.Trod enc P w 0 spare held t v d p) : Sees w s v.cells.toList := by
  obtain ⟨fuel, hf⟩ := h
  exact sees_of n t s hs fuel _ _ hf
/-- a slice by its cells -/
theorem open_sl {r : Reach} {b0 n : Nat} {t e : TypeId} {s : Sh} {v : Value} {d : DataW H} {p : List MemPlace} (hu : P.underlying t = some (.slice e)) (hs : shapeAt P n t = some s) (hv : Value.okWide P w r b0 t v) (h : DataW.Trod enc P w 0 spare held t v d p) :
    ∃ A m c, v = .slice A m c ∧ Sees w s [.slice A m c] := by
  obtain ⟨A, m, c, rfl⟩ := okWide_slice hu hv
  exact ⟨A, m, c, rfl, by have := open_sees hs h; simpa [Value.cells] using this⟩
end
section
variable {w : World}
theorem cells_one {a : Addr} {es : List Value} (h : w.cells? 0 a 1 = some es) : ∃ v, es = [v] ∧ w.cell? a = some v := by
  unfold World.cells? at h
  rw [if_pos (Nat.zero_le _)] at h
  rw [show List.range 1 = [0] from rfl] at h
  simp only [List.mapM_cons, List.mapM_nil, bind, Option.bind_eq_some_iff, pure, Option.some.injEq] at h
  obtain ⟨v, hv, ys, rfl, rfl⟩ := h
  exact ⟨v, rfl, by simpa [Addr.add] using hv⟩
/-- the cells of a slice of numbers -/
def Ints (w : World) (k : IntKind) (A : Option Addr) (n : Nat) (xs : List Int) : Prop :=
  xs.length = n ∧ (∀ x ∈ xs, (Lit.int k x).wf = true) ∧ (A = none → n = 0) ∧ ∀ ad, A = some ad → ∀ j x, xs[j]? = some x → w.cell? (ad.add j) = some (.int k x)
theorem ints_row {a : Addr} {k : IntKind} : ∀ (len : Nat), (∀ i, i < len → ∃ es, w.cells? 0 (a.add (i * 1)) 1 = some es ∧ Sees w (.int k) es) →
    ∃ xs : List Int, xs.length = len ∧ (∀ x ∈ xs, (Lit.int k x).wf = true) ∧ ∀ j x, xs[j]? = some x → w.cell? (a.add j) = some (.int k x)
  | 0, _ => ⟨[], rfl, by simp, by simp⟩
  | len + 1, h => by
    obtain ⟨xs, h1, h2, h3⟩ := ints_row len (fun i hi => h i (by omega))
    obtain ⟨es, he, hs⟩ := h len (by omega)
    obtain ⟨v, rfl, hv⟩ := cells_one he
    obtain ⟨x, hx, hw⟩ := hs
    simp only [List.cons.injEq, and_true] at hx
    subst hx
    rw [Nat.mul_one] at hv
    refine ⟨xs ++ [x], by simp [h1], ?_, ?_⟩
    · intro y hy
      rcases List.mem_append.1 hy with hy | hy
      · exact h2 y hy
      · simp at hy; subst hy; exact hw
    · intro j y hj
      by_cases hlt : j < xs.length
      · rw [List.getElem?_append_left hlt] at hj
        exact h3 j y hj
      · rw [List.getElem?_append_right (by omega)] at hj
        have hj0 : j - xs.length = 0 := by
          rcases Nat.eq_zero_or_pos (j - xs.length) with h0 | h0
          · exact h0
          · rw [List.getElem?_eq_none (by simp; omega)] at hj; cases hj
        rw [hj0] at hj
        simp at hj
        subst hj
        rw [show j = len by omega]
        exact hv
theorem sees_ints {k : IntKind} {A : Option Addr} {n c : Nat} (h : Sees w (.sl (.int k)) [.slice A n c]) : n ≤ c ∧ c ≤ maxLen ∧ ∃ xs, Ints w k A n xs := by
  rcases h with h | ⟨a, len, cap, h, hl, hm, he⟩
  · simp only [List.cons.injEq, Value.slice.injEq, and_true] at h
    obtain ⟨rfl, rfl, rfl⟩ := h
    exact ⟨Nat.le_refl _, by simp [maxLen], [], rfl, by simp, fun _ => rfl, by simp⟩
  · simp only [List.cons.injEq, Value.slice.injEq, and_true] at h
    obtain ⟨rfl, rfl, rfl⟩ := h
    obtain ⟨xs, h1, h2, h3⟩ := ints_row _ he
    exact ⟨hl, hm, xs, h1, h2, by simp, fun ad had j x hx => by cases had; exact h3 j x hx⟩
theorem Ints.lt {k : IntKind} {ad : Addr} {n j : Nat} {xs : List Int} (h : Ints w k (some ad) n xs) (hj : j < n) : ad.block < w.heap.size := by
  have hl : j < xs.length := by have := h.1; omega
  have hx : xs[j]? = some xs[j] := List.getElem?_eq_getElem hl
  have := World.block_lt_of_cell? w _ (h.2.2.2 ad rfl j _ hx)
  unfold Addr.add at this
  split at this <;> exact this
end
end Go.Proofs.YtlmddkciamdldaaGreat

/-
  Slices that came in, as rows of words.
-/
namespace Go.Proofs.YtlmddkciamdldaaGreat
open Go.ChangeShapes Go.WideShapes Go.RowKit
set_option linter.unusedVariables false
set_option linter.unusedSimpArgs false
set_option maxRecDepth 100000
theorem wf_u32 {x : Int} (h : (Lit.int .u32 x).wf = true) : 0 ≤ x ∧ x < 4294967296 := by
  simp [Lit.wf, IntKind.bits, IntKind.signed, IntKind.min, IntKind.max] at h
  omega
theorem sees_ws {w : World} {A : Option Addr} {n c : Nat} (h : Sees w (.sl (.int .u32)) [.slice A n c]) : ∃ xs, Ws w A n c xs := by
  have hn : A = none → c = 0 := by
    rcases h with h | ⟨a, len, cap, h, _⟩
    · simp only [List.cons.injEq, Value.slice.injEq, and_true] at h
      exact fun _ => h.2.2
    · simp only [List.cons.injEq, Value.slice.injEq, and_true] at h
      exact fun e => by rw [h.1] at e; cases e
  obtain ⟨h1, h2, xs, i1, i2, i3, i4⟩ := sees_ints h
  exact ⟨xs, i1, h1, h2, hn, fun x hx => wf_u32 (i2 x hx), i4⟩
end Go.Proofs.YtlmddkciamdldaaGreat

/-
  Registers out of their cells.
-/
namespace Go.Proofs.YtlmddkciamdldaaGreat
open Go.ChangeShapes Go.WideShapes Go.RowKit
set_option linter.unusedVariables false
set_option linter.unusedSimpArgs false
set_option maxRecDepth 100000
def A.of (l : List Int) (h : Int) (n z c v : Bool) : A.Regs := ⟨fun j => l.getD j 0, h, n, z, c, v⟩
theorem A.word {a : Int} (w : (Lit.int .u32 a).wf = true) : 0 ≤ a ∧ a < 4294967296 := by have := bounds_u32 w; omega
/-- the shape of registers, and of how a machine is set up -/
def regsSh : Sh := .cons (.rep 16 (.int .u32)) (.cons (.int .u32) (.cons .bool (.cons .bool (.cons .bool (.cons .bool .nil)))))
def setSh : Sh := .cons regsSh (.cons (.int .u32) (.cons (.sl (.int .u32)) .nil))
theorem sees_rep {w : World} {cs : List Value} (h : Sees w (.rep 16 (.int .u32)) cs) : ∃ l : List Int, l.length = 16 ∧ cs = l.map (Value.int .u32) ∧ ∀ x ∈ l, 0 ≤ x ∧ x < 4294967296 := by
  obtain ⟨hl, h⟩ := h
  have hl : cs.length = 16 := hl
  have h1 : ∀ i : Nat, ∃ a : Int, i < 16 → cs[i]? = some (.int .u32 a) ∧ 0 ≤ a ∧ a < 4294967296 := by
    intro i
    by_cases hi : i < 16
    · obtain ⟨a, ha, hw⟩ := h i hi
      have ha : (cs.drop (i * 1)).take 1 = [.int .u32 a] := ha
      rw [Nat.mul_one] at ha
      refine ⟨a, fun _ => ⟨?_, A.word hw⟩⟩
      have : ((cs.drop i).take 1)[0]? = some (.int .u32 a) := by rw [ha]; rfl
      rw [List.getElem?_take, if_pos (by omega), List.getElem?_drop, Nat.add_zero] at this
      exact this
    · exact ⟨0, fun h => absurd h hi⟩
  refine ⟨(List.range 16).map fun i => Classical.choose (h1 i), by simp, ?_, ?_⟩
  · apply List.ext_getElem?
    intro i
    by_cases hi : i < 16
    · rw [(Classical.choose_spec (h1 i) hi).1, List.getElem?_map, List.getElem?_map, List.getElem?_range hi]; rfl
    · rw [List.getElem?_eq_none (by omega), List.getElem?_eq_none (by simp; omega)]
  · intro x hx
    obtain ⟨i, hi, rfl⟩ := List.mem_map.1 hx
    exact (Classical.choose_spec (h1 i) (by simpa using hi)).2
theorem list16 (l : List Int) (h : l.length = 16) : l.map (Value.int .u32) = [.int .u32 (l.getD 0 0), .int .u32 (l.getD 1 0), .int .u32 (l.getD 2 0), .int .u32 (l.getD 3 0), .int .u32 (l.getD 4 0), .int .u32 (l.getD 5 0), .int .u32 (l.getD 6 0), .int .u32 (l.getD 7 0), .int .u32 (l.getD 8 0), .int .u32 (l.getD 9 0), .int .u32 (l.getD 10 0), .int .u32 (l.getD 11 0), .int .u32 (l.getD 12 0), .int .u32 (l.getD 13 0), .int .u32 (l.getD 14 0), .int .u32 (l.getD 15 0)] := by
  apply List.ext_getElem?
  intro i
  by_cases hi : i < 16
  · rw [List.getElem?_map, List.getElem?_eq_getElem (by omega)]
    have hd : ∀ j, (hj : j < 16) → l.getD j 0 = l[j]'(by omega) := fun j hj => by simp [List.getD_eq_getElem?_getD, List.getElem?_eq_getElem (show j < l.length by omega)]
    rw [hd 0 (by omega), hd 1 (by omega), hd 2 (by omega), hd 3 (by omega), hd 4 (by omega), hd 5 (by omega), hd 6 (by omega), hd 7 (by omega), hd 8 (by omega), hd 9 (by omega), hd 10 (by omega), hd 11 (by omega), hd 12 (by omega), hd 13 (by omega), hd 14 (by omega), hd 15 (by omega)]
    rcases (show i = 0 ∨ i = 1 ∨ i = 2 ∨ i = 3 ∨ i = 4 ∨ i = 5 ∨ i = 6 ∨ i = 7 ∨ i = 8 ∨ i = 9 ∨ i = 10 ∨ i = 11 ∨ i = 12 ∨ i = 13 ∨ i = 14 ∨ i = 15 by omega) with rfl | rfl | rfl | rfl | rfl | rfl | rfl | rfl | rfl | rfl | rfl | rfl | rfl | rfl | rfl | rfl <;> rfl
  · rw [List.getElem?_eq_none (by simp; omega), List.getElem?_eq_none (by simp; omega)]
/-- the cells of a set-up: registers, a place, inputs -/
theorem sees_set {w : World} {cs : List Value} (h : Sees w setSh cs) : ∃ (s : A.Regs) (pc : Int) (A' : Option Addr) (n c : Nat), A.Ok s ∧ (0 ≤ pc ∧ pc < 4294967296) ∧ (∃ is, Ws w A' n c is) ∧ cs = [.int .u32 (s.r 0), .int .u32 (s.r 1), .int .u32 (s.r 2), .int .u32 (s.r 3), .int .u32 (s.r 4), .int .u32 (s.r 5), .int .u32 (s.r 6), .int .u32 (s.r 7), .int .u32 (s.r 8), .int .u32 (s.r 9), .int .u32 (s.r 10), .int .u32 (s.r 11), .int .u32 (s.r 12), .int .u32 (s.r 13), .int .u32 (s.r 14), .int .u32 (s.r 15), .int .u32 s.h, .bool s.n, .bool s.z, .bool s.c, .bool s.v, .int .u32 pc, .slice A' n c] := by
  obtain ⟨c0, d0, rfl, _, h0, h⟩ := h
  obtain ⟨c1, d1, rfl, _, ⟨pc, rfl, hp⟩, h⟩ := h
  obtain ⟨c2, d2, rfl, _, h2, h⟩ := h
  have hd : d2 = [] := h
  subst hd
  obtain ⟨e0, f0, rfl, _, hR, h0⟩ := h0
  obtain ⟨e1, f1, rfl, _, ⟨hh, rfl, hw⟩, h0⟩ := h0
  obtain ⟨e2, f2, rfl, _, ⟨n, rfl⟩, h0⟩ := h0
  obtain ⟨e3, f3, rfl, _, ⟨z, rfl⟩, h0⟩ := h0
  obtain ⟨e4, f4, rfl, _, ⟨c, rfl⟩, h0⟩ := h0
  obtain ⟨e5, f5, rfl, _, ⟨v, rfl⟩, h0⟩ := h0
  have hf : f5 = [] := h0
  subst hf
  obtain ⟨l, hl, rfl, hr⟩ := sees_rep hR
  have hs : ∃ A n c, c2 = [.slice A n c] := by
    rcases h2 with rfl | ⟨ad, len, cap, rfl, _⟩
    · exact ⟨_, _, _, rfl⟩
    · exact ⟨_, _, _, rfl⟩
  obtain ⟨A', m, q, rfl⟩ := hs
  refine ⟨A.of l hh n z c v, pc, A', m, q, ⟨fun j hj => ?_, A.word hw⟩, A.word hp, sees_ws h2, ?_⟩
  · show 0 ≤ l.getD j 0 ∧ l.getD j 0 < 4294967296
    rw [List.getD_eq_getElem?_getD, List.getElem?_eq_getElem (show j < l.length by omega)]
    exact hr _ (List.getElem_mem _)
  · rw [list16 l hl]; rfl
section
variable {H : Type} {enc : TypeId × Value → H} {P : Program} {w : World} {spare : Nat → Bool} {held : Bool}
theorem open_row {r : Reach} {b0 n : Nat} {t : TypeId} {fs : Array Field} {s : Sh} {v : Value} {d : DataW H} {p : List MemPlace} (hu : P.underlying t = some (.struct fs)) (hs : shapeAt P n t = some s) (hv : Value.okWide P w r b0 t v) (h : DataW.Trod enc P w 0 spare held t v d p) :
    ∃ cs : Array Value, v = .agg cs ∧ Sees w s cs.toList := by
  have hcs : ∃ cs : Array Value, v = .agg cs := by
    simp only [Value.okWide, hu] at hv
    obtain ⟨cs, rfl, _⟩ := hv
    exact ⟨cs, rfl⟩
  obtain ⟨cs, rfl⟩ := hcs
  exact ⟨cs, rfl, by have := open_sees hs h; simpa [Value.cells] using this⟩
end
end Go.Proofs.YtlmddkciamdldaaGreat
