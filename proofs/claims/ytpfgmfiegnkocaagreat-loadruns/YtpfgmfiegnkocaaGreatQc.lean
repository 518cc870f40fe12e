import Derived.BigQuiet
import Derived.Deep.RegionHeld3
import Derived.Laws.BitsAllLaws
import Derived.Lib.Hide
import Derived.Test.YtpfgmfiegnkocaaGreatRows
import Derived.WalkKit
import Derived.WalkLawsBesides
import Derived.WalkSpells
import Derived.Test.YtpfgmfiegnkocaaGreatQb
namespace Go.Proofs.YtpfgmfiegnkocaaGreat
open Go.RowKit
set_option linter.unusedVariables false
set_option linter.unusedSimpArgs false
set_option maxRecDepth 100000
theorem move_t (s : A.Regs) (b n : Int) (h0 : 0 ≤ b) (h1 : b < 4294967296) (h2 : 0 ≤ n) (h3 : n < 4294967296) (w : World) :
 Calls Tryz.prog 133 #[.agg (A.opnd s b n true)] w fun e w' => e = .returned (.agg (A.outc (n * 65536 % 4294967296) s 0)) ∧ Kept w w' := by
 go_enter Tryz.func133, Tryz.ntmps133
 go_wp2_with (first
  | (with_reducible refine load_has (o := ⟨some 5, _, _, _, _, _⟩) rfl 150 _ rfl _ rfl ((Has.new _ _ _).alloc _) Tryz.underlying150 rfl (A.infoOp _ _ _ _) ?_)
  | (with_reducible refine store_has (o := ⟨none, Op.store 147 _ _, _, _, _, _⟩) rfl 147 _ _ rfl _ _ rfl rfl (by assumption) (A.infoOut _ _ _) (by kernel_rfl) (A.one_outc _ _ _) ?_)
  | (go_at_call 131; (refine (just_any _ _ _ _ _ _).mono ?_; rintro e w2 ⟨rfl, hK2⟩); (have hX := (Has.new1 _ _ _ _).kept hK2); (have hK := (((Kept.refl w).alloc _ _).alloc _ _).trans hK2); clear hK2))
 exact bodyPost_ret (results_has rfl (w.heap.size + 1) rfl (hX.row _) Tryz.underlying147 rfl (A.infoOut _ _ _)) rfl ⟨rfl, hK.row (by omega) _⟩
theorem move_f (s : A.Regs) (b n : Int) (h0 : 0 ≤ b) (h1 : b < 4294967296) (h2 : 0 ≤ n) (h3 : n < 4294967296) (w : World) :
 Calls Tryz.prog 133 #[.agg (A.opnd s b n false)] w fun e w' => e = .returned (.agg (A.outc n s 0)) ∧ Kept w w' := by
 go_enter Tryz.func133, Tryz.ntmps133
 go_wp2_with (first
  | (with_reducible refine load_has (o := ⟨some 10, _, _, _, _, _⟩) rfl 150 _ rfl _ rfl ((Has.new _ _ _).alloc _) Tryz.underlying150 rfl (A.infoOp _ _ _ _) ?_)
  | (with_reducible refine store_has (o := ⟨none, Op.store 147 _ _, _, _, _, _⟩) rfl 147 _ _ rfl _ _ rfl rfl (by assumption) (A.infoOut _ _ _) (by kernel_rfl) (A.one_outc _ _ _) ?_)
  | (go_at_call 131; (refine (just_any _ _ _ _ _ _).mono ?_; rintro e w2 ⟨rfl, hK2⟩); (have hX := (Has.new1 _ _ _ _).kept hK2); (have hK := (((Kept.refl w).alloc _ _).alloc _ _).trans hK2); clear hK2))
 exact bodyPost_ret (results_has rfl (w.heap.size + 1) rfl (hX.row _) Tryz.underlying147 rfl (A.infoOut _ _ _)) rfl ⟨rfl, hK.row (by omega) _⟩
theorem high_any (s : A.Regs) (b n : Int) (u : Bool) (w : World) :
 Calls Tryz.prog 124 #[.agg (A.opnd s b n u)] w fun e w' => e = .returned (.agg (A.outc s.h s 0)) ∧ Kept w w' := by
 go_enter Tryz.func124, Tryz.ntmps124
 go_wp2_with (first
  | (with_reducible refine load_has (o := ⟨some 3, _, _, _, _, _⟩) rfl 150 _ rfl _ rfl ((Has.new _ _ _).alloc _) Tryz.underlying150 rfl (A.infoOp _ _ _ _) ?_)
  | (with_reducible refine store_has (o := ⟨none, Op.store 147 _ _, _, _, _, _⟩) rfl 147 _ _ rfl _ _ rfl rfl (by assumption) (A.infoOut _ _ _) (by kernel_rfl) (A.one_outc _ _ _) ?_)
  | (go_at_call 131; (refine (just_any _ _ _ _ _ _).mono ?_; rintro e w2 ⟨rfl, hK2⟩); (have hX := (Has.new1 _ _ _ _).kept hK2); (have hK := (((Kept.refl w).alloc _ _).alloc _ _).trans hK2); clear hK2))
 exact bodyPost_ret (results_has rfl (w.heap.size + 1) rfl (hX.row _) Tryz.underlying147 rfl (A.infoOut _ _ _)) rfl ⟨rfl, hK.row (by omega) _⟩
theorem bit_and (s : A.Regs) (b n : Int) (u : Bool) (h0 : 0 ≤ b) (h1 : b < 4294967296) (h2 : 0 ≤ n) (h3 : n < 4294967296) (w : World) :
 Calls Tryz.prog 138 #[.agg (A.opnd s b n u)] w fun e w' => e = .returned (.agg (A.outc (bits BinOp.and IntKind.u32 b n) s 0)) ∧ Kept w w' := by
 go_enter Tryz.func138, Tryz.ntmps138
 go_wp2_with (first
  | (with_reducible refine load_has (o := ⟨some 3, _, _, _, _, _⟩) rfl 150 _ rfl _ rfl ((Has.new _ _ _).alloc _) Tryz.underlying150 rfl (A.infoOp _ _ _ _) ?_)
  | (with_reducible refine store_has (o := ⟨none, Op.store 147 _ _, _, _, _, _⟩) rfl 147 _ _ rfl _ _ rfl rfl (by assumption) (A.infoOut _ _ _) (by kernel_rfl) (A.one_outc _ _ _) ?_)
  | (go_at_call 131; (refine (just_any _ _ _ _ _ _).mono ?_; rintro e w2 ⟨rfl, hK2⟩); (have hX := (Has.new1 _ _ _ _).kept hK2); (have hK := (((Kept.refl w).alloc _ _).alloc _ _).trans hK2); clear hK2))
 exact bodyPost_ret (results_has rfl (w.heap.size + 1) rfl (hX.row _) Tryz.underlying147 rfl (A.infoOut _ _ _)) rfl ⟨rfl, hK.row (by omega) _⟩
theorem bit_andNot (s : A.Regs) (b n : Int) (u : Bool) (h0 : 0 ≤ b) (h1 : b < 4294967296) (h2 : 0 ≤ n) (h3 : n < 4294967296) (w : World) :
 Calls Tryz.prog 139 #[.agg (A.opnd s b n u)] w fun e w' => e = .returned (.agg (A.outc (bits BinOp.andNot IntKind.u32 b n) s 0)) ∧ Kept w w' := by
 go_enter Tryz.func139, Tryz.ntmps139
 go_wp2_with (first
  | (with_reducible refine load_has (o := ⟨some 3, _, _, _, _, _⟩) rfl 150 _ rfl _ rfl ((Has.new _ _ _).alloc _) Tryz.underlying150 rfl (A.infoOp _ _ _ _) ?_)
  | (with_reducible refine store_has (o := ⟨none, Op.store 147 _ _, _, _, _, _⟩) rfl 147 _ _ rfl _ _ rfl rfl (by assumption) (A.infoOut _ _ _) (by kernel_rfl) (A.one_outc _ _ _) ?_)
  | (go_at_call 131; (refine (just_any _ _ _ _ _ _).mono ?_; rintro e w2 ⟨rfl, hK2⟩); (have hX := (Has.new1 _ _ _ _).kept hK2); (have hK := (((Kept.refl w).alloc _ _).alloc _ _).trans hK2); clear hK2))
 exact bodyPost_ret (results_has rfl (w.heap.size + 1) rfl (hX.row _) Tryz.underlying147 rfl (A.infoOut _ _ _)) rfl ⟨rfl, hK.row (by omega) _⟩
theorem bit_or (s : A.Regs) (b n : Int) (u : Bool) (h0 : 0 ≤ b) (h1 : b < 4294967296) (h2 : 0 ≤ n) (h3 : n < 4294967296) (w : World) :
 Calls Tryz.prog 140 #[.agg (A.opnd s b n u)] w fun e w' => e = .returned (.agg (A.outc (bits BinOp.or IntKind.u32 b n) s 0)) ∧ Kept w w' := by
 go_enter Tryz.func140, Tryz.ntmps140
 go_wp2_with (first
  | (with_reducible refine load_has (o := ⟨some 3, _, _, _, _, _⟩) rfl 150 _ rfl _ rfl ((Has.new _ _ _).alloc _) Tryz.underlying150 rfl (A.infoOp _ _ _ _) ?_)
  | (with_reducible refine store_has (o := ⟨none, Op.store 147 _ _, _, _, _, _⟩) rfl 147 _ _ rfl _ _ rfl rfl (by assumption) (A.infoOut _ _ _) (by kernel_rfl) (A.one_outc _ _ _) ?_)
  | (go_at_call 131; (refine (just_any _ _ _ _ _ _).mono ?_; rintro e w2 ⟨rfl, hK2⟩); (have hX := (Has.new1 _ _ _ _).kept hK2); (have hK := (((Kept.refl w).alloc _ _).alloc _ _).trans hK2); clear hK2))
 exact bodyPost_ret (results_has rfl (w.heap.size + 1) rfl (hX.row _) Tryz.underlying147 rfl (A.infoOut _ _ _)) rfl ⟨rfl, hK.row (by omega) _⟩
theorem bit_xor (s : A.Regs) (b n : Int) (u : Bool) (h0 : 0 ≤ b) (h1 : b < 4294967296) (h2 : 0 ≤ n) (h3 : n < 4294967296) (w : World) :
 Calls Tryz.prog 141 #[.agg (A.opnd s b n u)] w fun e w' => e = .returned (.agg (A.outc (bits BinOp.xor IntKind.u32 b n) s 0)) ∧ Kept w w' := by
 go_enter Tryz.func141, Tryz.ntmps141
 go_wp2_with (first
  | (with_reducible refine load_has (o := ⟨some 3, _, _, _, _, _⟩) rfl 150 _ rfl _ rfl ((Has.new _ _ _).alloc _) Tryz.underlying150 rfl (A.infoOp _ _ _ _) ?_)
  | (with_reducible refine store_has (o := ⟨none, Op.store 147 _ _, _, _, _, _⟩) rfl 147 _ _ rfl _ _ rfl rfl (by assumption) (A.infoOut _ _ _) (by kernel_rfl) (A.one_outc _ _ _) ?_)
  | (go_at_call 131; (refine (just_any _ _ _ _ _ _).mono ?_; rintro e w2 ⟨rfl, hK2⟩); (have hX := (Has.new1 _ _ _ _).kept hK2); (have hK := (((Kept.refl w).alloc _ _).alloc _ _).trans hK2); clear hK2))
 exact bodyPost_ret (results_has rfl (w.heap.size + 1) rfl (hX.row _) Tryz.underlying147 rfl (A.infoOut _ _ _)) rfl ⟨rfl, hK.row (by omega) _⟩
set_option maxHeartbeats 1000000 in
theorem shift_1 (s : A.Regs) (b n : Int) (u : Bool) (h0 : 0 ≤ b) (h1 : b < 4294967296) (h2 : 0 ≤ n) (h3 : n < 4294967296) (w : World) :
 Calls Tryz.prog 134 #[.agg (A.opnd s b n u)] w fun e w' => e = .returned (.agg (A.outc (W.shift 1 b n) s 0)) ∧ Kept w w' := by
 have hS0 : (fun w' => Kept w w' ∧ Has w.heap.size (A.opnd s b n u) 150 w' ∧ HasN (w.heap.size + 1) 23 147 w') ((w.alloc (.cells (A.opnd s b n u) 150)).alloc (.cells (A.outc 0 A.none' 0) 147)) := ⟨((Kept.refl w).alloc _ _).alloc _ _, (Has.new _ _ _).alloc _, ⟨_, rfl, Has.new1 _ _ _ _⟩⟩
 have HS0 := Lib.hid hS0
 clear hS0
 go_enter Tryz.func134, Tryz.ntmps134
 go_wp2_with fail
 refine wp_region_held_drew (S := fun w' => Kept w w' ∧ Has w.heap.size (A.opnd s b n u) 150 w' ∧ HasN (w.heap.size + 1) 23 147 w') (by kernel_rfl) ?_ (fun hHeld => ?_)
 · exact ⟨HS0.out.1.drew, HS0.out.2.1.drew, HS0.out.2.2⟩
 refine tk 0 _ (v := ?_) hHeld ?_ ?_
 rotate_left
 · (intro wz hSw; refine exec_load_has 150 (Operand.tmp 1) ?_ _ ?_ hSw.2.1 Tryz.underlying150 rfl (A.infoOp _ _ _ _) <;> rfl)
 try simp only [Act.put, pq]
 refine tk 1 _ (v := ?_) hHeld ?_ (tk 2 _ (v := ?_) hHeld ?_ (tk 3 _ (v := ?_) hHeld ?_ (tk 4 _ (v := ?_) hHeld ?_ ?_)))
 all_goals try (intro wz hSw; (try dsimp only at hSw); have q1 := hSw.2.1.cell 21 _ (A.opnd_b _ _ _ _); have q2 := hSw.2.1.cell 22 _ (A.opnd_nn _ _ _ _); have q3 := hSw.2.1.cell 23 _ (A.opnd_u _ _ _ _); go_simp; with_reducible rfl)
 try simp only [Act.put, pq]
 refine wpAnyH_ready (rs := [5]) (by kernel_rfl) (by simp) ?_
 refine AllReadyH.cons (o := _) rfl (fun K hK => ?_) (AllReadyH.nil)
 go_simp
 go_at_call 135
 refine (shift_any 1 b n h0 h1 h2 h3 _).mono ?_
 rintro e w5 ⟨rfl, rfl⟩
 have hN := (show (fun w' => Kept w w' ∧ Has w.heap.size (A.opnd s b n u) 150 w' ∧ HasN (w.heap.size + 1) 23 147 w') _ from hHeld)
 clear hHeld
 refine hK.out _ _ hN (fun hHeld => ?_)
 clear hK K hN
 try simp only [Act.put, pq]
 refine wpAnyH_ready (rs := [6]) (by kernel_rfl) (by simp) ?_
 refine AllReadyH.cons (o := _) rfl (fun K hK => ?_) (AllReadyH.nil)
 go_simp
 go_at_call 131
 refine (just_any _ _ _ _ _ _).mono ?_
 rintro e w5 ⟨rfl, hK5⟩
 have hN := (show (fun w' => Kept w w' ∧ Has w.heap.size (A.opnd s b n u) 150 w' ∧ HasN (w.heap.size + 1) 23 147 w') _ from ⟨hHeld.1.trans hK5, hHeld.2.1.kept hK5, hHeld.2.2.kept hK5⟩)
 clear hHeld
 refine hK.out _ _ hN (fun hHeld => ?_)
 clear hK K hN
 try simp only [Act.put, pq]
 refine wpAnyH_ready (rs := [7]) (by kernel_rfl) (by simp) ?_
 refine AllReadyH.cons (o := _) rfl (fun K hK => ?_) (AllReadyH.nil)
 obtain ⟨old, hold, hR⟩ := hHeld.2.2
 refine wp_store_row (o := ⟨none, .store 147 (.tmp 2) (.tmp 9), 0, "alu.go:74", #[eD 6, eC 6, eP 0, eP 1, eP 2, eP 3, eP 4, eP 5, eP 6], none⟩) 147 _ _ rfl _ (A.outc (W.shift 1 b n) s 0) ?_ ?_ 147 old hR (A.infoOut _ _ _) hold (A.one_outc _ _ _) ?_
 · rfl
 · rfl
 have hN := (show (fun w' => Kept w w' ∧ Has w.heap.size (A.opnd s b n u) 150 w' ∧ HasN (w.heap.size + 1) 23 147 w') _ from ⟨hHeld.1.row (by omega) _, hHeld.2.1.rowOther (by omega) _, ⟨(A.outc (W.shift 1 b n) s 0), A.size_outc _ _ _, Has.row hR _⟩⟩)
 clear hHeld
 refine hK.out _ _ hN (fun hHeld => ?_)
 clear hK K hN
 try simp only [Act.put, pq]
 refine wpAnyH_done (by kernel_rfl) ?_ _
 have hR5 := Has.row hR
 clear hR
 go_wp2_with fail
 exact bodyPost_ret (results_has rfl (w.heap.size + 1) rfl (hR5 _) Tryz.underlying147 rfl (A.infoOut _ _ _)) rfl ⟨rfl, hHeld.1⟩
set_option maxHeartbeats 1000000 in
theorem shift_2 (s : A.Regs) (b n : Int) (u : Bool) (h0 : 0 ≤ b) (h1 : b < 4294967296) (h2 : 0 ≤ n) (h3 : n < 4294967296) (w : World) :
 Calls Tryz.prog 136 #[.agg (A.opnd s b n u)] w fun e w' => e = .returned (.agg (A.outc (W.shift 2 b n) s 0)) ∧ Kept w w' := by
 have hS0 : (fun w' => Kept w w' ∧ Has w.heap.size (A.opnd s b n u) 150 w' ∧ HasN (w.heap.size + 1) 23 147 w') ((w.alloc (.cells (A.opnd s b n u) 150)).alloc (.cells (A.outc 0 A.none' 0) 147)) := ⟨((Kept.refl w).alloc _ _).alloc _ _, (Has.new _ _ _).alloc _, ⟨_, rfl, Has.new1 _ _ _ _⟩⟩
 have HS0 := Lib.hid hS0
 clear hS0
 go_enter Tryz.func136, Tryz.ntmps136
 go_wp2_with fail
 refine wp_region_held_drew (S := fun w' => Kept w w' ∧ Has w.heap.size (A.opnd s b n u) 150 w' ∧ HasN (w.heap.size + 1) 23 147 w') (by kernel_rfl) ?_ (fun hHeld => ?_)
 · exact ⟨HS0.out.1.drew, HS0.out.2.1.drew, HS0.out.2.2⟩
 refine tk 0 _ (v := ?_) hHeld ?_ ?_
 rotate_left
 · (intro wz hSw; refine exec_load_has 150 (Operand.tmp 1) ?_ _ ?_ hSw.2.1 Tryz.underlying150 rfl (A.infoOp _ _ _ _) <;> rfl)
 try simp only [Act.put, pq]
 refine tk 1 _ (v := ?_) hHeld ?_ (tk 2 _ (v := ?_) hHeld ?_ (tk 3 _ (v := ?_) hHeld ?_ (tk 4 _ (v := ?_) hHeld ?_ ?_)))
 all_goals try (intro wz hSw; (try dsimp only at hSw); have q1 := hSw.2.1.cell 21 _ (A.opnd_b _ _ _ _); have q2 := hSw.2.1.cell 22 _ (A.opnd_nn _ _ _ _); have q3 := hSw.2.1.cell 23 _ (A.opnd_u _ _ _ _); go_simp; with_reducible rfl)
 try simp only [Act.put, pq]
 refine wpAnyH_ready (rs := [5]) (by kernel_rfl) (by simp) ?_
 refine AllReadyH.cons (o := _) rfl (fun K hK => ?_) (AllReadyH.nil)
 go_simp
 go_at_call 135
 refine (shift_any 2 b n h0 h1 h2 h3 _).mono ?_
 rintro e w5 ⟨rfl, rfl⟩
 have hN := (show (fun w' => Kept w w' ∧ Has w.heap.size (A.opnd s b n u) 150 w' ∧ HasN (w.heap.size + 1) 23 147 w') _ from hHeld)
 clear hHeld
 refine hK.out _ _ hN (fun hHeld => ?_)
 clear hK K hN
 try simp only [Act.put, pq]
 refine wpAnyH_ready (rs := [6]) (by kernel_rfl) (by simp) ?_
 refine AllReadyH.cons (o := _) rfl (fun K hK => ?_) (AllReadyH.nil)
 go_simp
 go_at_call 131
 refine (just_any _ _ _ _ _ _).mono ?_
 rintro e w5 ⟨rfl, hK5⟩
 have hN := (show (fun w' => Kept w w' ∧ Has w.heap.size (A.opnd s b n u) 150 w' ∧ HasN (w.heap.size + 1) 23 147 w') _ from ⟨hHeld.1.trans hK5, hHeld.2.1.kept hK5, hHeld.2.2.kept hK5⟩)
 clear hHeld
 refine hK.out _ _ hN (fun hHeld => ?_)
 clear hK K hN
 try simp only [Act.put, pq]
 refine wpAnyH_ready (rs := [7]) (by kernel_rfl) (by simp) ?_
 refine AllReadyH.cons (o := _) rfl (fun K hK => ?_) (AllReadyH.nil)
 obtain ⟨old, hold, hR⟩ := hHeld.2.2
 refine wp_store_row (o := ⟨none, .store 147 (.tmp 2) (.tmp 9), 0, "alu.go:75", #[eD 6, eC 6, eP 0, eP 1, eP 2, eP 3, eP 4, eP 5, eP 6], none⟩) 147 _ _ rfl _ (A.outc (W.shift 2 b n) s 0) ?_ ?_ 147 old hR (A.infoOut _ _ _) hold (A.one_outc _ _ _) ?_
 · rfl
 · rfl
 have hN := (show (fun w' => Kept w w' ∧ Has w.heap.size (A.opnd s b n u) 150 w' ∧ HasN (w.heap.size + 1) 23 147 w') _ from ⟨hHeld.1.row (by omega) _, hHeld.2.1.rowOther (by omega) _, ⟨(A.outc (W.shift 2 b n) s 0), A.size_outc _ _ _, Has.row hR _⟩⟩)
 clear hHeld
 refine hK.out _ _ hN (fun hHeld => ?_)
 clear hK K hN
 try simp only [Act.put, pq]
 refine wpAnyH_done (by kernel_rfl) ?_ _
 have hR5 := Has.row hR
 clear hR
 go_wp2_with fail
 exact bodyPost_ret (results_has rfl (w.heap.size + 1) rfl (hR5 _) Tryz.underlying147 rfl (A.infoOut _ _ _)) rfl ⟨rfl, hHeld.1⟩
set_option maxHeartbeats 1000000 in
theorem shift_3 (s : A.Regs) (b n : Int) (u : Bool) (h0 : 0 ≤ b) (h1 : b < 4294967296) (h2 : 0 ≤ n) (h3 : n < 4294967296) (w : World) :
 Calls Tryz.prog 137 #[.agg (A.opnd s b n u)] w fun e w' => e = .returned (.agg (A.outc (W.shift 3 b n) s 0)) ∧ Kept w w' := by
 have hS0 : (fun w' => Kept w w' ∧ Has w.heap.size (A.opnd s b n u) 150 w' ∧ HasN (w.heap.size + 1) 23 147 w') ((w.alloc (.cells (A.opnd s b n u) 150)).alloc (.cells (A.outc 0 A.none' 0) 147)) := ⟨((Kept.refl w).alloc _ _).alloc _ _, (Has.new _ _ _).alloc _, ⟨_, rfl, Has.new1 _ _ _ _⟩⟩
 have HS0 := Lib.hid hS0
 clear hS0
 go_enter Tryz.func137, Tryz.ntmps137
 go_wp2_with fail
 refine wp_region_held_drew (S := fun w' => Kept w w' ∧ Has w.heap.size (A.opnd s b n u) 150 w' ∧ HasN (w.heap.size + 1) 23 147 w') (by kernel_rfl) ?_ (fun hHeld => ?_)
 · exact ⟨HS0.out.1.drew, HS0.out.2.1.drew, HS0.out.2.2⟩
 refine tk 0 _ (v := ?_) hHeld ?_ ?_
 rotate_left
 · (intro wz hSw; refine exec_load_has 150 (Operand.tmp 1) ?_ _ ?_ hSw.2.1 Tryz.underlying150 rfl (A.infoOp _ _ _ _) <;> rfl)
 try simp only [Act.put, pq]
 refine tk 1 _ (v := ?_) hHeld ?_ (tk 2 _ (v := ?_) hHeld ?_ (tk 3 _ (v := ?_) hHeld ?_ (tk 4 _ (v := ?_) hHeld ?_ ?_)))
 all_goals try (intro wz hSw; (try dsimp only at hSw); have q1 := hSw.2.1.cell 21 _ (A.opnd_b _ _ _ _); have q2 := hSw.2.1.cell 22 _ (A.opnd_nn _ _ _ _); have q3 := hSw.2.1.cell 23 _ (A.opnd_u _ _ _ _); go_simp; with_reducible rfl)
 try simp only [Act.put, pq]
 refine wpAnyH_ready (rs := [5]) (by kernel_rfl) (by simp) ?_
 refine AllReadyH.cons (o := _) rfl (fun K hK => ?_) (AllReadyH.nil)
 go_simp
 go_at_call 135
 refine (shift_any 3 b n h0 h1 h2 h3 _).mono ?_
 rintro e w5 ⟨rfl, rfl⟩
 have hN := (show (fun w' => Kept w w' ∧ Has w.heap.size (A.opnd s b n u) 150 w' ∧ HasN (w.heap.size + 1) 23 147 w') _ from hHeld)
 clear hHeld
 refine hK.out _ _ hN (fun hHeld => ?_)
 clear hK K hN
 try simp only [Act.put, pq]
 refine wpAnyH_ready (rs := [6]) (by kernel_rfl) (by simp) ?_
 refine AllReadyH.cons (o := _) rfl (fun K hK => ?_) (AllReadyH.nil)
 go_simp
 go_at_call 131
 refine (just_any _ _ _ _ _ _).mono ?_
 rintro e w5 ⟨rfl, hK5⟩
 have hN := (show (fun w' => Kept w w' ∧ Has w.heap.size (A.opnd s b n u) 150 w' ∧ HasN (w.heap.size + 1) 23 147 w') _ from ⟨hHeld.1.trans hK5, hHeld.2.1.kept hK5, hHeld.2.2.kept hK5⟩)
 clear hHeld
 refine hK.out _ _ hN (fun hHeld => ?_)
 clear hK K hN
 try simp only [Act.put, pq]
 refine wpAnyH_ready (rs := [7]) (by kernel_rfl) (by simp) ?_
 refine AllReadyH.cons (o := _) rfl (fun K hK => ?_) (AllReadyH.nil)
 obtain ⟨old, hold, hR⟩ := hHeld.2.2
 refine wp_store_row (o := ⟨none, .store 147 (.tmp 2) (.tmp 9), 0, "alu.go:76", #[eD 6, eC 6, eP 0, eP 1, eP 2, eP 3, eP 4, eP 5, eP 6], none⟩) 147 _ _ rfl _ (A.outc (W.shift 3 b n) s 0) ?_ ?_ 147 old hR (A.infoOut _ _ _) hold (A.one_outc _ _ _) ?_
 · rfl
 · rfl
 have hN := (show (fun w' => Kept w w' ∧ Has w.heap.size (A.opnd s b n u) 150 w' ∧ HasN (w.heap.size + 1) 23 147 w') _ from ⟨hHeld.1.row (by omega) _, hHeld.2.1.rowOther (by omega) _, ⟨(A.outc (W.shift 3 b n) s 0), A.size_outc _ _ _, Has.row hR _⟩⟩)
 clear hHeld
 refine hK.out _ _ hN (fun hHeld => ?_)
 clear hK K hN
 try simp only [Act.put, pq]
 refine wpAnyH_done (by kernel_rfl) ?_ _
 have hR5 := Has.row hR
 clear hR
 go_wp2_with fail
 exact bodyPost_ret (results_has rfl (w.heap.size + 1) rfl (hR5 _) Tryz.underlying147 rfl (A.infoOut _ _ _)) rfl ⟨rfl, hHeld.1⟩
set_option maxHeartbeats 1000000 in
theorem add_work (s : A.Regs) (b n : Int) (u : Bool) (h0 : 0 ≤ b) (h1 : b < 4294967296) (h2 : 0 ≤ n) (h3 : n < 4294967296) (w : World) :
 Calls Tryz.prog 142 #[.agg (A.opnd s b n u)] w fun e w' => e = .returned (.agg (A.outc (W.low (b + n + W.one (u && s.c))) (A.setV (A.setC s (W.over (b + n + W.one (u && s.c)))) (!W.inS (W.sgn b + W.sgn n + W.one (u && s.c)))) 0)) ∧ Kept w w' := by
 have hS0 : (fun w' => Kept w w' ∧ Has w.heap.size (A.opnd s b n u) 150 w' ∧ HasN (w.heap.size + 1) 23 147 w') ((w.alloc (.cells (A.opnd s b n u) 150)).alloc (.cells (A.outc 0 A.none' 0) 147)) := ⟨((Kept.refl w).alloc _ _).alloc _ _, (Has.new _ _ _).alloc _, ⟨_, rfl, Has.new1 _ _ _ _⟩⟩
 have HS0 := Lib.hid hS0
 clear hS0
 go_enter Tryz.func142, Tryz.ntmps142
 go_wp2_with fail
 refine wp_region_held_drew (S := fun w' => Kept w w' ∧ Has w.heap.size (A.opnd s b n u) 150 w' ∧ HasN (w.heap.size + 1) 23 147 w') (by kernel_rfl) ?_ (fun hHeld => ?_)
 · exact ⟨HS0.out.1.drew, HS0.out.2.1.drew, HS0.out.2.2⟩
 refine tk 0 _ (v := ?_) hHeld ?_ ?_
 rotate_left
 · (intro wz hSw; refine exec_load_has 150 (Operand.tmp 1) ?_ _ ?_ hSw.2.1 Tryz.underlying150 rfl (A.infoOp _ _ _ _) <;> rfl)
 try simp only [Act.put, pq]
 refine tk 1 _ (v := ?_) hHeld ?_ (tk 2 _ (v := ?_) hHeld ?_ (tk 3 _ (v := ?_) hHeld ?_ (tk 4 _ (v := ?_) hHeld ?_ ?_)))
 all_goals try (intro wz hSw; (try dsimp only at hSw); have q1 := hSw.2.1.cell 21 _ (A.opnd_b _ _ _ _); have q2 := hSw.2.1.cell 22 _ (A.opnd_nn _ _ _ _); have q3 := hSw.2.1.cell 23 _ (A.opnd_u _ _ _ _); go_simp; with_reducible rfl)
 try simp only [Act.put, pq]
 refine tk 5 _ (v := ?_) hHeld ?_ ?_
 rotate_left
 · (intro wz hSw; refine exec_load_has 150 (Operand.tmp 1) ?_ _ ?_ hSw.2.1 Tryz.underlying150 rfl (A.infoOp _ _ _ _) <;> rfl)
 try simp only [Act.put, pq]
 refine wpAnyH_ready (rs := [6]) (by kernel_rfl) (by simp) ?_
 refine AllReadyH.cons (o := _) rfl (fun K hK => ?_) (AllReadyH.nil)
 go_simp
 go_at_call 145
 refine (carry_any _ _ _ _ _).mono ?_
 rintro e w5 ⟨rfl, hK5⟩
 have hN := (show (fun w' => Kept w w' ∧ Has w.heap.size (A.opnd s b n u) 150 w' ∧ HasN (w.heap.size + 1) 23 147 w') _ from ⟨hHeld.1.trans hK5, hHeld.2.1.kept hK5, hHeld.2.2.kept hK5⟩)
 clear hHeld
 refine hK.out _ _ hN (fun hHeld => ?_)
 clear hK K hN
 try simp only [Act.put, pq]
 refine wpAnyH_ready (rs := [7]) (by kernel_rfl) (by simp) ?_
 refine AllReadyH.cons (o := _) rfl (fun K hK => ?_) (AllReadyH.nil)
 go_simp
 go_at_call 144
 refine (add_any b n (u && s.c) h0 h1 h2 h3 _).mono ?_
 rintro e w5 ⟨rfl, rfl⟩
 have hN := (show (fun w' => Kept w w' ∧ Has w.heap.size (A.opnd s b n u) 150 w' ∧ HasN (w.heap.size + 1) 23 147 w') _ from hHeld)
 clear hHeld
 refine hK.out _ _ hN (fun hHeld => ?_)
 clear hK K hN
 try simp only [Act.put, pq]
 refine tk 8 _ (v := ?_) hHeld ?_ (tk 9 _ (v := ?_) hHeld ?_ (tk 10 _ (v := ?_) hHeld ?_ ?_))
 all_goals try (intro wz hSw; (try dsimp only at hSw); have q1 := hSw.2.1.cell 21 _ (A.opnd_b _ _ _ _); have q2 := hSw.2.1.cell 22 _ (A.opnd_nn _ _ _ _); have q3 := hSw.2.1.cell 23 _ (A.opnd_u _ _ _ _); go_simp; with_reducible rfl)
 try simp only [Act.put, pq]
 refine wpAnyH_ready (rs := [11]) (by kernel_rfl) (by simp) ?_
 refine AllReadyH.cons (o := _) rfl (fun K hK => ?_) (AllReadyH.nil)
 go_simp
 go_at_call 143
 refine (withFlags_any _ _ _ _ _ _ _ _).mono ?_
 rintro e w5 ⟨rfl, hK5⟩
 have hN := (show (fun w' => Kept w w' ∧ Has w.heap.size (A.opnd s b n u) 150 w' ∧ HasN (w.heap.size + 1) 23 147 w') _ from ⟨hHeld.1.trans hK5, hHeld.2.1.kept hK5, hHeld.2.2.kept hK5⟩)
 clear hHeld
 refine hK.out _ _ hN (fun hHeld => ?_)
 clear hK K hN
 try simp only [Act.put, pq]
 refine wpAnyH_ready (rs := [12]) (by kernel_rfl) (by simp) ?_
 refine AllReadyH.cons (o := _) rfl (fun K hK => ?_) (AllReadyH.nil)
 obtain ⟨old, hold, hR⟩ := hHeld.2.2
 refine wp_store_row (o := ⟨none, .store 147 (.tmp 2) (.tmp 14), 0, "alu.go:81", #[eD 11, eC 11, eP 0, eP 1, eP 2, eP 3, eP 4, eP 5, eP 6, eP 7, eP 8, eP 9, eP 10, eP 11], none⟩) 147 _ _ rfl _ (A.outc (W.low (b + n + W.one (u && s.c))) (A.setV (A.setC s (W.over (b + n + W.one (u && s.c)))) (!W.inS (W.sgn b + W.sgn n + W.one (u && s.c)))) 0) ?_ ?_ 147 old hR (A.infoOut _ _ _) hold (A.one_outc _ _ _) ?_
 · rfl
 · rfl
 have hN := (show (fun w' => Kept w w' ∧ Has w.heap.size (A.opnd s b n u) 150 w' ∧ HasN (w.heap.size + 1) 23 147 w') _ from ⟨hHeld.1.row (by omega) _, hHeld.2.1.rowOther (by omega) _, ⟨(A.outc (W.low (b + n + W.one (u && s.c))) (A.setV (A.setC s (W.over (b + n + W.one (u && s.c)))) (!W.inS (W.sgn b + W.sgn n + W.one (u && s.c)))) 0), A.size_outc _ _ _, Has.row hR _⟩⟩)
 clear hHeld
 refine hK.out _ _ hN (fun hHeld => ?_)
 clear hK K hN
 try simp only [Act.put, pq]
 refine wpAnyH_done (by kernel_rfl) ?_ _
 have hR5 := Has.row hR
 clear hR
 go_wp2_with fail
 exact bodyPost_ret (results_has rfl (w.heap.size + 1) rfl (hR5 _) Tryz.underlying147 rfl (A.infoOut _ _ _)) rfl ⟨rfl, hHeld.1⟩
set_option maxHeartbeats 1000000 in
theorem sub_work (s : A.Regs) (b n : Int) (u : Bool) (h0 : 0 ≤ b) (h1 : b < 4294967296) (h2 : 0 ≤ n) (h3 : n < 4294967296) (w : World) :
 Calls Tryz.prog 146 #[.agg (A.opnd s b n u)] w fun e w' => e = .returned (.agg (A.outc (W.low (b - n - W.one (u && s.c))) (A.setV (A.setC s (W.neg (b - n - W.one (u && s.c)))) (!W.inS (W.sgn b - W.sgn n - W.one (u && s.c)))) 0)) ∧ Kept w w' := by
 have hS0 : (fun w' => Kept w w' ∧ Has w.heap.size (A.opnd s b n u) 150 w' ∧ HasN (w.heap.size + 1) 23 147 w') ((w.alloc (.cells (A.opnd s b n u) 150)).alloc (.cells (A.outc 0 A.none' 0) 147)) := ⟨((Kept.refl w).alloc _ _).alloc _ _, (Has.new _ _ _).alloc _, ⟨_, rfl, Has.new1 _ _ _ _⟩⟩
 have HS0 := Lib.hid hS0
 clear hS0
 go_enter Tryz.func146, Tryz.ntmps146
 go_wp2_with fail
 refine wp_region_held_drew (S := fun w' => Kept w w' ∧ Has w.heap.size (A.opnd s b n u) 150 w' ∧ HasN (w.heap.size + 1) 23 147 w') (by kernel_rfl) ?_ (fun hHeld => ?_)
 · exact ⟨HS0.out.1.drew, HS0.out.2.1.drew, HS0.out.2.2⟩
 refine tk 0 _ (v := ?_) hHeld ?_ ?_
 rotate_left
 · (intro wz hSw; refine exec_load_has 150 (Operand.tmp 1) ?_ _ ?_ hSw.2.1 Tryz.underlying150 rfl (A.infoOp _ _ _ _) <;> rfl)
 try simp only [Act.put, pq]
 refine tk 1 _ (v := ?_) hHeld ?_ (tk 2 _ (v := ?_) hHeld ?_ (tk 3 _ (v := ?_) hHeld ?_ (tk 4 _ (v := ?_) hHeld ?_ ?_)))
 all_goals try (intro wz hSw; (try dsimp only at hSw); have q1 := hSw.2.1.cell 21 _ (A.opnd_b _ _ _ _); have q2 := hSw.2.1.cell 22 _ (A.opnd_nn _ _ _ _); have q3 := hSw.2.1.cell 23 _ (A.opnd_u _ _ _ _); go_simp; with_reducible rfl)
 try simp only [Act.put, pq]
 refine tk 5 _ (v := ?_) hHeld ?_ ?_
 rotate_left
 · (intro wz hSw; refine exec_load_has 150 (Operand.tmp 1) ?_ _ ?_ hSw.2.1 Tryz.underlying150 rfl (A.infoOp _ _ _ _) <;> rfl)
 try simp only [Act.put, pq]
 refine wpAnyH_ready (rs := [6]) (by kernel_rfl) (by simp) ?_
 refine AllReadyH.cons (o := _) rfl (fun K hK => ?_) (AllReadyH.nil)
 go_simp
 go_at_call 145
 refine (carry_any _ _ _ _ _).mono ?_
 rintro e w5 ⟨rfl, hK5⟩
 have hN := (show (fun w' => Kept w w' ∧ Has w.heap.size (A.opnd s b n u) 150 w' ∧ HasN (w.heap.size + 1) 23 147 w') _ from ⟨hHeld.1.trans hK5, hHeld.2.1.kept hK5, hHeld.2.2.kept hK5⟩)
 clear hHeld
 refine hK.out _ _ hN (fun hHeld => ?_)
 clear hK K hN
 try simp only [Act.put, pq]
 refine wpAnyH_ready (rs := [7]) (by kernel_rfl) (by simp) ?_
 refine AllReadyH.cons (o := _) rfl (fun K hK => ?_) (AllReadyH.nil)
 go_simp
 go_at_call 147
 refine (sub_any b n (u && s.c) h0 h1 h2 h3 _).mono ?_
 rintro e w5 ⟨rfl, rfl⟩
 have hN := (show (fun w' => Kept w w' ∧ Has w.heap.size (A.opnd s b n u) 150 w' ∧ HasN (w.heap.size + 1) 23 147 w') _ from hHeld)
 clear hHeld
 refine hK.out _ _ hN (fun hHeld => ?_)
 clear hK K hN
 try simp only [Act.put, pq]
 refine tk 8 _ (v := ?_) hHeld ?_ (tk 9 _ (v := ?_) hHeld ?_ (tk 10 _ (v := ?_) hHeld ?_ ?_))
 all_goals try (intro wz hSw; (try dsimp only at hSw); have q1 := hSw.2.1.cell 21 _ (A.opnd_b _ _ _ _); have q2 := hSw.2.1.cell 22 _ (A.opnd_nn _ _ _ _); have q3 := hSw.2.1.cell 23 _ (A.opnd_u _ _ _ _); go_simp; with_reducible rfl)
 try simp only [Act.put, pq]
 refine wpAnyH_ready (rs := [11]) (by kernel_rfl) (by simp) ?_
 refine AllReadyH.cons (o := _) rfl (fun K hK => ?_) (AllReadyH.nil)
 go_simp
 go_at_call 143
 refine (withFlags_any _ _ _ _ _ _ _ _).mono ?_
 rintro e w5 ⟨rfl, hK5⟩
 have hN := (show (fun w' => Kept w w' ∧ Has w.heap.size (A.opnd s b n u) 150 w' ∧ HasN (w.heap.size + 1) 23 147 w') _ from ⟨hHeld.1.trans hK5, hHeld.2.1.kept hK5, hHeld.2.2.kept hK5⟩)
 clear hHeld
 refine hK.out _ _ hN (fun hHeld => ?_)
 clear hK K hN
 try simp only [Act.put, pq]
 refine wpAnyH_ready (rs := [12]) (by kernel_rfl) (by simp) ?_
 refine AllReadyH.cons (o := _) rfl (fun K hK => ?_) (AllReadyH.nil)
 obtain ⟨old, hold, hR⟩ := hHeld.2.2
 refine wp_store_row (o := ⟨none, .store 147 (.tmp 2) (.tmp 14), 0, "alu.go:82", #[eD 11, eC 11, eP 0, eP 1, eP 2, eP 3, eP 4, eP 5, eP 6, eP 7, eP 8, eP 9, eP 10, eP 11], none⟩) 147 _ _ rfl _ (A.outc (W.low (b - n - W.one (u && s.c))) (A.setV (A.setC s (W.neg (b - n - W.one (u && s.c)))) (!W.inS (W.sgn b - W.sgn n - W.one (u && s.c)))) 0) ?_ ?_ 147 old hR (A.infoOut _ _ _) hold (A.one_outc _ _ _) ?_
 · rfl
 · rfl
 have hN := (show (fun w' => Kept w w' ∧ Has w.heap.size (A.opnd s b n u) 150 w' ∧ HasN (w.heap.size + 1) 23 147 w') _ from ⟨hHeld.1.row (by omega) _, hHeld.2.1.rowOther (by omega) _, ⟨(A.outc (W.low (b - n - W.one (u && s.c))) (A.setV (A.setC s (W.neg (b - n - W.one (u && s.c)))) (!W.inS (W.sgn b - W.sgn n - W.one (u && s.c)))) 0), A.size_outc _ _ _, Has.row hR _⟩⟩)
 clear hHeld
 refine hK.out _ _ hN (fun hHeld => ?_)
 clear hK K hN
 try simp only [Act.put, pq]
 refine wpAnyH_done (by kernel_rfl) ?_ _
 have hR5 := Has.row hR
 clear hR
 go_wp2_with fail
 exact bodyPost_ret (results_has rfl (w.heap.size + 1) rfl (hR5 _) Tryz.underlying147 rfl (A.infoOut _ _ _)) rfl ⟨rfl, hHeld.1⟩
set_option maxHeartbeats 1000000 in
theorem mul_work (s : A.Regs) (b n : Int) (u : Bool) (h0 : 0 ≤ b) (h1 : b < 4294967296) (h2 : 0 ≤ n) (h3 : n < 4294967296) (w : World) :
 Calls Tryz.prog 148 #[.agg (A.opnd s b n u)] w fun e w' => e = .returned (.agg (A.outc (W.low (W.prod u b n)) (A.setH s (W.low (W.prod u b n / 4294967296))) 0)) ∧ Kept w w' := by
 have hS0 : (fun w' => Kept w w' ∧ Has w.heap.size (A.opnd s b n u) 150 w' ∧ HasN (w.heap.size + 1) 23 147 w') ((w.alloc (.cells (A.opnd s b n u) 150)).alloc (.cells (A.outc 0 A.none' 0) 147)) := ⟨((Kept.refl w).alloc _ _).alloc _ _, (Has.new _ _ _).alloc _, ⟨_, rfl, Has.new1 _ _ _ _⟩⟩
 have HS0 := Lib.hid hS0
 clear hS0
 go_enter Tryz.func148, Tryz.ntmps148
 go_wp2_with fail
 refine wp_region_held_drew (S := fun w' => Kept w w' ∧ Has w.heap.size (A.opnd s b n u) 150 w' ∧ HasN (w.heap.size + 1) 23 147 w') (by kernel_rfl) ?_ (fun hHeld => ?_)
 · exact ⟨HS0.out.1.drew, HS0.out.2.1.drew, HS0.out.2.2⟩
 refine tk 0 _ (v := ?_) hHeld ?_ ?_
 rotate_left
 · (intro wz hSw; refine exec_load_has 150 (Operand.tmp 1) ?_ _ ?_ hSw.2.1 Tryz.underlying150 rfl (A.infoOp _ _ _ _) <;> rfl)
 try simp only [Act.put, pq]
 refine tk 1 _ (v := ?_) hHeld ?_ (tk 2 _ (v := ?_) hHeld ?_ (tk 3 _ (v := ?_) hHeld ?_ (tk 4 _ (v := ?_) hHeld ?_ (tk 5 _ (v := ?_) hHeld ?_ (tk 6 _ (v := ?_) hHeld ?_ ?_)))))
 all_goals try (intro wz hSw; (try dsimp only at hSw); have q1 := hSw.2.1.cell 21 _ (A.opnd_b _ _ _ _); have q2 := hSw.2.1.cell 22 _ (A.opnd_nn _ _ _ _); have q3 := hSw.2.1.cell 23 _ (A.opnd_u _ _ _ _); go_simp; with_reducible rfl)
 try simp only [Act.put, pq]
 refine wpAnyH_ready (rs := [7]) (by kernel_rfl) (by simp) ?_
 refine AllReadyH.cons (o := _) rfl (fun K hK => ?_) (AllReadyH.nil)
 go_simp
 go_at_call 150
 refine (mul_any b n u h0 h1 h2 h3 _).mono ?_
 rintro e w5 ⟨rfl, rfl⟩
 have hN := (show (fun w' => Kept w w' ∧ Has w.heap.size (A.opnd s b n u) 150 w' ∧ HasN (w.heap.size + 1) 23 147 w') _ from hHeld)
 clear hHeld
 refine hK.out _ _ hN (fun hHeld => ?_)
 clear hK K hN
 try simp only [Act.put, pq]
 refine tk 8 _ (v := ?_) hHeld ?_ (tk 9 _ (v := ?_) hHeld ?_ ?_)
 all_goals try (intro wz hSw; (try dsimp only at hSw); have q1 := hSw.2.1.cell 21 _ (A.opnd_b _ _ _ _); have q2 := hSw.2.1.cell 22 _ (A.opnd_nn _ _ _ _); have q3 := hSw.2.1.cell 23 _ (A.opnd_u _ _ _ _); go_simp; with_reducible rfl)
 try simp only [Act.put, pq]
 refine wpAnyH_ready (rs := [10]) (by kernel_rfl) (by simp) ?_
 refine AllReadyH.cons (o := _) rfl (fun K hK => ?_) (AllReadyH.nil)
 go_simp
 go_at_call 149
 refine (withHigh_any _ _ _ _ _ _ _).mono ?_
 rintro e w5 ⟨rfl, hK5⟩
 have hN := (show (fun w' => Kept w w' ∧ Has w.heap.size (A.opnd s b n u) 150 w' ∧ HasN (w.heap.size + 1) 23 147 w') _ from ⟨hHeld.1.trans hK5, hHeld.2.1.kept hK5, hHeld.2.2.kept hK5⟩)
 clear hHeld
 refine hK.out _ _ hN (fun hHeld => ?_)
 clear hK K hN
 try simp only [Act.put, pq]
 refine wpAnyH_ready (rs := [11]) (by kernel_rfl) (by simp) ?_
 refine AllReadyH.cons (o := _) rfl (fun K hK => ?_) (AllReadyH.nil)
 obtain ⟨old, hold, hR⟩ := hHeld.2.2
 refine wp_store_row (o := ⟨none, .store 147 (.tmp 2) (.tmp 13), 0, "alu.go:83", #[eD 10, eC 10, eP 0, eP 1, eP 2, eP 3, eP 4, eP 5, eP 6, eP 7, eP 8, eP 9, eP 10], none⟩) 147 _ _ rfl _ (A.outc (W.low (W.prod u b n)) (A.setH s (W.low (W.prod u b n / 4294967296))) 0) ?_ ?_ 147 old hR (A.infoOut _ _ _) hold (A.one_outc _ _ _) ?_
 · rfl
 · rfl
 have hN := (show (fun w' => Kept w w' ∧ Has w.heap.size (A.opnd s b n u) 150 w' ∧ HasN (w.heap.size + 1) 23 147 w') _ from ⟨hHeld.1.row (by omega) _, hHeld.2.1.rowOther (by omega) _, ⟨(A.outc (W.low (W.prod u b n)) (A.setH s (W.low (W.prod u b n / 4294967296))) 0), A.size_outc _ _ _, Has.row hR _⟩⟩)
 clear hHeld
 refine hK.out _ _ hN (fun hHeld => ?_)
 clear hK K hN
 try simp only [Act.put, pq]
 refine wpAnyH_done (by kernel_rfl) ?_ _
 have hR5 := Has.row hR
 clear hR
 go_wp2_with fail
 exact bodyPost_ret (results_has rfl (w.heap.size + 1) rfl (hR5 _) Tryz.underlying147 rfl (A.infoOut _ _ _)) rfl ⟨rfl, hHeld.1⟩
theorem A.builtTrap : Tryz.prog.built 147 [(2, .int .i64 5)] = some (A.outc 0 A.none' 5) := by
 rw [built_of A.shapeOut]
 simp [Instr.fill, Value.cells, A.none', A.outc]
theorem divide_no (s : A.Regs) (b n : Int) (u : Bool) (h0 : 0 ≤ b) (h1 : b < 4294967296) (h2 : 0 ≤ n) (h3 : n < 4294967296) (hn : W.sgn n ≤ 0) (w : World) :
 Calls Tryz.prog 151 #[.agg (A.opnd s b n u)] w fun e w' => e = .returned (.agg (A.outc 0 A.none' 5)) ∧ Kept w w' := by
 go_enter Tryz.func151, Tryz.ntmps151
 go_wp2_with (first
  | ((with_reducible refine build_has (o := ⟨some 17, _, _, _, _, _⟩) rfl 147 _ rfl (A.outc 0 A.none' 5) ?hf17 ?_); (case hf17 => (go_simp; exact A.builtTrap)))
  | (with_reducible refine store_last (o := ⟨none, Op.store 147 _ _, _, _, _, _⟩) rfl 147 _ _ rfl _ _ rfl rfl (by simp) (A.infoOut _ _ _) (by kernel_rfl) (A.one_outc _ _ _) ?_)
  | (go_at_call 155; refine (div_no b n h0 h1 h2 h3 hn _).mono ?_; rintro e w2 ⟨rfl, rfl⟩))
 exact bodyPost_ret (results_has rfl (w.heap.size + 1) rfl (Has.new1 _ _ _ _) Tryz.underlying147 rfl (A.infoOut _ _ _)) rfl ⟨rfl, ((Kept.refl w).alloc _ _).alloc _ _⟩
theorem divide_yes (s : A.Regs) (b n : Int) (u : Bool) (h0 : 0 ≤ b) (h1 : b < 4294967296) (h2 : 0 ≤ n) (h3 : n < 4294967296) (hn : 0 < W.sgn n) (w : World) :
 Calls Tryz.prog 151 #[.agg (A.opnd s b n u)] w fun e w' => e = .returned (.agg (A.outc (W.low (W.sgn b / W.sgn n)) (A.setH s (W.low (W.sgn b % W.sgn n))) 0)) ∧ Kept w w' := by
 go_enter Tryz.func151, Tryz.ntmps151
 go_wp2_with (first
  | (with_reducible refine load_has (o := ⟨some 18, _, _, _, _, _⟩) rfl 150 _ rfl _ rfl ((Has.new _ _ _).alloc _).drew Tryz.underlying150 rfl (A.infoOp _ _ _ _) ?_)
  | (with_reducible refine store_has (o := ⟨none, Op.store 147 _ _, _, _, _, _⟩) rfl 147 _ _ rfl _ _ rfl rfl (by assumption) (A.infoOut _ _ _) (by kernel_rfl) (A.one_outc _ _ _) ?_)
  | (go_at_call 155; refine (div_yes b n h0 h1 h2 h3 hn _).mono ?_; rintro e w2 ⟨rfl, rfl⟩)
  | (go_at_call 149; (refine (withHigh_any _ _ _ _ _ _ _).mono ?_; rintro e w2 ⟨rfl, hK2⟩); (have hX := (Has.new1 _ _ _ _).drew.kept hK2); (have hK := ((((Kept.refl w).alloc _ _).alloc _ _).drew).trans hK2); clear hK2))
 exact bodyPost_ret (results_has rfl (w.heap.size + 1) rfl (hX.row _) Tryz.underlying147 rfl (A.infoOut _ _ _)) rfl ⟨rfl, hK.row (by omega) _⟩
def A.fl (s : A.Regs) : Nat → Int
 | 0 => 0
 | 1 => if s.n then 2147483648 else 0
 | 2 => (if s.n then 2147483648 else 0) + (if s.z then 1073741824 else 0)
 | 3 => (if s.n then 2147483648 else 0) + (if s.z then 1073741824 else 0) + (if s.c then 536870912 else 0)
 | _ => (if s.n then 2147483648 else 0) + (if s.z then 1073741824 else 0) + (if s.c then 536870912 else 0) + (if s.v then 268435456 else 0)
def A.flg (s : A.Regs) : Int := A.fl s 4
theorem A.fl_lo (s : A.Regs) (k : Nat) : 0 ≤ A.fl s k := by
 unfold A.fl; split <;> (repeat' split) <;> omega
theorem A.fl_hi (s : A.Regs) (k : Nat) : A.fl s k < 4294967296 := by
 unfold A.fl; split <;> (repeat' split) <;> omega
theorem A.or0 (s : A.Regs) (h : s.n = true) : bits BinOp.or IntKind.u32 (A.fl s 0) 2147483648 = A.fl s 1 := by
 obtain ⟨r, h', n, z, c, v⟩ := s
 cases n <;> cases z <;> cases c <;> cases v <;> first | (simp at h; done) | (simp only [A.fl, if_true, Bool.false_eq_true, if_false]; decide)
theorem A.no0 (s : A.Regs) (h : s.n = false) : A.fl s 0 = A.fl s 1 := by
 obtain ⟨r, h', n, z, c, v⟩ := s
 cases n <;> cases z <;> cases c <;> cases v <;> first | (simp at h; done) | rfl
theorem A.or1 (s : A.Regs) (h : s.z = true) : bits BinOp.or IntKind.u32 (A.fl s 1) 1073741824 = A.fl s 2 := by
 obtain ⟨r, h', n, z, c, v⟩ := s
 cases n <;> cases z <;> cases c <;> cases v <;> first | (simp at h; done) | (simp only [A.fl, if_true, Bool.false_eq_true, if_false]; decide)
theorem A.no1 (s : A.Regs) (h : s.z = false) : A.fl s 1 = A.fl s 2 := by
 obtain ⟨r, h', n, z, c, v⟩ := s
 cases n <;> cases z <;> cases c <;> cases v <;> first | (simp at h; done) | rfl
theorem A.or2 (s : A.Regs) (h : s.c = true) : bits BinOp.or IntKind.u32 (A.fl s 2) 536870912 = A.fl s 3 := by
 obtain ⟨r, h', n, z, c, v⟩ := s
 cases n <;> cases z <;> cases c <;> cases v <;> first | (simp at h; done) | (simp only [A.fl, if_true, Bool.false_eq_true, if_false]; decide)
theorem A.no2 (s : A.Regs) (h : s.c = false) : A.fl s 2 = A.fl s 3 := by
 obtain ⟨r, h', n, z, c, v⟩ := s
 cases n <;> cases z <;> cases c <;> cases v <;> first | (simp at h; done) | rfl
theorem A.or3 (s : A.Regs) (h : s.v = true) : bits BinOp.or IntKind.u32 (A.fl s 3) 268435456 = A.fl s 4 := by
 obtain ⟨r, h', n, z, c, v⟩ := s
 cases n <;> cases z <;> cases c <;> cases v <;> first | (simp at h; done) | (simp only [A.fl, if_true, Bool.false_eq_true, if_false]; decide)
theorem A.no3 (s : A.Regs) (h : s.v = false) : A.fl s 3 = A.fl s 4 := by
 obtain ⟨r, h', n, z, c, v⟩ := s
 cases n <;> cases z <;> cases c <;> cases v <;> first | (simp at h; done) | rfl
def A.FlRel (s : A.Regs) (x i : Value) : Prop := (i = .int .i64 0 ∧ x = .int .u32 (A.fl s 0)) ∨ (i = .int .i64 1 ∧ x = .int .u32 (A.fl s 1)) ∨ (i = .int .i64 2 ∧ x = .int .u32 (A.fl s 2)) ∨ (i = .int .i64 3 ∧ x = .int .u32 (A.fl s 3)) ∨ (i = .int .i64 4 ∧ x = .int .u32 (A.fl s 4))
theorem A.at0 (p q r t : Value) : (#[p, q, r, t] : Array Value)[Int.toNat 0]? = some p := rfl
theorem A.at1 (p q r t : Value) : (#[p, q, r, t] : Array Value)[Int.toNat 1]? = some q := rfl
theorem A.at2 (p q r t : Value) : (#[p, q, r, t] : Array Value)[Int.toNat 2]? = some r := rfl
theorem A.at3 (p q r t : Value) : (#[p, q, r, t] : Array Value)[Int.toNat 3]? = some t := rfl
set_option maxHeartbeats 2000000 in
theorem flags_any (s : A.Regs) (b n : Int) (u : Bool) (w : World) :
 Calls Tryz.prog 125 #[.agg (A.opnd s b n u)] w fun e w' => e = .returned (.agg (A.outc (A.flg s) s 0)) ∧ Kept w w' := by
 have l0 := A.fl_lo s 0
 have l1 := A.fl_lo s 1
 have l2 := A.fl_lo s 2
 have l3 := A.fl_lo s 3
 have g0 := A.fl_hi s 0
 have g1 := A.fl_hi s 1
 have g2 := A.fl_hi s 2
 have g3 := A.fl_hi s 3
 have e0 := Lib.hid (A.or0 s)
 have e1 := Lib.hid (A.or1 s)
 have e2 := Lib.hid (A.or2 s)
 have e3 := Lib.hid (A.or3 s)
 have d0 := Lib.hid (A.no0 s)
 have d1 := Lib.hid (A.no1 s)
 have d2 := Lib.hid (A.no2 s)
 have d3 := Lib.hid (A.no3 s)
 go_enter Tryz.func125, Tryz.ntmps125
 go_wp2_with fail
 go_loop [3, 19] (fun x i => A.FlRel s x i) (fun _ i => 4 - (intOf i).toNat)
 case atStart => exact Or.inl ⟨rfl, rfl⟩
 case round =>
  rcases hrel with ⟨rfl, rfl⟩ | ⟨rfl, rfl⟩ | ⟨rfl, rfl⟩ | ⟨rfl, rfl⟩ | ⟨rfl, rfl⟩
  · by_cases hb : s.n = true
    · have E := Lib.hid (e0.out hb)
      go_wp2_with (first | (with_reducible refine index_cell (o := ⟨some 22, _, _, _, _, _⟩) rfl 165 _ _ rfl _ _ _ rfl rfl Tryz.underlying165 (by decide) (by decide) Tryz.underlying4 rfl (by kernel_rfl) (A.at0 _ _ _ _) ?_))
      go_round
      case rel => exact ⟨_, _, _, _, Or.inr (Or.inl ⟨rfl, rfl⟩), by rw [E.out], rfl, rfl, rfl⟩
      case measure => simp [intOf]
    · have hb' : s.n = false := by simpa using hb
      have E := Lib.hid (d0.out hb')
      clear hb
      go_wp2_with (first | (with_reducible refine index_cell (o := ⟨some 22, _, _, _, _, _⟩) rfl 165 _ _ rfl _ _ _ rfl rfl Tryz.underlying165 (by decide) (by decide) Tryz.underlying4 rfl (by kernel_rfl) (A.at0 _ _ _ _) ?_))
      go_round
      case rel => exact ⟨_, _, _, _, Or.inr (Or.inl ⟨rfl, rfl⟩), by rw [E.out], rfl, rfl, rfl⟩
      case measure => simp [intOf]
  · by_cases hb : s.z = true
    · have E := Lib.hid (e1.out hb)
      go_wp2_with (first | (with_reducible refine index_cell (o := ⟨some 22, _, _, _, _, _⟩) rfl 165 _ _ rfl _ _ _ rfl rfl Tryz.underlying165 (by decide) (by decide) Tryz.underlying4 rfl (by kernel_rfl) (A.at1 _ _ _ _) ?_))
      go_round
      case rel => exact ⟨_, _, _, _, Or.inr (Or.inr (Or.inl ⟨rfl, rfl⟩)), by rw [E.out], rfl, rfl, rfl⟩
      case measure => simp [intOf]
    · have hb' : s.z = false := by simpa using hb
      have E := Lib.hid (d1.out hb')
      clear hb
      go_wp2_with (first | (with_reducible refine index_cell (o := ⟨some 22, _, _, _, _, _⟩) rfl 165 _ _ rfl _ _ _ rfl rfl Tryz.underlying165 (by decide) (by decide) Tryz.underlying4 rfl (by kernel_rfl) (A.at1 _ _ _ _) ?_))
      go_round
      case rel => exact ⟨_, _, _, _, Or.inr (Or.inr (Or.inl ⟨rfl, rfl⟩)), by rw [E.out], rfl, rfl, rfl⟩
      case measure => simp [intOf]
  · by_cases hb : s.c = true
    · have E := Lib.hid (e2.out hb)
      go_wp2_with (first | (with_reducible refine index_cell (o := ⟨some 22, _, _, _, _, _⟩) rfl 165 _ _ rfl _ _ _ rfl rfl Tryz.underlying165 (by decide) (by decide) Tryz.underlying4 rfl (by kernel_rfl) (A.at2 _ _ _ _) ?_))
      go_round
      case rel => exact ⟨_, _, _, _, Or.inr (Or.inr (Or.inr (Or.inl ⟨rfl, rfl⟩))), by rw [E.out], rfl, rfl, rfl⟩
      case measure => simp [intOf]
    · have hb' : s.c = false := by simpa using hb
      have E := Lib.hid (d2.out hb')
      clear hb
      go_wp2_with (first | (with_reducible refine index_cell (o := ⟨some 22, _, _, _, _, _⟩) rfl 165 _ _ rfl _ _ _ rfl rfl Tryz.underlying165 (by decide) (by decide) Tryz.underlying4 rfl (by kernel_rfl) (A.at2 _ _ _ _) ?_))
      go_round
      case rel => exact ⟨_, _, _, _, Or.inr (Or.inr (Or.inr (Or.inl ⟨rfl, rfl⟩))), by rw [E.out], rfl, rfl, rfl⟩
      case measure => simp [intOf]
  · by_cases hb : s.v = true
    · have E := Lib.hid (e3.out hb)
      go_wp2_with (first | (with_reducible refine index_cell (o := ⟨some 22, _, _, _, _, _⟩) rfl 165 _ _ rfl _ _ _ rfl rfl Tryz.underlying165 (by decide) (by decide) Tryz.underlying4 rfl (by kernel_rfl) (A.at3 _ _ _ _) ?_))
      go_round
      case rel => exact ⟨_, _, _, _, Or.inr (Or.inr (Or.inr (Or.inr ⟨rfl, rfl⟩))), by rw [E.out], rfl, rfl, rfl⟩
      case measure => simp [intOf]
    · have hb' : s.v = false := by simpa using hb
      have E := Lib.hid (d3.out hb')
      clear hb
      go_wp2_with (first | (with_reducible refine index_cell (o := ⟨some 22, _, _, _, _, _⟩) rfl 165 _ _ rfl _ _ _ rfl rfl Tryz.underlying165 (by decide) (by decide) Tryz.underlying4 rfl (by kernel_rfl) (A.at3 _ _ _ _) ?_))
      go_round
      case rel => exact ⟨_, _, _, _, Or.inr (Or.inr (Or.inr (Or.inr ⟨rfl, rfl⟩))), by rw [E.out], rfl, rfl, rfl⟩
      case measure => simp [intOf]
  · go_wp2_with (first
     | (with_reducible refine load_has (o := ⟨some 30, _, _, _, _, _⟩) rfl 150 _ rfl _ rfl ((Has.new _ _ _).alloc _) Tryz.underlying150 rfl (A.infoOp _ _ _ _) ?_)
     | (with_reducible refine store_has (o := ⟨none, Op.store 147 _ _, _, _, _, _⟩) rfl 147 _ _ rfl _ _ rfl rfl (by assumption) (A.infoOut _ _ _) (by kernel_rfl) (A.one_outc _ _ _) ?_)
     | (go_at_call 131; (refine (just_any _ _ _ _ _ _).mono ?_; rintro e w2 ⟨rfl, hK2⟩); (have hX := (Has.new1 _ _ _ _).kept hK2); (have hK := (((Kept.refl w).alloc _ _).alloc _ _).trans hK2); clear hK2))
    exact bodyPost_ret (results_has rfl (w.heap.size + 1) rfl (hX.row _) Tryz.underlying147 rfl (A.infoOut _ _ _)) rfl ⟨rfl, hK.row (by omega) _⟩
structure Two (Bp Bw : Nat) (p x : Int) (w : World) : Prop where
 hp : w.heap[Bp]? = some (.cells #[.int .u32 p] 43 (0, 0))
 hx : w.heap[Bw]? = some (.cells #[.int .u32 x] 43 (0, 0))
 ne : Bw ≠ Bp
theorem Two.store {Bp Bw : Nat} {p x : Int} {w : World} (h : Two Bp Bw p x w) (q : Int) : Two Bp Bw q x (w.setCell ⟨Bp, 0, none⟩ (.int .u32 q)) :=
 ⟨one_setCell h.hp, heap_setCell_keep h.hx h.ne _, h.ne⟩
theorem Two.drew {Bp Bw : Nat} {p x : Int} {w : World} (h : Two Bp Bw p x w) : Two Bp Bw p x w.drew := ⟨h.hp, h.hx, h.ne⟩
set_option maxHeartbeats 400000 in
theorem get1_any (i pl p x : Int) (B Bp Bw : Nat) (hi : 0 ≤ i) (hi' : i < 32) (hp0 : 0 ≤ pl) (hB : B ≤ Bp) (w : World) (h : Two Bp Bw p x w) :
 Calls Tryz.prog 112 #[.int .i64 i, .int .u64 pl, .pointer (some ⟨Bp, 0, none⟩), .pointer (some ⟨Bw, 0, none⟩)] w fun e w' =>
  e = .returned (.tuple #[]) ∧ Two Bp Bw (F.gval p x i pl) x w' ∧ KeptB B w w' := by
 have c1 := cell_of_one h.hp
 have c2 := cell_of_one h.hx
 have f1 := free_of_one h.hp
 go_enter Tryz.func112, Tryz.ntmps112
 go_region
 go_end0
 exact ⟨rfl, (h.store _).drew, ((KeptB.refl B w).setCell hB _).drew⟩
set_option maxHeartbeats 400000 in
theorem set1_any (i pl p x : Int) (B Bp Bw : Nat) (hi : 0 ≤ i) (hi' : i < 32) (hp0 : 0 ≤ pl) (hB : B ≤ Bp) (w : World) (h : Two Bp Bw p x w) :
 Calls Tryz.prog 127 #[.int .i64 i, .int .u64 pl, .pointer (some ⟨Bp, 0, none⟩), .pointer (some ⟨Bw, 0, none⟩)] w fun e w' =>
  e = .returned (.tuple #[]) ∧ Two Bp Bw (F.sval p x i pl) x w' ∧ KeptB B w w' := by
 have c1 := cell_of_one h.hp
 have c2 := cell_of_one h.hx
 have f1 := free_of_one h.hp
 go_enter Tryz.func127, Tryz.ntmps127
 go_region
 go_end0
 exact ⟨rfl, (h.store _).drew, ((KeptB.refl B w).setCell hB _).drew⟩
set_option maxHeartbeats 1000000 in
theorem eachGet_any (a n x : Int) (B Bp Bw : Nat) (ha0 : -9223372036854775808 ≤ a) (ha1 : a ≤ 9223372036854775807) (hn1 : n ≤ 9223372036854775807) (hx0 : 0 ≤ x) (hx1 : x < 4294967296) (hB : B ≤ Bp) (w : World) (h : Two Bp Bw 0 x w) :
 Calls Tryz.prog 111 #[.int .i64 a, .int .i64 n, .func (.func 112) #[] #[.pointer (some ⟨Bp, 0, none⟩), .pointer (some ⟨Bw, 0, none⟩)]] w fun e w' =>
  e = .returned (.tuple #[]) ∧ Two Bp Bw (F.get x a n) x w' ∧ KeptB B w w' := by
 have hmf : ∀ (fn : Fn) (first cap : Array Value) (w : World), (Instr.makeFunc fn first cap).run Tryz.prog w = .ok (.func fn first cap) w := fun _ _ _ _ => rfl
 by_cases hn : n < 1
 · have H0 := Lib.hid (show Two Bp Bw (F.get x a n) x w from by rw [F.get, F.get_end x.toNat a n 0 32 (by omega) (by omega), F.get_start x.toNat a n 0 (by omega)]; exact h)
   go_enter Tryz.func111, Tryz.ntmps111
   go_wp2
   (try simp only [Exit.inBlock, Exit.then]); refine bodyPost_ret (results_none rfl _ _ _) rfl ?_
   exact ⟨rfl, H0.out, KeptB.refl _ _⟩
 · have hn' : 1 ≤ n := by omega
   rcases (show a < 0 ∨ 0 ≤ a by omega) with hneg | hneg
   · have H0 := Lib.hid (show Two Bp Bw (F.getP x.toNat a n 0 : Nat) x w from by rw [F.get_start x.toNat a n 0 (by omega)]; exact h)
     clear h hn
     go_enter Tryz.func111, Tryz.ntmps111
     go_wp2_with fail
     go_loopw [6] (fun i wr => ∃ k : Int, 0 ≤ k ∧ a ≤ k ∧ (k ≤ 32 ∨ k ≤ a) ∧ i = .int .i64 k ∧ Two Bp Bw (F.getP x.toNat a n k : Nat) x wr ∧ KeptB B w wr) (fun i _ => (32 - intOf i).toNat)
     case atStart => exact ⟨_, by omega, by omega, by omega, rfl, H0.out, KeptB.refl _ _⟩
     case round =>
      obtain ⟨k, hk0, hka, hk1, rfl, hT, hK⟩ := hrel
      clear H0
      by_cases hlt : k < 32
      · by_cases hin : k - a < n
        · have Hs := Lib.hid (F.get_stepI x a n k hx0 hx1 hk0 hlt hka hin)
          (try have hpl := F.place_neg k a hneg ha0 hk0 hlt)
          go_wp2_with fail
          refine (get1_any k (k - a) _ x B Bp Bw hk0 hlt (by omega) hB _ hT).mono ?_
          rintro e w2 ⟨rfl, hT2, hK2⟩
          rw [Hs.out] at hT2
          (try clear hpl)
          go_wp2_with fail
          go_roundw
          case rel => exact ⟨k + 1, by omega, by omega, by omega, rfl, hT2, hK.trans hK2⟩
          case measure => simp [intOf]; omega
        · have He := Lib.hid (show F.get x a n = (F.getP x.toNat a n k : Nat) from by rw [F.get, F.get_end x.toNat a n k 32 (by omega) (by omega)])
          (try have hpl := F.place_neg k a hneg ha0 hk0 hlt)
          go_wp2_with fail
          (try simp only [Exit.inBlock, Exit.then]); refine bodyPost_ret (results_none rfl _ _ _) rfl ?_
          exact ⟨rfl, by rw [He.out]; exact hT, hK⟩
      · have He := Lib.hid (show F.get x a n = (F.getP x.toNat a n k : Nat) from by rw [F.get]; rcases (show k = 32 ∨ k ≤ a by omega) with e | e; (rw [e]); (rw [F.get_end x.toNat a n 32 k (by omega) (by omega)]))
        go_wp2_with fail
        go_end0
        exact ⟨rfl, by rw [He.out]; exact hT, hK⟩
   · have H0 := Lib.hid (show Two Bp Bw (F.getP x.toNat a n a : Nat) x w from by rw [F.get_start x.toNat a n a (by omega)]; exact h)
     clear h hn
     go_enter Tryz.func111, Tryz.ntmps111
     go_wp2_with fail
     go_loopw [6] (fun i wr => ∃ k : Int, 0 ≤ k ∧ a ≤ k ∧ (k ≤ 32 ∨ k ≤ a) ∧ i = .int .i64 k ∧ Two Bp Bw (F.getP x.toNat a n k : Nat) x wr ∧ KeptB B w wr) (fun i _ => (32 - intOf i).toNat)
     case atStart => exact ⟨_, by omega, by omega, by omega, rfl, H0.out, KeptB.refl _ _⟩
     case round =>
      obtain ⟨k, hk0, hka, hk1, rfl, hT, hK⟩ := hrel
      clear H0
      by_cases hlt : k < 32
      · by_cases hin : k - a < n
        · have Hs := Lib.hid (F.get_stepI x a n k hx0 hx1 hk0 hlt hka hin)
          (try have hpl := F.place_neg k a hneg ha0 hk0 hlt)
          go_wp2_with fail
          refine (get1_any k (k - a) _ x B Bp Bw hk0 hlt (by omega) hB _ hT).mono ?_
          rintro e w2 ⟨rfl, hT2, hK2⟩
          rw [Hs.out] at hT2
          (try clear hpl)
          go_wp2_with fail
          go_roundw
          case rel => exact ⟨k + 1, by omega, by omega, by omega, rfl, hT2, hK.trans hK2⟩
          case measure => simp [intOf]; omega
        · have He := Lib.hid (show F.get x a n = (F.getP x.toNat a n k : Nat) from by rw [F.get, F.get_end x.toNat a n k 32 (by omega) (by omega)])
          (try have hpl := F.place_neg k a hneg ha0 hk0 hlt)
          go_wp2_with fail
          (try simp only [Exit.inBlock, Exit.then]); refine bodyPost_ret (results_none rfl _ _ _) rfl ?_
          exact ⟨rfl, by rw [He.out]; exact hT, hK⟩
      · have He := Lib.hid (show F.get x a n = (F.getP x.toNat a n k : Nat) from by rw [F.get]; rcases (show k = 32 ∨ k ≤ a by omega) with e | e; (rw [e]); (rw [F.get_end x.toNat a n 32 k (by omega) (by omega)]))
        go_wp2_with fail
        go_end0
        exact ⟨rfl, by rw [He.out]; exact hT, hK⟩
set_option maxHeartbeats 1000000 in
theorem eachSet_any (a n y x : Int) (B Bp Bw : Nat) (ha0 : -9223372036854775808 ≤ a) (ha1 : a ≤ 9223372036854775807) (hn1 : n ≤ 9223372036854775807) (hy0 : 0 ≤ y) (hy1 : y < 4294967296) (hx0 : 0 ≤ x) (hx1 : x < 4294967296) (hB : B ≤ Bp) (w : World) (h : Two Bp Bw y x w) :
 Calls Tryz.prog 111 #[.int .i64 a, .int .i64 n, .func (.func 127) #[] #[.pointer (some ⟨Bp, 0, none⟩), .pointer (some ⟨Bw, 0, none⟩)]] w fun e w' =>
  e = .returned (.tuple #[]) ∧ Two Bp Bw (F.set y a n x) x w' ∧ KeptB B w w' := by
 have hmf : ∀ (fn : Fn) (first cap : Array Value) (w : World), (Instr.makeFunc fn first cap).run Tryz.prog w = .ok (.func fn first cap) w := fun _ _ _ _ => rfl
 by_cases hn : n < 1
 · have H0 := Lib.hid (show Two Bp Bw (F.set y a n x) x w from by rw [F.set, F.set_end y.toNat x.toNat a n 0 32 (by omega) (by omega), F.set_start y.toNat x.toNat a n 0 (by omega) (by omega), Int.toNat_of_nonneg hy0]; exact h)
   go_enter Tryz.func111, Tryz.ntmps111
   go_wp2
   (try simp only [Exit.inBlock, Exit.then]); refine bodyPost_ret (results_none rfl _ _ _) rfl ?_
   exact ⟨rfl, H0.out, KeptB.refl _ _⟩
 · have hn' : 1 ≤ n := by omega
   rcases (show a < 0 ∨ 0 ≤ a by omega) with hneg | hneg
   · have H0 := Lib.hid (show Two Bp Bw (F.setP y.toNat x.toNat a n 0 : Nat) x w from by rw [F.set_start y.toNat x.toNat a n 0 (by omega) (by omega), Int.toNat_of_nonneg hy0]; exact h)
     clear h hn
     go_enter Tryz.func111, Tryz.ntmps111
     go_wp2_with fail
     go_loopw [6] (fun i wr => ∃ k : Int, 0 ≤ k ∧ a ≤ k ∧ (k ≤ 32 ∨ k ≤ a) ∧ i = .int .i64 k ∧ Two Bp Bw (F.setP y.toNat x.toNat a n k : Nat) x wr ∧ KeptB B w wr) (fun i _ => (32 - intOf i).toNat)
     case atStart => exact ⟨_, by omega, by omega, by omega, rfl, H0.out, KeptB.refl _ _⟩
     case round =>
      obtain ⟨k, hk0, hka, hk1, rfl, hT, hK⟩ := hrel
      clear H0
      by_cases hlt : k < 32
      · by_cases hin : k - a < n
        · have Hs := Lib.hid (F.set_stepI y x a n k hx0 hx1 hk0 hlt hka hin)
          (try have hpl := F.place_neg k a hneg ha0 hk0 hlt)
          go_wp2_with fail
          refine (set1_any k (k - a) _ x B Bp Bw hk0 hlt (by omega) hB _ hT).mono ?_
          rintro e w2 ⟨rfl, hT2, hK2⟩
          rw [Hs.out] at hT2
          (try clear hpl)
          go_wp2_with fail
          go_roundw
          case rel => exact ⟨k + 1, by omega, by omega, by omega, rfl, hT2, hK.trans hK2⟩
          case measure => simp [intOf]; omega
        · have He := Lib.hid (show F.set y a n x = (F.setP y.toNat x.toNat a n k : Nat) from by rw [F.set, F.set_end y.toNat x.toNat a n k 32 (by omega) (by omega)])
          (try have hpl := F.place_neg k a hneg ha0 hk0 hlt)
          go_wp2_with fail
          (try simp only [Exit.inBlock, Exit.then]); refine bodyPost_ret (results_none rfl _ _ _) rfl ?_
          exact ⟨rfl, by rw [He.out]; exact hT, hK⟩
      · have He := Lib.hid (show F.set y a n x = (F.setP y.toNat x.toNat a n k : Nat) from by rw [F.set]; rcases (show k = 32 ∨ k ≤ a by omega) with e | e; (rw [e]); (rw [F.set_end y.toNat x.toNat a n 32 k (by omega) (by omega)]))
        go_wp2_with fail
        go_end0
        exact ⟨rfl, by rw [He.out]; exact hT, hK⟩
   · have H0 := Lib.hid (show Two Bp Bw (F.setP y.toNat x.toNat a n a : Nat) x w from by rw [F.set_start y.toNat x.toNat a n a (by omega) (by omega), Int.toNat_of_nonneg hy0]; exact h)
     clear h hn
     go_enter Tryz.func111, Tryz.ntmps111
     go_wp2_with fail
     go_loopw [6] (fun i wr => ∃ k : Int, 0 ≤ k ∧ a ≤ k ∧ (k ≤ 32 ∨ k ≤ a) ∧ i = .int .i64 k ∧ Two Bp Bw (F.setP y.toNat x.toNat a n k : Nat) x wr ∧ KeptB B w wr) (fun i _ => (32 - intOf i).toNat)
     case atStart => exact ⟨_, by omega, by omega, by omega, rfl, H0.out, KeptB.refl _ _⟩
     case round =>
      obtain ⟨k, hk0, hka, hk1, rfl, hT, hK⟩ := hrel
      clear H0
      by_cases hlt : k < 32
      · by_cases hin : k - a < n
        · have Hs := Lib.hid (F.set_stepI y x a n k hx0 hx1 hk0 hlt hka hin)
          (try have hpl := F.place_neg k a hneg ha0 hk0 hlt)
          go_wp2_with fail
          refine (set1_any k (k - a) _ x B Bp Bw hk0 hlt (by omega) hB _ hT).mono ?_
          rintro e w2 ⟨rfl, hT2, hK2⟩
          rw [Hs.out] at hT2
          (try clear hpl)
          go_wp2_with fail
          go_roundw
          case rel => exact ⟨k + 1, by omega, by omega, by omega, rfl, hT2, hK.trans hK2⟩
          case measure => simp [intOf]; omega
        · have He := Lib.hid (show F.set y a n x = (F.setP y.toNat x.toNat a n k : Nat) from by rw [F.set, F.set_end y.toNat x.toNat a n k 32 (by omega) (by omega)])
          (try have hpl := F.place_neg k a hneg ha0 hk0 hlt)
          go_wp2_with fail
          (try simp only [Exit.inBlock, Exit.then]); refine bodyPost_ret (results_none rfl _ _ _) rfl ?_
          exact ⟨rfl, by rw [He.out]; exact hT, hK⟩
      · have He := Lib.hid (show F.set y a n x = (F.setP y.toNat x.toNat a n k : Nat) from by rw [F.set]; rcases (show k = 32 ∨ k ≤ a by omega) with e | e; (rw [e]); (rw [F.set_end y.toNat x.toNat a n 32 k (by omega) (by omega)]))
        go_wp2_with fail
        go_end0
        exact ⟨rfl, by rw [He.out]; exact hT, hK⟩
set_option maxHeartbeats 400000 in
theorem get_any (x a n : Int) (hx0 : 0 ≤ x) (hx1 : x < 4294967296) (ha0 : -9223372036854775808 ≤ a) (ha1 : a ≤ 9223372036854775807) (hn1 : n ≤ 9223372036854775807) (w : World) :
 Calls Tryz.prog 91 #[.int .u32 x, .int .i64 a, .int .i64 n] w fun e w' => e = .returned (.int .u32 (F.get x a n)) ∧ Kept w w' := by
 have hmf : ∀ (fn : Fn) (first cap : Array Value) (w : World), (Instr.makeFunc fn first cap).run Tryz.prog w = .ok (.func fn first cap) w := fun _ _ _ _ => rfl
 have T0 := Lib.hid (show Two (w.heap.size + 1) w.heap.size 0 x ((w.alloc (.cells #[.int .u32 x] 43)).alloc (.cells #[.int .u32 0] 43)) from
  ⟨by have := heap_alloc_last (w.alloc (.cells #[.int .u32 x] 43)) (.cells #[.int .u32 0] 43); simpa using this, heap_alloc_keep (heap_alloc_last w _) _, by omega⟩)
 have K0 := Lib.hid ((((Kept.refl w).alloc #[.int .u32 x] 43).alloc #[.int .u32 0] 43))
 go_enter Tryz.func91, Tryz.ntmps91
 go_wp2_with fail
 refine (eachGet_any a n x w.heap.size _ _ ha0 ha1 hn1 hx0 hx1 (by omega) _ T0.out).mono ?_
 rintro e w2 ⟨rfl, hT, hK⟩
 have K2 := Lib.hid (K0.out.transB hK (Nat.le_refl _))
 have c1 := cell_of_one hT.hp
 clear hT hK K0 T0
 go_wp2_with fail
 go_ret
 exact ⟨rfl, K2.out⟩
set_option maxHeartbeats 400000 in
theorem set_any (y a n x : Int) (hy0 : 0 ≤ y) (hy1 : y < 4294967296) (hx0 : 0 ≤ x) (hx1 : x < 4294967296) (ha0 : -9223372036854775808 ≤ a) (ha1 : a ≤ 9223372036854775807) (hn1 : n ≤ 9223372036854775807) (w : World) :
 Calls Tryz.prog 113 #[.int .u32 y, .int .i64 a, .int .i64 n, .int .u32 x] w fun e w' => e = .returned (.int .u32 (F.set y a n x)) ∧ Kept w w' := by
 have hmf : ∀ (fn : Fn) (first cap : Array Value) (w : World), (Instr.makeFunc fn first cap).run Tryz.prog w = .ok (.func fn first cap) w := fun _ _ _ _ => rfl
 have T0 := Lib.hid (show Two w.heap.size (w.heap.size + 1) y x ((w.alloc (.cells #[.int .u32 y] 43)).alloc (.cells #[.int .u32 x] 43)) from
  ⟨heap_alloc_keep (heap_alloc_last w _) _, by have := heap_alloc_last (w.alloc (.cells #[.int .u32 y] 43)) (.cells #[.int .u32 x] 43); simpa using this, by omega⟩)
 have K0 := Lib.hid ((((Kept.refl w).alloc #[.int .u32 y] 43).alloc #[.int .u32 x] 43))
 go_enter Tryz.func113, Tryz.ntmps113
 go_wp2_with fail
 refine (eachSet_any a n y x w.heap.size _ _ ha0 ha1 hn1 hy0 hy1 hx0 hx1 (by omega) _ T0.out).mono ?_
 rintro e w2 ⟨rfl, hT, hK⟩
 have K2 := Lib.hid (K0.out.transB hK (Nat.le_refl _))
 have c1 := cell_of_one hT.hp
 clear hT hK K0 T0
 go_wp2_with fail
 go_ret
 exact ⟨rfl, K2.out⟩
set_option maxHeartbeats 400000 in
theorem bounded_any (n : Int) (w : World) :
 Calls Tryz.prog 114 #[.int .i64 n] w fun e w' => e = .returned (.int .i64 (F.clamp n)) ∧ w = w' := by
 rcases (show n < 1 ∨ 32 < n ∨ (1 ≤ n ∧ n ≤ 32) by omega) with h | h | ⟨h, h'⟩
 · have E := Lib.hid (F.clamp_1 n h)
   go_enter Tryz.func114, Tryz.ntmps114
   go_wp2
   go_ret
   exact r1 E.out.symm
 · have E := Lib.hid (F.clamp_32 n h)
   go_enter Tryz.func114, Tryz.ntmps114
   go_wp2
   go_ret
   exact r1 E.out.symm
 · have E := Lib.hid (F.clamp_in n h h')
   go_enter Tryz.func114, Tryz.ntmps114
   go_wp2
   go_ret
   exact r1 E.out.symm
set_option maxHeartbeats 400000 in
theorem fsigned_any (x n : Int) (hx0 : 0 ≤ x) (hx1 : x < 4294967296) (w : World) :
 Calls Tryz.prog 96 #[.int .u32 x, .int .i64 n] w fun e w' => e = .returned (.int .i64 (F.sgnd x (F.clamp n))) ∧ w = w' := by
 have k0 := F.clamp_lo n
 have k1 := F.clamp_hi n
 have C := Lib.hid (fun w => bounded_any n w)
 generalize F.clamp n = k at *
 go_enter Tryz.func96, Tryz.ntmps96
 go_wp2_with fail
 refine (C.out _).mono ?_; rintro e w' ⟨rfl, rfl⟩
 go_wp2_with fail
 go_ret
 exact r1 (F.sgnd_shift x k hx0 hx1 k0 k1)
theorem F.fit1 (P : Int) (h : 1 ≤ P) (h' : P ≤ 2147483648) : wrap64 (-wrap64 P) = -P := by unfold wrap64; omega
theorem F.fit2 (P : Int) (h : 1 ≤ P) (h' : P ≤ 2147483648) : wrap64 P = P := by unfold wrap64; omega
theorem F.fit3 (P : Int) (h : 1 ≤ P) (h' : P ≤ 2147483648) : wrap64 (-P) = -P := by unfold wrap64; omega
set_option maxHeartbeats 400000 in
theorem fits_any (v n : Int) (w : World) :
 Calls Tryz.prog 130 #[.int .i64 v, .int .i64 n] w fun e w' => e = .returned (.bool (F.fitsK v (F.clamp n))) ∧ w = w' := by
 have k0 := F.clamp_lo n
 have k1 := F.clamp_hi n
 have C := Lib.hid (fun w => bounded_any n w)
 generalize F.clamp n = k at *
 have E1 := Lib.hid (F.fit1 _ (F.half_lo k) (F.half_hi k k1))
 have E2 := Lib.hid (F.fit2 _ (F.half_lo k) (F.half_hi k k1))
 go_enter Tryz.func130, Tryz.ntmps130
 go_wp2_with fail
 refine (C.out _).mono ?_; rintro e w' ⟨rfl, rfl⟩
 go_wp2_with fail
 all_goals go_ret
 · rename_i h
   rw [E1.out] at h
   exact r1b (by rw [E2.out]; unfold F.fitsK; rw [decide_eq_true h]; rfl)
 · rename_i h
   rw [E1.out] at h
   exact r1b (by unfold F.fitsK; rw [decide_eq_false (by omega)]; rfl)
set_option maxHeartbeats 400000 in
theorem rsgnd_any (x n : Int) (hx0 : 0 ≤ x) (hx1 : x < 4294967296) (w : World) :
 Calls Tryz.prog 76 #[.int .u32 x, .int .i64 n] w fun e w' => e = .returned (.int .i64 (F.sgnd x (F.clamp n))) ∧ w = w' := by
 rcases (show n < 1 ∨ 32 < n ∨ (1 ≤ n ∧ n ≤ 32) by omega) with h | h | ⟨h, h'⟩
 · have E := Lib.hid (F.clamp_1 n h)
   go_enter Tryz.func76, Tryz.ntmps76
   go_wp2
   all_goals go_ret
   all_goals exact r1 (by rw [E.out]; unfold F.sgnd; simp only [Int.reduceToNat, Int.reducePow, Nat.reduceSub]; split <;> omega)
 · have E := Lib.hid (F.clamp_32 n h)
   go_enter Tryz.func76, Tryz.ntmps76
   go_wp2
   all_goals go_ret
   all_goals exact r1 (by rw [E.out]; unfold F.sgnd; simp only [Int.reduceToNat, Int.reducePow, Nat.reduceSub]; split <;> omega)
 · have E := Lib.hid (F.clamp_in n h h')
   have hw1 : wrap64 (2 ^ n.toNat) = 2 ^ n.toNat := by
    have := F.pow_half n h; have := F.half_lo n; have := F.half_hi n h'; unfold wrap64; omega
   have hw2 : wrap64 (2 ^ (n.toNat - 1)) = 2 ^ (n.toNat - 1) := F.fit2 _ (F.half_lo n) (F.half_hi n h')
   obtain ⟨Q, hQ⟩ : ∃ Q : Int, 2 ^ n.toNat = Q := ⟨_, rfl⟩
   obtain ⟨P, hP⟩ : ∃ Q : Int, 2 ^ (n.toNat - 1) = Q := ⟨_, rfl⟩
   have p0 : 1 ≤ P := hP ▸ F.half_lo n
   have p1 : P ≤ 2147483648 := hP ▸ F.half_hi n h'
   have q0 : Q ≤ 2 * P := by have := F.pow_half n h; omega
   have q1 : 2 * P ≤ Q := by have := F.pow_half n h; omega
   have m0 : 0 ≤ x % Q := Int.emod_nonneg _ (by omega)
   have m1 : x % Q < Q := Int.emod_lt_of_pos _ (by omega)
   have S : F.sgnd x n = if x % Q < P then x % Q else x % Q - Q := by unfold F.sgnd; rw [hQ, hP]
   have HS := Lib.hid S
   have z : (Q == 0) = false := by rw [beq_eq_false_iff_ne]; clear hw1 hw2 HS S hQ hP; omega
   replace hw1 : wrap64 (2 ^ n.toNat) = Q := hw1.trans hQ
   replace hw2 : wrap64 (2 ^ (n.toNat - 1)) = P := hw2.trans hP
   clear S hQ hP
   go_enter Tryz.func76, Tryz.ntmps76
   go_wp2
   all_goals go_ret
   all_goals clear hw1 hw2
   · rename_i g
     exact r1 (by rw [E.out, HS.out, if_neg (by omega)])
   · rename_i g
     exact r1 (by rw [E.out, HS.out, if_pos (by omega)])
set_option maxHeartbeats 400000 in
theorem rfits_any (v n : Int) (w : World) :
 Calls Tryz.prog 78 #[.int .i64 v, .int .i64 n] w fun e w' => e = .returned (.bool (F.fitsK v (F.clamp n))) ∧ w = w' := by
 rcases (show n < 1 ∨ 32 < n ∨ (1 ≤ n ∧ n ≤ 32) by omega) with h | h | ⟨h, h'⟩
 · have E := Lib.hid (F.clamp_1 n h)
   go_enter Tryz.func78, Tryz.ntmps78
   go_wp2
   all_goals go_ret
   all_goals exact r1b (by rw [E.out]; unfold F.fitsK; simp only [wrap64, Int.reduceToNat, Int.reducePow, Nat.reduceSub] at *; simp; omega)
 · have E := Lib.hid (F.clamp_32 n h)
   go_enter Tryz.func78, Tryz.ntmps78
   go_wp2
   all_goals go_ret
   all_goals exact r1b (by rw [E.out]; unfold F.fitsK; simp only [wrap64, Int.reduceToNat, Int.reducePow, Nat.reduceSub] at *; simp; omega)
 · have E := Lib.hid (F.clamp_in n h h')
   have E1 := Lib.hid (F.fit3 _ (F.half_lo n) (F.half_hi n h'))
   have E2 := Lib.hid (F.fit2 _ (F.half_lo n) (F.half_hi n h'))
   go_enter Tryz.func78, Tryz.ntmps78
   go_wp2
   all_goals go_ret
   · rename_i g
     rw [E1.out] at g
     exact r1b (by rw [E2.out, E.out]; unfold F.fitsK; rw [decide_eq_true g]; rfl)
   · rename_i g
     rw [E1.out] at g
     exact r1b (by rw [E.out]; unfold F.fitsK; rw [decide_eq_false (by omega)]; rfl)
theorem I.reg_no1 (n : Int) (h : n < 0) : I.reg n = false := by unfold I.reg; rw [decide_eq_false (by omega)]; rfl
theorem I.reg_at (n : Int) (h : 0 ≤ n) : I.reg n = decide (n ≤ 15) := by unfold I.reg; rw [decide_eq_true h]; rfl
theorem isReg_any (n : Int) (w : World) :
 Calls Tryz.prog 117 #[.int .i64 n] w fun e w' => e = .returned (.bool (I.reg n)) ∧ w = w' := by
 go_enter Tryz.func117, Tryz.ntmps117
 go_wp2
 all_goals go_ret
 · rename_i h; exact r1b (I.reg_at n h).symm
 · rename_i h; exact r1b (I.reg_no1 n h).symm
theorem rreg_any (n : Int) (w : World) :
 Calls Tryz.prog 77 #[.int .i64 n] w fun e w' => e = .returned (.bool (I.reg n)) ∧ w = w' := by
 go_enter Tryz.func77, Tryz.ntmps77
 go_wp2
 all_goals go_ret
 · rename_i h; exact r1b (I.reg_at n h).symm
 · rename_i h; exact r1b (I.reg_no1 n h).symm
theorem bit_any (u : Bool) (w : World) :
 Calls Tryz.prog 120 #[.bool u] w fun e w' => e = .returned (.int .i64 (I.bit u)) ∧ w = w' := by
 cases u
 all_goals
  go_enter Tryz.func120, Tryz.ntmps120
  go_wp2
  go_ret
  exact r1 rfl
theorem one_any (u : Bool) (w : World) :
 Calls Tryz.prog 75 #[.bool u] w fun e w' => e = .returned (.int .u32 (I.bit u)) ∧ w = w' := by
 cases u
 all_goals
  go_enter Tryz.func75, Tryz.ntmps75
  go_wp2
  go_ret
  exact r1 rfl
theorem I.nb_1 (op b : Int) (h : (op == 0) = false) : I.nb op b = b := by unfold I.nb; rw [if_neg (by simpa using h)]
theorem namedB_any (k op a b c i : Int) (u : Bool) (w : World) :
 Calls Tryz.prog 128 #[.agg #[.int .i64 k, .int .i64 op, .int .i64 a, .int .i64 b, .int .i64 c, .int .i64 i, .bool u]] w fun e w' => e = .returned (.int .i64 (I.nb op b)) ∧ Kept w w' := by
 by_cases h0 : op = 0
 · subst h0
   go_enter Tryz.func128, Tryz.ntmps128
   go_wp2
   go_ret
   exact r1k rfl ((Kept.refl w).alloc _ _)
 · have hz : (op == 0) = false := by simpa using h0
   have E := Lib.hid (I.nb_1 op b hz)
   go_enter Tryz.func128, Tryz.ntmps128
   go_wp2
   go_ret
   exact r1k E.out.symm ((Kept.refl w).alloc _ _)
theorem I.carry_1 (op : Int) (h : ¬ op = 8) (h' : ¬ op = 9) : (op == 8 || op == 9 || op == 10) = I.carry op := by
 rw [Bool.eq_iff_iff]; simp [I.carry]; omega
theorem hasCarry_any (op : Int) (w : World) :
 Calls Tryz.prog 129 #[.int .i64 op] w fun e w' => e = .returned (.bool (I.carry op)) ∧ w = w' := by
 go_enter Tryz.func129, Tryz.ntmps129
 go_wp2
 all_goals go_ret
 · rename_i h; subst h; exact r1b rfl
 · rename_i h' h; subst h; exact r1b rfl
 · rename_i h h'; exact r1b (I.carry_1 op h h')
theorem I.kinds (k : Int) : k = 1 ∨ k = 2 ∨ k = 3 ∨ k = 4 ∨ k = 5 ∨ k = 6 ∨ k = 7 ∨ ((k == 1) = false ∧ (k == 2) = false ∧ (k == 3) = false ∧ (k == 4) = false ∧ (k == 5) = false ∧ (k == 6) = false ∧ (k == 7) = false) := by
 simp only [beq_eq_false_iff_ne]; omega
theorem isOp_any (k op a b c i : Int) (u : Bool) (w : World) :
 Calls Tryz.prog 116 #[.agg #[.int .i64 k, .int .i64 op, .int .i64 a, .int .i64 b, .int .i64 c, .int .i64 i, .bool u]] w fun e w' => e = .returned (.bool (I.isOp k op)) ∧ Kept w w' := by
 rcases I.kinds k with rfl | rfl | rfl | rfl | rfl | rfl | rfl | ⟨h1, h2, h3, h4, h5, h6, h7⟩
 all_goals
  go_enter Tryz.func116, Tryz.ntmps116
  go_wp2
 all_goals go_ret
 all_goals refine r1bk ?_ ((Kept.refl w).alloc _ _)
 all_goals (try simp only [beq_eq_false_iff_ne] at *)
 all_goals (unfold I.isOp; simp [*])
 all_goals omega
theorem isNum_any (k op a b c i : Int) (u : Bool) (w : World) :
 Calls Tryz.prog 118 #[.agg #[.int .i64 k, .int .i64 op, .int .i64 a, .int .i64 b, .int .i64 c, .int .i64 i, .bool u]] w fun e w' => e = .returned (.bool (I.isNum k op i u)) ∧ Kept w w' := by
 have F17 := Lib.hid (fun w => show Calls Tryz.prog 130 #[.int .i64 i, .int .i64 17] w fun e w' => e = .returned (.bool (F.fitsK i 17)) ∧ w = w' from fits_any i 17 w)
 have F20 := Lib.hid (fun w => show Calls Tryz.prog 130 #[.int .i64 i, .int .i64 20] w fun e w' => e = .returned (.bool (F.fitsK i 20)) ∧ w = w' from fits_any i 20 w)
 have F24 := Lib.hid (fun w => show Calls Tryz.prog 130 #[.int .i64 i, .int .i64 24] w fun e w' => e = .returned (.bool (F.fitsK i 24)) ∧ w = w' from fits_any i 24 w)
 rcases I.kinds k with rfl | rfl | rfl | rfl | rfl | rfl | rfl | ⟨h1, h2, h3, h4, h5, h6, h7⟩
 · go_enter Tryz.func118, Tryz.ntmps118
   go_wp2
   go_ret
   exact r1bk rfl ((Kept.refl w).alloc _ _)
 · have E : I.isNum 2 op i u = (F.fitsK i 17 && !(op == 0 && u && decide (i < 0))) := rfl
   have HE := Lib.hid E
   clear E
   generalize F.fitsK i 17 = f at *
   generalize I.isNum 2 op i u = r at *
   cases f <;> cases u
   all_goals
    go_enter Tryz.func118, Tryz.ntmps118
    go_wp2_with fail
   all_goals (refine (F17.out _).mono ?_; rintro e w' ⟨rfl, rfl⟩)
   all_goals go_wp2_with fail
   all_goals go_ret
   all_goals refine r1bk ?_ ((Kept.refl w).alloc _ _)
   all_goals (rw [HE.out]; simp [*])
 · go_enter Tryz.func118, Tryz.ntmps118
   go_wp2
   go_ret
   exact r1bk rfl ((Kept.refl w).alloc _ _)
 · go_enter Tryz.func118, Tryz.ntmps118
   go_wp2
   go_ret
   exact r1bk rfl ((Kept.refl w).alloc _ _)
 · go_enter Tryz.func118, Tryz.ntmps118
   go_wp2_with fail
   refine (F20.out _).mono ?_; rintro e w' ⟨rfl, rfl⟩
   go_wp2_with fail
   go_ret
   exact r1bk rfl ((Kept.refl w).alloc _ _)
 · go_enter Tryz.func118, Tryz.ntmps118
   go_wp2
   go_ret
   exact r1bk rfl ((Kept.refl w).alloc _ _)
 · go_enter Tryz.func118, Tryz.ntmps118
   go_wp2_with fail
   refine (F24.out _).mono ?_; rintro e w' ⟨rfl, rfl⟩
   go_wp2_with fail
   go_ret
   exact r1bk rfl ((Kept.refl w).alloc _ _)
 · have E : I.isNum k op i u = (i == 0) := by unfold I.isNum; rw [if_neg (by simpa using h2), if_neg (by simpa using h5), if_neg (by simpa using h7)]
   have HE := Lib.hid E
   clear E
   go_enter Tryz.func118, Tryz.ntmps118
   go_wp2
   go_ret
   exact r1bk HE.out.symm ((Kept.refl w).alloc _ _)
def Box (B : Nat) (k op a b c i : Int) (u : Bool) (w : World) : Prop := w.heap[B]? = some (.cells #[.int .i64 k, .int .i64 op, .int .i64 a, .int .i64 b, .int .i64 c, .int .i64 i, .bool u] 76 (0, 0))
theorem Box.cells {B : Nat} {k op a b c i : Int} {u : Bool} {w : World} (h : Box B k op a b c i u w) : w.cell? ⟨B, 0, none⟩ = some (.int .i64 k) ∧ w.cell? ⟨B, 1, none⟩ = some (.int .i64 op) ∧ w.cell? ⟨B, 2, none⟩ = some (.int .i64 a) ∧ w.cell? ⟨B, 3, none⟩ = some (.int .i64 b) ∧ w.cell? ⟨B, 4, none⟩ = some (.int .i64 c) ∧ w.cell? ⟨B, 5, none⟩ = some (.int .i64 i) ∧ w.cell? ⟨B, 6, none⟩ = some (.bool u) := by
 unfold Box at h
 refine ⟨?_, ?_, ?_, ?_, ?_, ?_, ?_⟩ <;> simp [World.cell?, h]
theorem Box.free {B : Nat} {k op a b c i : Int} {u : Bool} {w : World} (h : Box B k op a b c i u w) : w.frozen? ⟨B, 0, none⟩ = false ∧ w.frozen? ⟨B, 1, none⟩ = false ∧ w.frozen? ⟨B, 2, none⟩ = false ∧ w.frozen? ⟨B, 3, none⟩ = false ∧ w.frozen? ⟨B, 4, none⟩ = false ∧ w.frozen? ⟨B, 5, none⟩ = false ∧ w.frozen? ⟨B, 6, none⟩ = false := by
 unfold Box at h
 refine ⟨?_, ?_, ?_, ?_, ?_, ?_, ?_⟩ <;> simp [World.frozen?, h]
theorem Box.kept {B : Nat} {k op a b c i : Int} {u : Bool} {w w' : World} (h : Box B k op a b c i u w) (hK : Kept w w') : Box B k op a b c i u w' := hK.block h
theorem Box.new (k op a b c i : Int) (u : Bool) (w : World) : Box w.heap.size k op a b c i u (w.alloc (.cells #[.int .i64 k, .int .i64 op, .int .i64 a, .int .i64 b, .int .i64 c, .int .i64 i, .bool u] 76)) := heap_alloc_last _ _
theorem Box.alloc {B : Nat} {k op a b c i : Int} {u : Bool} {w : World} (h : Box B k op a b c i u w) (o : Obj) : Box B k op a b c i u (w.alloc o) := heap_alloc_keep h _
theorem Box.set {B B' : Nat} {k op a b c i : Int} {u : Bool} {w : World} (h : Box B k op a b c i u w) (hB : B ≠ B') (j : Nat) (v : Value) : Box B k op a b c i u (w.setCell ⟨B', j, none⟩ v) := heap_setCell_keep h hB _
def store7 (w : World) (B' : Nat) (k op a b c i : Int) (u : Bool) : World := ((((((w.setCell ⟨B', 0, none⟩ (.int .i64 k)).setCell ⟨B', 1, none⟩ (.int .i64 op)).setCell ⟨B', 2, none⟩ (.int .i64 a)).setCell ⟨B', 3, none⟩ (.int .i64 b)).setCell ⟨B', 4, none⟩ (.int .i64 c)).setCell ⟨B', 5, none⟩ (.int .i64 i)).setCell ⟨B', 6, none⟩ (.bool u)
theorem Box.other {B B' : Nat} {k op a b c i k' op' a' b' c' i' : Int} {u u' : Bool} {w : World} (h : Box B k op a b c i u w) (hB : B ≠ B') : Box B k op a b c i u (store7 w B' k' op' a' b' c' i' u') :=
 ((((((h.set hB _ _).set hB _ _).set hB _ _).set hB _ _).set hB _ _).set hB _ _).set hB _ _
theorem Kept.store7 {w0 w : World} (h : Kept w0 w) {B' : Nat} (hB : w0.heap.size ≤ B') (k op a b c i : Int) (u : Bool) : Kept w0 (store7 w B' k op a b c i u) :=
 ((((((h.setCell hB _).setCell hB _).setCell hB _).setCell hB _).setCell hB _).setCell hB _).setCell hB _
theorem Box.stored {B : Nat} {k op a b c i k' op' a' b' c' i' : Int} {u u' : Bool} {w : World} (h : Box B k op a b c i u w) : Box B k' op' a' b' c' i' u' (store7 w B k' op' a' b' c' i' u') := by
 unfold Box at *
 unfold store7
 simp [World.setCell, Array.getElem?_modify, h]
theorem size_alloc1 (w : World) (o : Obj) : (w.alloc o).heap.size = w.heap.size + 1 := by simp
set_option maxHeartbeats 2000000 in
theorem named_1f (op a b c i : Int) (w : World) :
 Calls Tryz.prog 115 #[.agg #[.int .i64 1, .int .i64 op, .int .i64 a, .int .i64 b, .int .i64 c, .int .i64 i, .bool false]] w fun e w' => e = .returned (.agg #[.int .i64 1, .int .i64 op, .int .i64 a, .int .i64 (I.nb op b), .int .i64 c, .int .i64 0, .bool false]) ∧ Kept w w' := by
 have hK0 := Kept.refl ((w.alloc (.cells #[.int .i64 1, .int .i64 op, .int .i64 a, .int .i64 b, .int .i64 c, .int .i64 i, .bool false] 76)).alloc (.cells #[.int .i64 0, .int .i64 0, .int .i64 0, .int .i64 0, .int .i64 0, .int .i64 0, .bool false] 76))
 have X1 := (Box.new 1 op a b c i false w).alloc (.cells #[.int .i64 0, .int .i64 0, .int .i64 0, .int .i64 0, .int .i64 0, .int .i64 0, .bool false] 76)
 have X2 := size_alloc1 w (.cells #[.int .i64 1, .int .i64 op, .int .i64 a, .int .i64 b, .int .i64 c, .int .i64 i, .bool false] 76) ▸ Box.new 0 0 0 0 0 0 false (w.alloc (.cells #[.int .i64 1, .int .i64 op, .int .i64 a, .int .i64 b, .int .i64 c, .int .i64 i, .bool false] 76))
 have hB := show Kept w ((w.alloc (.cells #[.int .i64 1, .int .i64 op, .int .i64 a, .int .i64 b, .int .i64 c, .int .i64 i, .bool false] 76)).alloc (.cells #[.int .i64 0, .int .i64 0, .int .i64 0, .int .i64 0, .int .i64 0, .int .i64 0, .bool false] 76)) from ((Kept.refl w).alloc _ _).alloc _ _
 go_enter Tryz.func115, Tryz.ntmps115
 go_wp2_with fail
 generalize ((w.alloc (.cells #[.int .i64 1, .int .i64 op, .int .i64 a, .int .i64 b, .int .i64 c, .int .i64 i, .bool false] 76)).alloc (.cells #[.int .i64 0, .int .i64 0, .int .i64 0, .int .i64 0, .int .i64 0, .int .i64 0, .bool false] 76)) = wB at hK0 hB X1 X2
 have HB := Lib.hid hB
 have HX1 := Lib.hid X1
 have HX2 := Lib.hid X2
 clear hB X1 X2
 refine wp_region_held_drew (S := fun w' => w'.cell? ⟨w.heap.size, 0, none⟩ = some (.int .i64 1) ∧ w'.cell? ⟨w.heap.size, 1, none⟩ = some (.int .i64 op) ∧ w'.cell? ⟨w.heap.size, 2, none⟩ = some (.int .i64 a) ∧ w'.cell? ⟨w.heap.size, 3, none⟩ = some (.int .i64 b) ∧ w'.cell? ⟨w.heap.size, 4, none⟩ = some (.int .i64 c) ∧ w'.cell? ⟨w.heap.size, 5, none⟩ = some (.int .i64 i) ∧ w'.cell? ⟨w.heap.size, 6, none⟩ = some (.bool false)) (by kernel_rfl) ?_ (fun hHeld => ?_)
 · exact (HX1.out.kept hK0.drew).cells
 refine tk 0 _ (v := ?_) hHeld ?_ (tk 1 _ (v := ?_) hHeld ?_ (tk 2 _ (v := ?_) hHeld ?_ (tk 3 _ (v := ?_) hHeld ?_ (tk 4 _ (v := ?_) hHeld ?_ (tk 5 _ (v := ?_) hHeld ?_ (tk 6 _ (v := ?_) hHeld ?_ (tk 8 _ (v := ?_) hHeld ?_ (tk 9 _ (v := ?_) hHeld ?_ (tk 10 _ (v := ?_) hHeld ?_ (tk 11 _ (v := ?_) hHeld ?_ ?_))))))))))
 all_goals try (intro w hSw; (try dsimp only at hSw); go_simp; with_reducible rfl)
 try simp only [Act.put, pq]
 refine wpAnyH_ready (rs := [7]) (by kernel_rfl) (by simp) ?_
 refine AllReadyH.cons (o := _) rfl (fun K hK => ?_) AllReadyH.nil
 go_simp
 go_at_call 128
 refine (namedB_any _ _ _ _ _ _ _ _).mono ?_
 rintro e w5 ⟨rfl, hK5⟩
 replace hK5 := Kept.trans (a := wB) hK0.drew hK5
 clear hHeld
 refine hK.out _ _ ?_ (fun hHeld => ?_)
 · exact (HX1.out.kept hK5).cells
 clear hK K
 try simp only [Act.put, pq]
 refine tk 12 _ (v := ?_) hHeld ?_ ?_
 rotate_left
 · (intro w hSw; (try dsimp only at hSw); go_simp; try with_reducible rfl)
 try simp only [Act.put, pq]
 refine tu 13 _ hHeld ?_
 try simp only [Act.put, pq]
 refine tu 14 _ hHeld ?_
 try simp only [Act.put, pq]
 refine tu 15 _ hHeld ?_
 try simp only [Act.put, pq]
 refine tk 16 _ (v := ?_) hHeld ?_ (tk 17 _ (v := ?_) hHeld ?_ ?_)
 all_goals try (intro w hSw; (try dsimp only at hSw); go_simp; with_reducible rfl)
 try simp only [Act.put, pq]
 refine wpAnyH_ready (rs := [18]) (by kernel_rfl) (by simp) ?_
 refine AllReadyH.cons (o := _) rfl (fun K hK => ?_) AllReadyH.nil
 obtain ⟨c0, c1, c2, c3, c4, c5, c6⟩ := (HX2.out.kept hK5).cells
 obtain ⟨f0, f1, f2, f3, f4, f5, f6⟩ := (HX2.out.kept hK5).free
 go_simp
 clear hHeld
 refine hK.out _ _ ?_ (fun hHeld => ?_)
 · exact ((HX1.out.kept hK5).other (by omega)).cells
 clear hK K
 try simp only [Act.put, pq]
 refine wpAnyH_done (by kernel_rfl) ?_ _
 have R := (HX2.out.kept hK5).stored (k' := 1) (op' := op) (a' := a) (b' := I.nb op b) (c' := c) (i' := 0) (u' := false)
 have RK := (HB.out.trans hK5).store7 (B' := w.heap.size + 1) (by omega) (1) (op) (a) (I.nb op b) (c) (0) (false)
 unfold store7 at R RK
 generalize (((((((w5.setCell ⟨w.heap.size + 1, 0, none⟩ (.int .i64 (1))).setCell ⟨w.heap.size + 1, 1, none⟩ (.int .i64 (op))).setCell ⟨w.heap.size + 1, 2, none⟩ (.int .i64 (a))).setCell ⟨w.heap.size + 1, 3, none⟩ (.int .i64 (I.nb op b))).setCell ⟨w.heap.size + 1, 4, none⟩ (.int .i64 (c))).setCell ⟨w.heap.size + 1, 5, none⟩ (.int .i64 (0))).setCell ⟨w.heap.size + 1, 6, none⟩ (.bool (false))) = w7 at R RK ⊢
 obtain ⟨r0, r1, r2, r3, r4, r5, r6⟩ := R.cells
 clear R hK5 HB HX1 HX2 hHeld
 have RK := Lib.hid RK
 go_wp2_with fail
 exact bodyPost_ret (v := .agg #[.int .i64 1, .int .i64 op, .int .i64 a, .int .i64 (I.nb op b), .int .i64 c, .int .i64 0, .bool false]) (by simp [results, Tryz.results115, go_sem, *]) rfl ⟨rfl, RK.out⟩
set_option maxHeartbeats 2000000 in
theorem named_1t (op a b c i : Int) (w : World) :
 Calls Tryz.prog 115 #[.agg #[.int .i64 1, .int .i64 op, .int .i64 a, .int .i64 b, .int .i64 c, .int .i64 i, .bool true]] w fun e w' => e = .returned (.agg #[.int .i64 1, .int .i64 op, .int .i64 a, .int .i64 (I.nb op b), .int .i64 c, .int .i64 0, .bool (I.carry op)]) ∧ Kept w w' := by
 have hK0 := Kept.refl ((w.alloc (.cells #[.int .i64 1, .int .i64 op, .int .i64 a, .int .i64 b, .int .i64 c, .int .i64 i, .bool true] 76)).alloc (.cells #[.int .i64 0, .int .i64 0, .int .i64 0, .int .i64 0, .int .i64 0, .int .i64 0, .bool false] 76))
 have X1 := (Box.new 1 op a b c i true w).alloc (.cells #[.int .i64 0, .int .i64 0, .int .i64 0, .int .i64 0, .int .i64 0, .int .i64 0, .bool false] 76)
 have X2 := size_alloc1 w (.cells #[.int .i64 1, .int .i64 op, .int .i64 a, .int .i64 b, .int .i64 c, .int .i64 i, .bool true] 76) ▸ Box.new 0 0 0 0 0 0 false (w.alloc (.cells #[.int .i64 1, .int .i64 op, .int .i64 a, .int .i64 b, .int .i64 c, .int .i64 i, .bool true] 76))
 have hB := show Kept w ((w.alloc (.cells #[.int .i64 1, .int .i64 op, .int .i64 a, .int .i64 b, .int .i64 c, .int .i64 i, .bool true] 76)).alloc (.cells #[.int .i64 0, .int .i64 0, .int .i64 0, .int .i64 0, .int .i64 0, .int .i64 0, .bool false] 76)) from ((Kept.refl w).alloc _ _).alloc _ _
 go_enter Tryz.func115, Tryz.ntmps115
 go_wp2_with fail
 generalize ((w.alloc (.cells #[.int .i64 1, .int .i64 op, .int .i64 a, .int .i64 b, .int .i64 c, .int .i64 i, .bool true] 76)).alloc (.cells #[.int .i64 0, .int .i64 0, .int .i64 0, .int .i64 0, .int .i64 0, .int .i64 0, .bool false] 76)) = wB at hK0 hB X1 X2
 have HB := Lib.hid hB
 have HX1 := Lib.hid X1
 have HX2 := Lib.hid X2
 clear hB X1 X2
 refine wp_region_held_drew (S := fun w' => w'.cell? ⟨w.heap.size, 0, none⟩ = some (.int .i64 1) ∧ w'.cell? ⟨w.heap.size, 1, none⟩ = some (.int .i64 op) ∧ w'.cell? ⟨w.heap.size, 2, none⟩ = some (.int .i64 a) ∧ w'.cell? ⟨w.heap.size, 3, none⟩ = some (.int .i64 b) ∧ w'.cell? ⟨w.heap.size, 4, none⟩ = some (.int .i64 c) ∧ w'.cell? ⟨w.heap.size, 5, none⟩ = some (.int .i64 i) ∧ w'.cell? ⟨w.heap.size, 6, none⟩ = some (.bool true)) (by kernel_rfl) ?_ (fun hHeld => ?_)
 · exact (HX1.out.kept hK0.drew).cells
 refine tk 0 _ (v := ?_) hHeld ?_ (tk 1 _ (v := ?_) hHeld ?_ (tk 2 _ (v := ?_) hHeld ?_ (tk 3 _ (v := ?_) hHeld ?_ (tk 4 _ (v := ?_) hHeld ?_ (tk 5 _ (v := ?_) hHeld ?_ (tk 6 _ (v := ?_) hHeld ?_ (tk 8 _ (v := ?_) hHeld ?_ (tk 9 _ (v := ?_) hHeld ?_ (tk 10 _ (v := ?_) hHeld ?_ (tk 11 _ (v := ?_) hHeld ?_ ?_))))))))))
 all_goals try (intro w hSw; (try dsimp only at hSw); go_simp; with_reducible rfl)
 try simp only [Act.put, pq]
 refine wpAnyH_ready (rs := [7]) (by kernel_rfl) (by simp) ?_
 refine AllReadyH.cons (o := _) rfl (fun K hK => ?_) AllReadyH.nil
 go_simp
 go_at_call 128
 refine (namedB_any _ _ _ _ _ _ _ _).mono ?_
 rintro e w5 ⟨rfl, hK5⟩
 replace hK5 := Kept.trans (a := wB) hK0.drew hK5
 clear hHeld
 refine hK.out _ _ ?_ (fun hHeld => ?_)
 · exact (HX1.out.kept hK5).cells
 clear hK K
 try simp only [Act.put, pq]
 refine tk 12 _ (v := ?_) hHeld ?_ ?_
 rotate_left
 · (intro w hSw; (try dsimp only at hSw); go_simp; try with_reducible rfl)
 try simp only [Act.put, pq]
 refine tk 13 _ (v := ?_) hHeld ?_ ?_
 rotate_left
 · (intro w hSw; (try dsimp only at hSw); go_simp; try with_reducible rfl)
 try simp only [Act.put, pq]
 refine tk 14 _ (v := ?_) hHeld ?_ ?_
 rotate_left
 · (intro w hSw; (try dsimp only at hSw); go_simp; try with_reducible rfl)
 try simp only [Act.put, pq]
 refine wpAnyH_ready (rs := [15]) (by kernel_rfl) (by simp) ?_
 refine AllReadyH.cons (o := _) rfl (fun K hK => ?_) AllReadyH.nil
 go_simp
 go_at_call 129
 refine (hasCarry_any _ _).mono ?_
 rintro e w6 ⟨rfl, rfl⟩
 clear hHeld
 refine hK.out _ _ ?_ (fun hHeld => ?_)
 · exact (HX1.out.kept hK5).cells
 clear hK K
 try simp only [Act.put, pq]
 refine tk 16 _ (v := ?_) hHeld ?_ (tk 17 _ (v := ?_) hHeld ?_ ?_)
 all_goals try (intro w hSw; (try dsimp only at hSw); go_simp; with_reducible rfl)
 try simp only [Act.put, pq]
 refine wpAnyH_ready (rs := [18]) (by kernel_rfl) (by simp) ?_
 refine AllReadyH.cons (o := _) rfl (fun K hK => ?_) AllReadyH.nil
 obtain ⟨c0, c1, c2, c3, c4, c5, c6⟩ := (HX2.out.kept hK5).cells
 obtain ⟨f0, f1, f2, f3, f4, f5, f6⟩ := (HX2.out.kept hK5).free
 go_simp
 clear hHeld
 refine hK.out _ _ ?_ (fun hHeld => ?_)
 · exact ((HX1.out.kept hK5).other (by omega)).cells
 clear hK K
 try simp only [Act.put, pq]
 refine wpAnyH_done (by kernel_rfl) ?_ _
 have R := (HX2.out.kept hK5).stored (k' := 1) (op' := op) (a' := a) (b' := I.nb op b) (c' := c) (i' := 0) (u' := I.carry op)
 have RK := (HB.out.trans hK5).store7 (B' := w.heap.size + 1) (by omega) (1) (op) (a) (I.nb op b) (c) (0) (I.carry op)
 unfold store7 at R RK
 generalize (((((((w5.setCell ⟨w.heap.size + 1, 0, none⟩ (.int .i64 (1))).setCell ⟨w.heap.size + 1, 1, none⟩ (.int .i64 (op))).setCell ⟨w.heap.size + 1, 2, none⟩ (.int .i64 (a))).setCell ⟨w.heap.size + 1, 3, none⟩ (.int .i64 (I.nb op b))).setCell ⟨w.heap.size + 1, 4, none⟩ (.int .i64 (c))).setCell ⟨w.heap.size + 1, 5, none⟩ (.int .i64 (0))).setCell ⟨w.heap.size + 1, 6, none⟩ (.bool (I.carry op))) = w7 at R RK ⊢
 obtain ⟨r0, r1, r2, r3, r4, r5, r6⟩ := R.cells
 clear R hK5 HB HX1 HX2 hHeld
 have RK := Lib.hid RK
 go_wp2_with fail
 exact bodyPost_ret (v := .agg #[.int .i64 1, .int .i64 op, .int .i64 a, .int .i64 (I.nb op b), .int .i64 c, .int .i64 0, .bool (I.carry op)]) (by simp [results, Tryz.results115, go_sem, *]) rfl ⟨rfl, RK.out⟩
set_option maxHeartbeats 2000000 in
theorem named_2f (op a b c i : Int) (w : World) :
 Calls Tryz.prog 115 #[.agg #[.int .i64 2, .int .i64 op, .int .i64 a, .int .i64 b, .int .i64 c, .int .i64 i, .bool false]] w fun e w' => e = .returned (.agg #[.int .i64 2, .int .i64 op, .int .i64 a, .int .i64 (I.nb op b), .int .i64 0, .int .i64 i, .bool false]) ∧ Kept w w' := by
 have hK0 := Kept.refl ((w.alloc (.cells #[.int .i64 2, .int .i64 op, .int .i64 a, .int .i64 b, .int .i64 c, .int .i64 i, .bool false] 76)).alloc (.cells #[.int .i64 0, .int .i64 0, .int .i64 0, .int .i64 0, .int .i64 0, .int .i64 0, .bool false] 76))
 have X1 := (Box.new 2 op a b c i false w).alloc (.cells #[.int .i64 0, .int .i64 0, .int .i64 0, .int .i64 0, .int .i64 0, .int .i64 0, .bool false] 76)
 have X2 := size_alloc1 w (.cells #[.int .i64 2, .int .i64 op, .int .i64 a, .int .i64 b, .int .i64 c, .int .i64 i, .bool false] 76) ▸ Box.new 0 0 0 0 0 0 false (w.alloc (.cells #[.int .i64 2, .int .i64 op, .int .i64 a, .int .i64 b, .int .i64 c, .int .i64 i, .bool false] 76))
 have hB := show Kept w ((w.alloc (.cells #[.int .i64 2, .int .i64 op, .int .i64 a, .int .i64 b, .int .i64 c, .int .i64 i, .bool false] 76)).alloc (.cells #[.int .i64 0, .int .i64 0, .int .i64 0, .int .i64 0, .int .i64 0, .int .i64 0, .bool false] 76)) from ((Kept.refl w).alloc _ _).alloc _ _
 go_enter Tryz.func115, Tryz.ntmps115
 go_wp2_with fail
 generalize ((w.alloc (.cells #[.int .i64 2, .int .i64 op, .int .i64 a, .int .i64 b, .int .i64 c, .int .i64 i, .bool false] 76)).alloc (.cells #[.int .i64 0, .int .i64 0, .int .i64 0, .int .i64 0, .int .i64 0, .int .i64 0, .bool false] 76)) = wB at hK0 hB X1 X2
 have HB := Lib.hid hB
 have HX1 := Lib.hid X1
 have HX2 := Lib.hid X2
 clear hB X1 X2
 refine wp_region_held_drew (S := fun w' => w'.cell? ⟨w.heap.size, 0, none⟩ = some (.int .i64 2) ∧ w'.cell? ⟨w.heap.size, 1, none⟩ = some (.int .i64 op) ∧ w'.cell? ⟨w.heap.size, 2, none⟩ = some (.int .i64 a) ∧ w'.cell? ⟨w.heap.size, 3, none⟩ = some (.int .i64 b) ∧ w'.cell? ⟨w.heap.size, 4, none⟩ = some (.int .i64 c) ∧ w'.cell? ⟨w.heap.size, 5, none⟩ = some (.int .i64 i) ∧ w'.cell? ⟨w.heap.size, 6, none⟩ = some (.bool false)) (by kernel_rfl) ?_ (fun hHeld => ?_)
 · exact (HX1.out.kept hK0.drew).cells
 refine tk 0 _ (v := ?_) hHeld ?_ (tk 1 _ (v := ?_) hHeld ?_ (tk 2 _ (v := ?_) hHeld ?_ (tk 3 _ (v := ?_) hHeld ?_ (tk 4 _ (v := ?_) hHeld ?_ (tk 5 _ (v := ?_) hHeld ?_ (tk 6 _ (v := ?_) hHeld ?_ (tk 8 _ (v := ?_) hHeld ?_ (tk 9 _ (v := ?_) hHeld ?_ (tk 10 _ (v := ?_) hHeld ?_ (tk 11 _ (v := ?_) hHeld ?_ ?_))))))))))
 all_goals try (intro w hSw; (try dsimp only at hSw); go_simp; with_reducible rfl)
 try simp only [Act.put, pq]
 refine wpAnyH_ready (rs := [7]) (by kernel_rfl) (by simp) ?_
 refine AllReadyH.cons (o := _) rfl (fun K hK => ?_) AllReadyH.nil
 go_simp
 go_at_call 128
 refine (namedB_any _ _ _ _ _ _ _ _).mono ?_
 rintro e w5 ⟨rfl, hK5⟩
 replace hK5 := Kept.trans (a := wB) hK0.drew hK5
 clear hHeld
 refine hK.out _ _ ?_ (fun hHeld => ?_)
 · exact (HX1.out.kept hK5).cells
 clear hK K
 try simp only [Act.put, pq]
 refine tk 12 _ (v := ?_) hHeld ?_ ?_
 rotate_left
 · (intro w hSw; (try dsimp only at hSw); go_simp; try with_reducible rfl)
 try simp only [Act.put, pq]
 refine tu 13 _ hHeld ?_
 try simp only [Act.put, pq]
 refine tu 14 _ hHeld ?_
 try simp only [Act.put, pq]
 refine tu 15 _ hHeld ?_
 try simp only [Act.put, pq]
 refine tu 16 _ hHeld ?_
 try simp only [Act.put, pq]
 refine tu 17 _ hHeld ?_
 try simp only [Act.put, pq]
 refine tu 18 _ hHeld ?_
 try simp only [Act.put, pq]
 refine tu 19 _ hHeld ?_
 try simp only [Act.put, pq]
 refine tu 20 _ hHeld ?_
 try simp only [Act.put, pq]
 refine tk 21 _ (v := ?_) hHeld ?_ (tk 22 _ (v := ?_) hHeld ?_ ?_)
 all_goals try (intro w hSw; (try dsimp only at hSw); go_simp; with_reducible rfl)
 try simp only [Act.put, pq]
 refine wpAnyH_ready (rs := [23]) (by kernel_rfl) (by simp) ?_
 refine AllReadyH.cons (o := _) rfl (fun K hK => ?_) AllReadyH.nil
 obtain ⟨c0, c1, c2, c3, c4, c5, c6⟩ := (HX2.out.kept hK5).cells
 obtain ⟨f0, f1, f2, f3, f4, f5, f6⟩ := (HX2.out.kept hK5).free
 go_simp
 clear hHeld
 refine hK.out _ _ ?_ (fun hHeld => ?_)
 · exact ((HX1.out.kept hK5).other (by omega)).cells
 clear hK K
 try simp only [Act.put, pq]
 refine wpAnyH_done (by kernel_rfl) ?_ _
 have R := (HX2.out.kept hK5).stored (k' := 2) (op' := op) (a' := a) (b' := I.nb op b) (c' := 0) (i' := i) (u' := false)
 have RK := (HB.out.trans hK5).store7 (B' := w.heap.size + 1) (by omega) (2) (op) (a) (I.nb op b) (0) (i) (false)
 unfold store7 at R RK
 generalize (((((((w5.setCell ⟨w.heap.size + 1, 0, none⟩ (.int .i64 (2))).setCell ⟨w.heap.size + 1, 1, none⟩ (.int .i64 (op))).setCell ⟨w.heap.size + 1, 2, none⟩ (.int .i64 (a))).setCell ⟨w.heap.size + 1, 3, none⟩ (.int .i64 (I.nb op b))).setCell ⟨w.heap.size + 1, 4, none⟩ (.int .i64 (0))).setCell ⟨w.heap.size + 1, 5, none⟩ (.int .i64 (i))).setCell ⟨w.heap.size + 1, 6, none⟩ (.bool (false))) = w7 at R RK ⊢
 obtain ⟨r0, r1, r2, r3, r4, r5, r6⟩ := R.cells
 clear R hK5 HB HX1 HX2 hHeld
 have RK := Lib.hid RK
 go_wp2_with fail
 exact bodyPost_ret (v := .agg #[.int .i64 2, .int .i64 op, .int .i64 a, .int .i64 (I.nb op b), .int .i64 0, .int .i64 i, .bool false]) (by simp [results, Tryz.results115, go_sem, *]) rfl ⟨rfl, RK.out⟩
set_option maxHeartbeats 2000000 in
theorem named_2z (a b c i : Int) (w : World) :
 Calls Tryz.prog 115 #[.agg #[.int .i64 2, .int .i64 0, .int .i64 a, .int .i64 b, .int .i64 c, .int .i64 i, .bool true]] w fun e w' => e = .returned (.agg #[.int .i64 2, .int .i64 0, .int .i64 a, .int .i64 (I.nb 0 b), .int .i64 0, .int .i64 i, .bool true]) ∧ Kept w w' := by
 have hK0 := Kept.refl ((w.alloc (.cells #[.int .i64 2, .int .i64 0, .int .i64 a, .int .i64 b, .int .i64 c, .int .i64 i, .bool true] 76)).alloc (.cells #[.int .i64 0, .int .i64 0, .int .i64 0, .int .i64 0, .int .i64 0, .int .i64 0, .bool false] 76))
 have X1 := (Box.new 2 0 a b c i true w).alloc (.cells #[.int .i64 0, .int .i64 0, .int .i64 0, .int .i64 0, .int .i64 0, .int .i64 0, .bool false] 76)
 have X2 := size_alloc1 w (.cells #[.int .i64 2, .int .i64 0, .int .i64 a, .int .i64 b, .int .i64 c, .int .i64 i, .bool true] 76) ▸ Box.new 0 0 0 0 0 0 false (w.alloc (.cells #[.int .i64 2, .int .i64 0, .int .i64 a, .int .i64 b, .int .i64 c, .int .i64 i, .bool true] 76))
 have hB := show Kept w ((w.alloc (.cells #[.int .i64 2, .int .i64 0, .int .i64 a, .int .i64 b, .int .i64 c, .int .i64 i, .bool true] 76)).alloc (.cells #[.int .i64 0, .int .i64 0, .int .i64 0, .int .i64 0, .int .i64 0, .int .i64 0, .bool false] 76)) from ((Kept.refl w).alloc _ _).alloc _ _
 go_enter Tryz.func115, Tryz.ntmps115
 go_wp2_with fail
 generalize ((w.alloc (.cells #[.int .i64 2, .int .i64 0, .int .i64 a, .int .i64 b, .int .i64 c, .int .i64 i, .bool true] 76)).alloc (.cells #[.int .i64 0, .int .i64 0, .int .i64 0, .int .i64 0, .int .i64 0, .int .i64 0, .bool false] 76)) = wB at hK0 hB X1 X2
 have HB := Lib.hid hB
 have HX1 := Lib.hid X1
 have HX2 := Lib.hid X2
 clear hB X1 X2
 refine wp_region_held_drew (S := fun w' => w'.cell? ⟨w.heap.size, 0, none⟩ = some (.int .i64 2) ∧ w'.cell? ⟨w.heap.size, 1, none⟩ = some (.int .i64 0) ∧ w'.cell? ⟨w.heap.size, 2, none⟩ = some (.int .i64 a) ∧ w'.cell? ⟨w.heap.size, 3, none⟩ = some (.int .i64 b) ∧ w'.cell? ⟨w.heap.size, 4, none⟩ = some (.int .i64 c) ∧ w'.cell? ⟨w.heap.size, 5, none⟩ = some (.int .i64 i) ∧ w'.cell? ⟨w.heap.size, 6, none⟩ = some (.bool true)) (by kernel_rfl) ?_ (fun hHeld => ?_)
 · exact (HX1.out.kept hK0.drew).cells
 refine tk 0 _ (v := ?_) hHeld ?_ (tk 1 _ (v := ?_) hHeld ?_ (tk 2 _ (v := ?_) hHeld ?_ (tk 3 _ (v := ?_) hHeld ?_ (tk 4 _ (v := ?_) hHeld ?_ (tk 5 _ (v := ?_) hHeld ?_ (tk 6 _ (v := ?_) hHeld ?_ (tk 8 _ (v := ?_) hHeld ?_ (tk 9 _ (v := ?_) hHeld ?_ (tk 10 _ (v := ?_) hHeld ?_ (tk 11 _ (v := ?_) hHeld ?_ ?_))))))))))
 all_goals try (intro w hSw; (try dsimp only at hSw); go_simp; with_reducible rfl)
 try simp only [Act.put, pq]
 refine wpAnyH_ready (rs := [7]) (by kernel_rfl) (by simp) ?_
 refine AllReadyH.cons (o := _) rfl (fun K hK => ?_) AllReadyH.nil
 go_simp
 go_at_call 128
 refine (namedB_any _ _ _ _ _ _ _ _).mono ?_
 rintro e w5 ⟨rfl, hK5⟩
 replace hK5 := Kept.trans (a := wB) hK0.drew hK5
 clear hHeld
 refine hK.out _ _ ?_ (fun hHeld => ?_)
 · exact (HX1.out.kept hK5).cells
 clear hK K
 try simp only [Act.put, pq]
 refine tk 12 _ (v := ?_) hHeld ?_ ?_
 rotate_left
 · (intro w hSw; (try dsimp only at hSw); go_simp; try with_reducible rfl)
 try simp only [Act.put, pq]
 refine tk 13 _ (v := ?_) hHeld ?_ ?_
 rotate_left
 · (intro w hSw; (try dsimp only at hSw); go_simp; try with_reducible rfl)
 try simp only [Act.put, pq]
 refine tk 14 _ (v := ?_) hHeld ?_ ?_
 rotate_left
 · (intro w hSw; (try dsimp only at hSw); go_simp; try with_reducible rfl)
 try simp only [Act.put, pq]
 refine tk 15 _ (v := ?_) hHeld ?_ ?_
 rotate_left
 · (intro w hSw; (try dsimp only at hSw); go_simp; try with_reducible rfl)
 try simp only [Act.put, pq]
 refine tk 16 _ (v := ?_) hHeld ?_ ?_
 rotate_left
 · (intro w hSw; (try dsimp only at hSw); go_simp; try with_reducible rfl)
 try simp only [Act.put, pq]
 refine tu 17 _ hHeld ?_
 try simp only [Act.put, pq]
 refine tu 18 _ hHeld ?_
 try simp only [Act.put, pq]
 refine tu 19 _ hHeld ?_
 try simp only [Act.put, pq]
 refine tk 20 _ (v := ?_) hHeld ?_ (tk 21 _ (v := ?_) hHeld ?_ (tk 22 _ (v := ?_) hHeld ?_ ?_))
 all_goals try (intro w hSw; (try dsimp only at hSw); go_simp; with_reducible rfl)
 try simp only [Act.put, pq]
 refine wpAnyH_ready (rs := [23]) (by kernel_rfl) (by simp) ?_
 refine AllReadyH.cons (o := _) rfl (fun K hK => ?_) AllReadyH.nil
 obtain ⟨c0, c1, c2, c3, c4, c5, c6⟩ := (HX2.out.kept hK5).cells
 obtain ⟨f0, f1, f2, f3, f4, f5, f6⟩ := (HX2.out.kept hK5).free
 go_simp
 clear hHeld
 refine hK.out _ _ ?_ (fun hHeld => ?_)
 · exact ((HX1.out.kept hK5).other (by omega)).cells
 clear hK K
 try simp only [Act.put, pq]
 refine wpAnyH_done (by kernel_rfl) ?_ _
 have R := (HX2.out.kept hK5).stored (k' := 2) (op' := 0) (a' := a) (b' := I.nb 0 b) (c' := 0) (i' := i) (u' := true)
 have RK := (HB.out.trans hK5).store7 (B' := w.heap.size + 1) (by omega) (2) (0) (a) (I.nb 0 b) (0) (i) (true)
 unfold store7 at R RK
 generalize (((((((w5.setCell ⟨w.heap.size + 1, 0, none⟩ (.int .i64 (2))).setCell ⟨w.heap.size + 1, 1, none⟩ (.int .i64 (0))).setCell ⟨w.heap.size + 1, 2, none⟩ (.int .i64 (a))).setCell ⟨w.heap.size + 1, 3, none⟩ (.int .i64 (I.nb 0 b))).setCell ⟨w.heap.size + 1, 4, none⟩ (.int .i64 (0))).setCell ⟨w.heap.size + 1, 5, none⟩ (.int .i64 (i))).setCell ⟨w.heap.size + 1, 6, none⟩ (.bool (true))) = w7 at R RK ⊢
 obtain ⟨r0, r1, r2, r3, r4, r5, r6⟩ := R.cells
 clear R hK5 HB HX1 HX2 hHeld
 have RK := Lib.hid RK
 go_wp2_with fail
 exact bodyPost_ret (v := .agg #[.int .i64 2, .int .i64 0, .int .i64 a, .int .i64 (I.nb 0 b), .int .i64 0, .int .i64 i, .bool true]) (by simp [results, Tryz.results115, go_sem, *]) rfl ⟨rfl, RK.out⟩
set_option maxHeartbeats 2000000 in
theorem named_2t (op a b c i : Int) (hz : (op == 0) = false) (w : World) :
 Calls Tryz.prog 115 #[.agg #[.int .i64 2, .int .i64 op, .int .i64 a, .int .i64 b, .int .i64 c, .int .i64 i, .bool true]] w fun e w' => e = .returned (.agg #[.int .i64 2, .int .i64 op, .int .i64 a, .int .i64 (I.nb op b), .int .i64 0, .int .i64 i, .bool (I.carry op)]) ∧ Kept w w' := by
 have hK0 := Kept.refl ((w.alloc (.cells #[.int .i64 2, .int .i64 op, .int .i64 a, .int .i64 b, .int .i64 c, .int .i64 i, .bool true] 76)).alloc (.cells #[.int .i64 0, .int .i64 0, .int .i64 0, .int .i64 0, .int .i64 0, .int .i64 0, .bool false] 76))
 have X1 := (Box.new 2 op a b c i true w).alloc (.cells #[.int .i64 0, .int .i64 0, .int .i64 0, .int .i64 0, .int .i64 0, .int .i64 0, .bool false] 76)
 have X2 := size_alloc1 w (.cells #[.int .i64 2, .int .i64 op, .int .i64 a, .int .i64 b, .int .i64 c, .int .i64 i, .bool true] 76) ▸ Box.new 0 0 0 0 0 0 false (w.alloc (.cells #[.int .i64 2, .int .i64 op, .int .i64 a, .int .i64 b, .int .i64 c, .int .i64 i, .bool true] 76))
 have hB := show Kept w ((w.alloc (.cells #[.int .i64 2, .int .i64 op, .int .i64 a, .int .i64 b, .int .i64 c, .int .i64 i, .bool true] 76)).alloc (.cells #[.int .i64 0, .int .i64 0, .int .i64 0, .int .i64 0, .int .i64 0, .int .i64 0, .bool false] 76)) from ((Kept.refl w).alloc _ _).alloc _ _
 go_enter Tryz.func115, Tryz.ntmps115
 go_wp2_with fail
 generalize ((w.alloc (.cells #[.int .i64 2, .int .i64 op, .int .i64 a, .int .i64 b, .int .i64 c, .int .i64 i, .bool true] 76)).alloc (.cells #[.int .i64 0, .int .i64 0, .int .i64 0, .int .i64 0, .int .i64 0, .int .i64 0, .bool false] 76)) = wB at hK0 hB X1 X2
 have HB := Lib.hid hB
 have HX1 := Lib.hid X1
 have HX2 := Lib.hid X2
 clear hB X1 X2
 refine wp_region_held_drew (S := fun w' => w'.cell? ⟨w.heap.size, 0, none⟩ = some (.int .i64 2) ∧ w'.cell? ⟨w.heap.size, 1, none⟩ = some (.int .i64 op) ∧ w'.cell? ⟨w.heap.size, 2, none⟩ = some (.int .i64 a) ∧ w'.cell? ⟨w.heap.size, 3, none⟩ = some (.int .i64 b) ∧ w'.cell? ⟨w.heap.size, 4, none⟩ = some (.int .i64 c) ∧ w'.cell? ⟨w.heap.size, 5, none⟩ = some (.int .i64 i) ∧ w'.cell? ⟨w.heap.size, 6, none⟩ = some (.bool true)) (by kernel_rfl) ?_ (fun hHeld => ?_)
 · exact (HX1.out.kept hK0.drew).cells
 refine tk 0 _ (v := ?_) hHeld ?_ (tk 1 _ (v := ?_) hHeld ?_ (tk 2 _ (v := ?_) hHeld ?_ (tk 3 _ (v := ?_) hHeld ?_ (tk 4 _ (v := ?_) hHeld ?_ (tk 5 _ (v := ?_) hHeld ?_ (tk 6 _ (v := ?_) hHeld ?_ (tk 8 _ (v := ?_) hHeld ?_ (tk 9 _ (v := ?_) hHeld ?_ (tk 10 _ (v := ?_) hHeld ?_ (tk 11 _ (v := ?_) hHeld ?_ ?_))))))))))
 all_goals try (intro w hSw; (try dsimp only at hSw); go_simp; with_reducible rfl)
 try simp only [Act.put, pq]
 refine wpAnyH_ready (rs := [7]) (by kernel_rfl) (by simp) ?_
 refine AllReadyH.cons (o := _) rfl (fun K hK => ?_) AllReadyH.nil
 go_simp
 go_at_call 128
 refine (namedB_any _ _ _ _ _ _ _ _).mono ?_
 rintro e w5 ⟨rfl, hK5⟩
 replace hK5 := Kept.trans (a := wB) hK0.drew hK5
 clear hHeld
 refine hK.out _ _ ?_ (fun hHeld => ?_)
 · exact (HX1.out.kept hK5).cells
 clear hK K
 try simp only [Act.put, pq]
 refine tk 12 _ (v := ?_) hHeld ?_ ?_
 rotate_left
 · (intro w hSw; (try dsimp only at hSw); go_simp; try with_reducible rfl)
 try simp only [Act.put, pq]
 refine tk 13 _ (v := ?_) hHeld ?_ ?_
 rotate_left
 · (intro w hSw; (try dsimp only at hSw); go_simp; try with_reducible rfl)
 try simp only [Act.put, pq]
 refine tk 14 _ (v := ?_) hHeld ?_ ?_
 rotate_left
 · (intro w hSw; (try dsimp only at hSw); go_simp; try with_reducible rfl)
 try simp only [Act.put, pq]
 refine tk 15 _ (v := ?_) hHeld ?_ ?_
 rotate_left
 · (intro w hSw; (try dsimp only at hSw); go_simp; try with_reducible rfl)
 try simp only [Act.put, pq]
 refine tk 16 _ (v := ?_) hHeld ?_ ?_
 rotate_left
 · (intro w hSw; (try dsimp only at hSw); go_simp; try with_reducible rfl)
 try simp only [Act.put, pq]
 refine tk 17 _ (v := ?_) hHeld ?_ ?_
 rotate_left
 · (intro w hSw; (try dsimp only at hSw); go_simp; try with_reducible rfl)
 try simp only [Act.put, pq]
 refine tk 18 _ (v := ?_) hHeld ?_ ?_
 rotate_left
 · (intro w hSw; (try dsimp only at hSw); go_simp; try with_reducible rfl)
 try simp only [Act.put, pq]
 refine wpAnyH_ready (rs := [19]) (by kernel_rfl) (by simp) ?_
 refine AllReadyH.cons (o := _) rfl (fun K hK => ?_) AllReadyH.nil
 go_simp
 go_at_call 129
 refine (hasCarry_any _ _).mono ?_
 rintro e w6 ⟨rfl, rfl⟩
 clear hHeld
 refine hK.out _ _ ?_ (fun hHeld => ?_)
 · exact (HX1.out.kept hK5).cells
 clear hK K
 try simp only [Act.put, pq]
 refine tk 20 _ (v := ?_) hHeld ?_ (tk 21 _ (v := ?_) hHeld ?_ (tk 22 _ (v := ?_) hHeld ?_ ?_))
 all_goals try (intro w hSw; (try dsimp only at hSw); go_simp; with_reducible rfl)
 try simp only [Act.put, pq]
 refine wpAnyH_ready (rs := [23]) (by kernel_rfl) (by simp) ?_
 refine AllReadyH.cons (o := _) rfl (fun K hK => ?_) AllReadyH.nil
 obtain ⟨c0, c1, c2, c3, c4, c5, c6⟩ := (HX2.out.kept hK5).cells
 obtain ⟨f0, f1, f2, f3, f4, f5, f6⟩ := (HX2.out.kept hK5).free
 go_simp
 clear hHeld
 refine hK.out _ _ ?_ (fun hHeld => ?_)
 · exact ((HX1.out.kept hK5).other (by omega)).cells
 clear hK K
 try simp only [Act.put, pq]
 refine wpAnyH_done (by kernel_rfl) ?_ _
 have R := (HX2.out.kept hK5).stored (k' := 2) (op' := op) (a' := a) (b' := I.nb op b) (c' := 0) (i' := i) (u' := I.carry op)
 have RK := (HB.out.trans hK5).store7 (B' := w.heap.size + 1) (by omega) (2) (op) (a) (I.nb op b) (0) (i) (I.carry op)
 unfold store7 at R RK
 generalize (((((((w5.setCell ⟨w.heap.size + 1, 0, none⟩ (.int .i64 (2))).setCell ⟨w.heap.size + 1, 1, none⟩ (.int .i64 (op))).setCell ⟨w.heap.size + 1, 2, none⟩ (.int .i64 (a))).setCell ⟨w.heap.size + 1, 3, none⟩ (.int .i64 (I.nb op b))).setCell ⟨w.heap.size + 1, 4, none⟩ (.int .i64 (0))).setCell ⟨w.heap.size + 1, 5, none⟩ (.int .i64 (i))).setCell ⟨w.heap.size + 1, 6, none⟩ (.bool (I.carry op))) = w7 at R RK ⊢
 obtain ⟨r0, r1, r2, r3, r4, r5, r6⟩ := R.cells
 clear R hK5 HB HX1 HX2 hHeld
 have RK := Lib.hid RK
 go_wp2_with fail
 exact bodyPost_ret (v := .agg #[.int .i64 2, .int .i64 op, .int .i64 a, .int .i64 (I.nb op b), .int .i64 0, .int .i64 i, .bool (I.carry op)]) (by simp [results, Tryz.results115, go_sem, *]) rfl ⟨rfl, RK.out⟩
theorem named_3 (op a b c i : Int) (u : Bool) (w : World) :
 Calls Tryz.prog 115 #[.agg #[.int .i64 3, .int .i64 op, .int .i64 a, .int .i64 b, .int .i64 c, .int .i64 i, .bool u]] w fun e w' => e = .returned (.agg #[.int .i64 3, .int .i64 0, .int .i64 a, .int .i64 0, .int .i64 0, .int .i64 0, .bool false]) ∧ Kept w w' := by
 go_enter Tryz.func115, Tryz.ntmps115
 go_wp2
 exact bodyPost_ret (v := .agg #[.int .i64 3, .int .i64 0, .int .i64 a, .int .i64 0, .int .i64 0, .int .i64 0, .bool false]) (by simp [results, Tryz.results115, go_sem]) rfl ⟨rfl, ((Kept.refl w).alloc _ _).alloc _ _⟩
theorem named_4 (op a b c i : Int) (u : Bool) (w : World) :
 Calls Tryz.prog 115 #[.agg #[.int .i64 4, .int .i64 op, .int .i64 a, .int .i64 b, .int .i64 c, .int .i64 i, .bool u]] w fun e w' => e = .returned (.agg #[.int .i64 4, .int .i64 0, .int .i64 a, .int .i64 0, .int .i64 0, .int .i64 0, .bool false]) ∧ Kept w w' := by
 go_enter Tryz.func115, Tryz.ntmps115
 go_wp2
 exact bodyPost_ret (v := .agg #[.int .i64 4, .int .i64 0, .int .i64 a, .int .i64 0, .int .i64 0, .int .i64 0, .bool false]) (by simp [results, Tryz.results115, go_sem]) rfl ⟨rfl, ((Kept.refl w).alloc _ _).alloc _ _⟩
theorem named_5 (op a b c i : Int) (u : Bool) (w : World) :
 Calls Tryz.prog 115 #[.agg #[.int .i64 5, .int .i64 op, .int .i64 a, .int .i64 b, .int .i64 c, .int .i64 i, .bool u]] w fun e w' => e = .returned (.agg #[.int .i64 5, .int .i64 op, .int .i64 a, .int .i64 b, .int .i64 0, .int .i64 i, .bool false]) ∧ Kept w w' := by
 go_enter Tryz.func115, Tryz.ntmps115
 go_wp2
 exact bodyPost_ret (v := .agg #[.int .i64 5, .int .i64 op, .int .i64 a, .int .i64 b, .int .i64 0, .int .i64 i, .bool false]) (by simp [results, Tryz.results115, go_sem]) rfl ⟨rfl, ((Kept.refl w).alloc _ _).alloc _ _⟩
theorem named_6 (op a b c i : Int) (u : Bool) (w : World) :
 Calls Tryz.prog 115 #[.agg #[.int .i64 6, .int .i64 op, .int .i64 a, .int .i64 b, .int .i64 c, .int .i64 i, .bool u]] w fun e w' => e = .returned (.agg #[.int .i64 6, .int .i64 op, .int .i64 0, .int .i64 0, .int .i64 c, .int .i64 0, .bool u]) ∧ Kept w w' := by
 go_enter Tryz.func115, Tryz.ntmps115
 go_wp2
 exact bodyPost_ret (v := .agg #[.int .i64 6, .int .i64 op, .int .i64 0, .int .i64 0, .int .i64 c, .int .i64 0, .bool u]) (by simp [results, Tryz.results115, go_sem]) rfl ⟨rfl, ((Kept.refl w).alloc _ _).alloc _ _⟩
theorem named_7 (op a b c i : Int) (u : Bool) (w : World) :
 Calls Tryz.prog 115 #[.agg #[.int .i64 7, .int .i64 op, .int .i64 a, .int .i64 b, .int .i64 c, .int .i64 i, .bool u]] w fun e w' => e = .returned (.agg #[.int .i64 7, .int .i64 op, .int .i64 0, .int .i64 0, .int .i64 0, .int .i64 i, .bool u]) ∧ Kept w w' := by
 go_enter Tryz.func115, Tryz.ntmps115
 go_wp2
 exact bodyPost_ret (v := .agg #[.int .i64 7, .int .i64 op, .int .i64 0, .int .i64 0, .int .i64 0, .int .i64 i, .bool u]) (by simp [results, Tryz.results115, go_sem]) rfl ⟨rfl, ((Kept.refl w).alloc _ _).alloc _ _⟩
theorem named_k (k op a b c i : Int) (u : Bool) (h1 : (k == 1) = false) (h2 : (k == 2) = false) (h3 : (k == 3) = false) (h4 : (k == 4) = false) (h5 : (k == 5) = false) (h6 : (k == 6) = false) (h7 : (k == 7) = false) (w : World) :
 Calls Tryz.prog 115 #[.agg #[.int .i64 k, .int .i64 op, .int .i64 a, .int .i64 b, .int .i64 c, .int .i64 i, .bool u]] w fun e w' => e = .returned (.agg #[.int .i64 0, .int .i64 0, .int .i64 0, .int .i64 0, .int .i64 0, .int .i64 0, .bool false]) ∧ Kept w w' := by
 go_enter Tryz.func115, Tryz.ntmps115
 go_wp2
 exact bodyPost_ret (v := .agg #[.int .i64 0, .int .i64 0, .int .i64 0, .int .i64 0, .int .i64 0, .int .i64 0, .bool false]) (by simp [results, Tryz.results115, go_sem]) rfl ⟨rfl, ((Kept.refl w).alloc _ _).alloc _ _⟩
theorem named_any (k op a b c i : Int) (u : Bool) (w : World) :
 Calls Tryz.prog 115 #[.agg #[.int .i64 k, .int .i64 op, .int .i64 a, .int .i64 b, .int .i64 c, .int .i64 i, .bool u]] w fun e w' => e = .returned (.agg #[.int .i64 (I.named ⟨k, op, a, b, c, i, u⟩).k, .int .i64 (I.named ⟨k, op, a, b, c, i, u⟩).op, .int .i64 (I.named ⟨k, op, a, b, c, i, u⟩).a, .int .i64 (I.named ⟨k, op, a, b, c, i, u⟩).b, .int .i64 (I.named ⟨k, op, a, b, c, i, u⟩).c, .int .i64 (I.named ⟨k, op, a, b, c, i, u⟩).i, .bool (I.named ⟨k, op, a, b, c, i, u⟩).u]) ∧ Kept w w' := by
 rcases I.kinds k with rfl | rfl | rfl | rfl | rfl | rfl | rfl | ⟨h1, h2, h3, h4, h5, h6, h7⟩
 · cases u
   · exact named_1f op a b c i w
   · exact named_1t op a b c i w
 · cases u
   · exact named_2f op a b c i w
   · by_cases h0 : op = 0
     · subst h0; exact named_2z a b c i w
     · have hz : (op == 0) = false := by simpa using h0
       have e : (I.named ⟨2, op, a, b, c, i, true⟩).u = I.carry op := by simp [I.named, hz]
       rw [e]
       exact named_2t op a b c i hz w
 · exact named_3 op a b c i u w
 · exact named_4 op a b c i u w
 · exact named_5 op a b c i u w
 · exact named_6 op a b c i u w
 · exact named_7 op a b c i u w
 · have e : I.named ⟨k, op, a, b, c, i, u⟩ = ⟨0, 0, 0, 0, 0, 0, false⟩ := by simp only [beq_eq_false_iff_ne] at *; simp [I.named, *]
   rw [e]
   exact named_k k op a b c i u h1 h2 h3 h4 h5 h6 h7 w
theorem I.cmp_ne {k op a b c i k' op' a' b' c' i' : Int} {u u' : Bool} (h : ¬ (k = k' ∧ op = op' ∧ a = a' ∧ b = b' ∧ c = c' ∧ i = i' ∧ u = u')) (w : World) :
 (if k = k' then if op = op' then if a = a' then if b = b' then if c = c' then if i = i' then if u = u' then (Result.ok (Next.value (Value.bool true)) w : Result Next) else Result.ok (Next.value (Value.bool false)) w else Result.ok (Next.value (Value.bool false)) w else Result.ok (Next.value (Value.bool false)) w else Result.ok (Next.value (Value.bool false)) w else Result.ok (Next.value (Value.bool false)) w else Result.ok (Next.value (Value.bool false)) w else Result.ok (Next.value (Value.bool false)) w) = Result.ok (Next.value (Value.bool false)) w := by
 repeat' split
 all_goals first | rfl | (exfalso; exact h ⟨by assumption, by assumption, by assumption, by assumption, by assumption, by assumption, by assumption⟩)
set_option maxHeartbeats 2000000 in
theorem may_0 (k op a b c i : Int) (u : Bool) (w : World)
 (HN : Hid (∀ w, Calls Tryz.prog 115 #[.agg #[.int .i64 k, .int .i64 op, .int .i64 a, .int .i64 b, .int .i64 c, .int .i64 i, .bool u]] w fun e w' => e = .returned (.agg #[.int .i64 k, .int .i64 op, .int .i64 a, .int .i64 b, .int .i64 c, .int .i64 i, .bool u]) ∧ Kept w w'))
 (HO : Hid (∀ w, Calls Tryz.prog 116 #[.agg #[.int .i64 k, .int .i64 op, .int .i64 a, .int .i64 b, .int .i64 c, .int .i64 i, .bool u]] w fun e w' => e = .returned (.bool true) ∧ Kept w w'))
 (HA : Hid (∀ w, Calls Tryz.prog 117 #[.int .i64 a] w fun e w' => e = .returned (.bool true) ∧ w = w'))
 (HRB : Hid (∀ w, Calls Tryz.prog 117 #[.int .i64 b] w fun e w' => e = .returned (.bool true) ∧ w = w'))
 (HC : Hid (∀ w, Calls Tryz.prog 117 #[.int .i64 c] w fun e w' => e = .returned (.bool true) ∧ w = w'))
 (HI : Hid (∀ w, Calls Tryz.prog 118 #[.agg #[.int .i64 k, .int .i64 op, .int .i64 a, .int .i64 b, .int .i64 c, .int .i64 i, .bool u]] w fun e w' => e = .returned (.bool true) ∧ Kept w w')) :
 Calls Tryz.prog 97 #[.agg #[.int .i64 k, .int .i64 op, .int .i64 a, .int .i64 b, .int .i64 c, .int .i64 i, .bool u]] w fun e w' => e = .returned (.bool true) ∧ Kept w w' := by
 have hK0 := Kept.refl (w.alloc (.cells #[.int .i64 k, .int .i64 op, .int .i64 a, .int .i64 b, .int .i64 c, .int .i64 i, .bool u] 76))
 have X1 := Box.new k op a b c i u w
 have hB := show Kept w (w.alloc (.cells #[.int .i64 k, .int .i64 op, .int .i64 a, .int .i64 b, .int .i64 c, .int .i64 i, .bool u] 76)) from (Kept.refl w).alloc _ _
 go_enter Tryz.func97, Tryz.ntmps97
 go_wp2_with fail
 generalize (w.alloc (.cells #[.int .i64 k, .int .i64 op, .int .i64 a, .int .i64 b, .int .i64 c, .int .i64 i, .bool u] 76)) = wB at hK0 hB X1
 have HB := Lib.hid hB
 have HX1 := Lib.hid X1
 clear hB X1
 refine wp_region_held_drew (S := fun w' => w'.cell? ⟨w.heap.size, 0, none⟩ = some (.int .i64 k) ∧ w'.cell? ⟨w.heap.size, 1, none⟩ = some (.int .i64 op) ∧ w'.cell? ⟨w.heap.size, 2, none⟩ = some (.int .i64 a) ∧ w'.cell? ⟨w.heap.size, 3, none⟩ = some (.int .i64 b) ∧ w'.cell? ⟨w.heap.size, 4, none⟩ = some (.int .i64 c) ∧ w'.cell? ⟨w.heap.size, 5, none⟩ = some (.int .i64 i) ∧ w'.cell? ⟨w.heap.size, 6, none⟩ = some (.bool u)) (by kernel_rfl) ?_ (fun hHeld => ?_)
 · exact (HX1.out.kept hK0.drew).cells
 refine tk 0 _ (v := ?_) hHeld ?_ (tk 1 _ (v := ?_) hHeld ?_ ?_)
 all_goals try (intro w hSw; (try dsimp only at hSw); go_simp; with_reducible rfl)
 try simp only [Act.put, pq]
 refine wpAnyH_ready (rs := [2]) (by kernel_rfl) (by simp) ?_
 refine AllReadyH.cons (o := _) rfl (fun K hK => ?_) AllReadyH.nil
 go_simp
 go_at_call 115
 refine (HN.out _).mono ?_
 rintro e w5 ⟨rfl, hK5⟩
 replace hK5 := Kept.trans hK0.drew hK5
 clear hHeld
 refine hK.out _ _ ?_ (fun hHeld => ?_)
 · exact (HX1.out.kept hK5).cells
 clear hK K
 try simp only [Act.put, pq]
 refine tk 3 _ (v := ?_) hHeld ?_ (tk 4 _ (v := ?_) hHeld ?_ ?_)
 all_goals try (intro w hSw; (try dsimp only at hSw); go_simp; with_reducible rfl)
 try simp only [Act.put, pq]
 refine tk 5 _ (v := ?_) hHeld ?_ ?_
 rotate_left
 · (intro w hSw; (try dsimp only at hSw); go_simp; try with_reducible rfl)
 try simp only [Act.put, pq]
 refine wpAnyH_ready (rs := [6]) (by kernel_rfl) (by simp) ?_
 refine AllReadyH.cons (o := _) rfl (fun K hK => ?_) AllReadyH.nil
 go_simp
 go_at_call 116
 refine (HO.out _).mono ?_
 rintro e w6 ⟨rfl, hK6⟩
 replace hK6 := hK5.trans hK6
 clear hK5
 have hK5 := hK6
 clear hK6
 clear hHeld
 refine hK.out _ _ ?_ (fun hHeld => ?_)
 · exact (HX1.out.kept hK5).cells
 clear hK K
 try simp only [Act.put, pq]
 refine tk 7 _ (v := ?_) hHeld ?_ (tk 8 _ (v := ?_) hHeld ?_ ?_)
 all_goals try (intro w hSw; (try dsimp only at hSw); go_simp; with_reducible rfl)
 try simp only [Act.put, pq]
 refine tk 9 _ (v := ?_) hHeld ?_ ?_
 rotate_left
 · (intro w hSw; (try dsimp only at hSw); go_simp; try with_reducible rfl)
 try simp only [Act.put, pq]
 refine tk 10 _ (v := ?_) hHeld ?_ ?_
 rotate_left
 · (intro w hSw; (try dsimp only at hSw); go_simp; try with_reducible rfl)
 try simp only [Act.put, pq]
 refine wpAnyH_ready (rs := [11]) (by kernel_rfl) (by simp) ?_
 refine AllReadyH.cons (o := _) rfl (fun K hK => ?_) AllReadyH.nil
 go_simp
 go_at_call 117
 refine (HA.out _).mono ?_
 rintro e w6 ⟨rfl, rfl⟩
 clear hHeld
 refine hK.out _ _ ?_ (fun hHeld => ?_)
 · exact (HX1.out.kept hK5).cells
 clear hK K
 try simp only [Act.put, pq]
 refine tk 12 _ (v := ?_) hHeld ?_ (tk 13 _ (v := ?_) hHeld ?_ ?_)
 all_goals try (intro w hSw; (try dsimp only at hSw); go_simp; with_reducible rfl)
 try simp only [Act.put, pq]
 refine tk 14 _ (v := ?_) hHeld ?_ ?_
 rotate_left
 · (intro w hSw; (try dsimp only at hSw); go_simp; try with_reducible rfl)
 try simp only [Act.put, pq]
 refine tk 15 _ (v := ?_) hHeld ?_ ?_
 rotate_left
 · (intro w hSw; (try dsimp only at hSw); go_simp; try with_reducible rfl)
 try simp only [Act.put, pq]
 refine wpAnyH_ready (rs := [16]) (by kernel_rfl) (by simp) ?_
 refine AllReadyH.cons (o := _) rfl (fun K hK => ?_) AllReadyH.nil
 go_simp
 go_at_call 117
 refine (HRB.out _).mono ?_
 rintro e w6 ⟨rfl, rfl⟩
 clear hHeld
 refine hK.out _ _ ?_ (fun hHeld => ?_)
 · exact (HX1.out.kept hK5).cells
 clear hK K
 try simp only [Act.put, pq]
 refine tk 17 _ (v := ?_) hHeld ?_ (tk 18 _ (v := ?_) hHeld ?_ ?_)
 all_goals try (intro w hSw; (try dsimp only at hSw); go_simp; with_reducible rfl)
 try simp only [Act.put, pq]
 refine tk 19 _ (v := ?_) hHeld ?_ ?_
 rotate_left
 · (intro w hSw; (try dsimp only at hSw); go_simp; try with_reducible rfl)
 try simp only [Act.put, pq]
 refine tk 20 _ (v := ?_) hHeld ?_ ?_
 rotate_left
 · (intro w hSw; (try dsimp only at hSw); go_simp; try with_reducible rfl)
 try simp only [Act.put, pq]
 refine wpAnyH_ready (rs := [21]) (by kernel_rfl) (by simp) ?_
 refine AllReadyH.cons (o := _) rfl (fun K hK => ?_) AllReadyH.nil
 go_simp
 go_at_call 117
 refine (HC.out _).mono ?_
 rintro e w6 ⟨rfl, rfl⟩
 clear hHeld
 refine hK.out _ _ ?_ (fun hHeld => ?_)
 · exact (HX1.out.kept hK5).cells
 clear hK K
 try simp only [Act.put, pq]
 refine tk 22 _ (v := ?_) hHeld ?_ (tk 23 _ (v := ?_) hHeld ?_ ?_)
 all_goals try (intro w hSw; (try dsimp only at hSw); go_simp; with_reducible rfl)
 try simp only [Act.put, pq]
 refine tk 24 _ (v := ?_) hHeld ?_ ?_
 rotate_left
 · (intro w hSw; (try dsimp only at hSw); go_simp; try with_reducible rfl)
 try simp only [Act.put, pq]
 refine wpAnyH_ready (rs := [25]) (by kernel_rfl) (by simp) ?_
 refine AllReadyH.cons (o := _) rfl (fun K hK => ?_) AllReadyH.nil
 go_simp
 go_at_call 118
 refine (HI.out _).mono ?_
 rintro e w6 ⟨rfl, hK6⟩
 replace hK6 := hK5.trans hK6
 clear hK5
 have hK5 := hK6
 clear hK6
 clear hHeld
 refine hK.out _ _ ?_ (fun hHeld => ?_)
 · exact (HX1.out.kept hK5).cells
 clear hK K
 try simp only [Act.put, pq]
 refine tk 26 _ (v := ?_) hHeld ?_ (tk 27 _ (v := ?_) hHeld ?_ ?_)
 all_goals try (intro w hSw; (try dsimp only at hSw); go_simp; with_reducible rfl)
 try simp only [Act.put, pq]
 refine wpAnyH_done (by kernel_rfl) ?_ _
 go_wp2_with fail
 go_ret
 exact ⟨rfl, HB.out.trans hK5⟩
set_option maxHeartbeats 2000000 in
theorem may_1 (k op a b c i k' op' a' b' c' i' : Int) (u u' : Bool) (w : World) (hne : ¬ (k = k' ∧ op = op' ∧ a = a' ∧ b = b' ∧ c = c' ∧ i = i' ∧ u = u'))
 (HN : Hid (∀ w, Calls Tryz.prog 115 #[.agg #[.int .i64 k, .int .i64 op, .int .i64 a, .int .i64 b, .int .i64 c, .int .i64 i, .bool u]] w fun e w' => e = .returned (.agg #[.int .i64 (k'), .int .i64 (op'), .int .i64 (a'), .int .i64 (b'), .int .i64 (c'), .int .i64 (i'), .bool (u')]) ∧ Kept w w'))
 :
  Calls Tryz.prog 97 #[.agg #[.int .i64 k, .int .i64 op, .int .i64 a, .int .i64 b, .int .i64 c, .int .i64 i, .bool u]] w fun e w' => e = .returned (.bool false) ∧ Kept w w' := by
  have HE := Lib.hid (I.cmp_ne (u := u) hne)
  clear hne
  have hK0 := Kept.refl (w.alloc (.cells #[.int .i64 k, .int .i64 op, .int .i64 a, .int .i64 b, .int .i64 c, .int .i64 i, .bool u] 76))
  have X1 := Box.new k op a b c i u w
  have hB := show Kept w (w.alloc (.cells #[.int .i64 k, .int .i64 op, .int .i64 a, .int .i64 b, .int .i64 c, .int .i64 i, .bool u] 76)) from (Kept.refl w).alloc _ _
  go_enter Tryz.func97, Tryz.ntmps97
  go_wp2_with fail
  generalize (w.alloc (.cells #[.int .i64 k, .int .i64 op, .int .i64 a, .int .i64 b, .int .i64 c, .int .i64 i, .bool u] 76)) = wB at hK0 hB X1
  have HB := Lib.hid hB
  have HX1 := Lib.hid X1
  clear hB X1
  refine wp_region_held_drew (S := fun w' => w'.cell? ⟨w.heap.size, 0, none⟩ = some (.int .i64 k) ∧ w'.cell? ⟨w.heap.size, 1, none⟩ = some (.int .i64 op) ∧ w'.cell? ⟨w.heap.size, 2, none⟩ = some (.int .i64 a) ∧ w'.cell? ⟨w.heap.size, 3, none⟩ = some (.int .i64 b) ∧ w'.cell? ⟨w.heap.size, 4, none⟩ = some (.int .i64 c) ∧ w'.cell? ⟨w.heap.size, 5, none⟩ = some (.int .i64 i) ∧ w'.cell? ⟨w.heap.size, 6, none⟩ = some (.bool u)) (by kernel_rfl) ?_ (fun hHeld => ?_)
  · exact (HX1.out.kept hK0.drew).cells
  refine tk 0 _ (v := ?_) hHeld ?_ (tk 1 _ (v := ?_) hHeld ?_ ?_)
  all_goals try (intro w hSw; (try dsimp only at hSw); go_simp; with_reducible rfl)
  try simp only [Act.put, pq]
  refine wpAnyH_ready (rs := [2]) (by kernel_rfl) (by simp) ?_
  refine AllReadyH.cons (o := _) rfl (fun K hK => ?_) AllReadyH.nil
  go_simp
  go_at_call 115
  refine (HN.out _).mono ?_
  rintro e w5 ⟨rfl, hK5⟩
  replace hK5 := Kept.trans hK0.drew hK5
  clear hHeld
  refine hK.out _ _ ?_ (fun hHeld => ?_)
  · exact (HX1.out.kept hK5).cells
  clear hK K
  try simp only [Act.put, pq]
  refine tk 3 _ (v := ?_) hHeld ?_ ?_
  rotate_left
  · (intro w hSw; (try dsimp only at hSw); go_simp; exact HE.out _)
  try simp only [Act.put, pq]
  refine tk 4 _ (v := ?_) hHeld ?_ ?_
  rotate_left
  · (intro w hSw; (try dsimp only at hSw); go_simp; try with_reducible rfl)
  try simp only [Act.put, pq]
  refine tu 5 _ hHeld ?_
  try simp only [Act.put, pq]
  refine tu 6 _ hHeld ?_
  try simp only [Act.put, pq]
  refine tk 7 _ (v := ?_) hHeld ?_ (tk 8 _ (v := ?_) hHeld ?_ ?_)
  all_goals try (intro w hSw; (try dsimp only at hSw); go_simp; with_reducible rfl)
  try simp only [Act.put, pq]
  refine tu 9 _ hHeld ?_
  try simp only [Act.put, pq]
  refine tu 10 _ hHeld ?_
  try simp only [Act.put, pq]
  refine tu 11 _ hHeld ?_
  try simp only [Act.put, pq]
  refine tk 12 _ (v := ?_) hHeld ?_ (tk 13 _ (v := ?_) hHeld ?_ ?_)
  all_goals try (intro w hSw; (try dsimp only at hSw); go_simp; with_reducible rfl)
  try simp only [Act.put, pq]
  refine tu 14 _ hHeld ?_
  try simp only [Act.put, pq]
  refine tu 15 _ hHeld ?_
  try simp only [Act.put, pq]
  refine tu 16 _ hHeld ?_
  try simp only [Act.put, pq]
  refine tk 17 _ (v := ?_) hHeld ?_ (tk 18 _ (v := ?_) hHeld ?_ ?_)
  all_goals try (intro w hSw; (try dsimp only at hSw); go_simp; with_reducible rfl)
  try simp only [Act.put, pq]
  refine tu 19 _ hHeld ?_
  try simp only [Act.put, pq]
  refine tu 20 _ hHeld ?_
  try simp only [Act.put, pq]
  refine tu 21 _ hHeld ?_
  try simp only [Act.put, pq]
  refine tk 22 _ (v := ?_) hHeld ?_ (tk 23 _ (v := ?_) hHeld ?_ ?_)
  all_goals try (intro w hSw; (try dsimp only at hSw); go_simp; with_reducible rfl)
  try simp only [Act.put, pq]
  refine tu 24 _ hHeld ?_
  try simp only [Act.put, pq]
  refine tu 25 _ hHeld ?_
  try simp only [Act.put, pq]
  refine tk 26 _ (v := ?_) hHeld ?_ (tk 27 _ (v := ?_) hHeld ?_ ?_)
  all_goals try (intro w hSw; (try dsimp only at hSw); go_simp; with_reducible rfl)
  try simp only [Act.put, pq]
  refine wpAnyH_done (by kernel_rfl) ?_ _
  go_wp2_with fail
  go_ret
  exact ⟨rfl, HB.out.trans hK5⟩
set_option maxHeartbeats 2000000 in
theorem may_2 (k op a b c i : Int) (u : Bool) (w : World)
 (HN : Hid (∀ w, Calls Tryz.prog 115 #[.agg #[.int .i64 k, .int .i64 op, .int .i64 a, .int .i64 b, .int .i64 c, .int .i64 i, .bool u]] w fun e w' => e = .returned (.agg #[.int .i64 k, .int .i64 op, .int .i64 a, .int .i64 b, .int .i64 c, .int .i64 i, .bool u]) ∧ Kept w w'))
 (HO : Hid (∀ w, Calls Tryz.prog 116 #[.agg #[.int .i64 k, .int .i64 op, .int .i64 a, .int .i64 b, .int .i64 c, .int .i64 i, .bool u]] w fun e w' => e = .returned (.bool false) ∧ Kept w w')) :
 Calls Tryz.prog 97 #[.agg #[.int .i64 k, .int .i64 op, .int .i64 a, .int .i64 b, .int .i64 c, .int .i64 i, .bool u]] w fun e w' => e = .returned (.bool false) ∧ Kept w w' := by
 have hK0 := Kept.refl (w.alloc (.cells #[.int .i64 k, .int .i64 op, .int .i64 a, .int .i64 b, .int .i64 c, .int .i64 i, .bool u] 76))
 have X1 := Box.new k op a b c i u w
 have hB := show Kept w (w.alloc (.cells #[.int .i64 k, .int .i64 op, .int .i64 a, .int .i64 b, .int .i64 c, .int .i64 i, .bool u] 76)) from (Kept.refl w).alloc _ _
 go_enter Tryz.func97, Tryz.ntmps97
 go_wp2_with fail
 generalize (w.alloc (.cells #[.int .i64 k, .int .i64 op, .int .i64 a, .int .i64 b, .int .i64 c, .int .i64 i, .bool u] 76)) = wB at hK0 hB X1
 have HB := Lib.hid hB
 have HX1 := Lib.hid X1
 clear hB X1
 refine wp_region_held_drew (S := fun w' => w'.cell? ⟨w.heap.size, 0, none⟩ = some (.int .i64 k) ∧ w'.cell? ⟨w.heap.size, 1, none⟩ = some (.int .i64 op) ∧ w'.cell? ⟨w.heap.size, 2, none⟩ = some (.int .i64 a) ∧ w'.cell? ⟨w.heap.size, 3, none⟩ = some (.int .i64 b) ∧ w'.cell? ⟨w.heap.size, 4, none⟩ = some (.int .i64 c) ∧ w'.cell? ⟨w.heap.size, 5, none⟩ = some (.int .i64 i) ∧ w'.cell? ⟨w.heap.size, 6, none⟩ = some (.bool u)) (by kernel_rfl) ?_ (fun hHeld => ?_)
 · exact (HX1.out.kept hK0.drew).cells
 refine tk 0 _ (v := ?_) hHeld ?_ (tk 1 _ (v := ?_) hHeld ?_ ?_)
 all_goals try (intro w hSw; (try dsimp only at hSw); go_simp; with_reducible rfl)
 try simp only [Act.put, pq]
 refine wpAnyH_ready (rs := [2]) (by kernel_rfl) (by simp) ?_
 refine AllReadyH.cons (o := _) rfl (fun K hK => ?_) AllReadyH.nil
 go_simp
 go_at_call 115
 refine (HN.out _).mono ?_
 rintro e w5 ⟨rfl, hK5⟩
 replace hK5 := Kept.trans hK0.drew hK5
 clear hHeld
 refine hK.out _ _ ?_ (fun hHeld => ?_)
 · exact (HX1.out.kept hK5).cells
 clear hK K
 try simp only [Act.put, pq]
 refine tk 3 _ (v := ?_) hHeld ?_ (tk 4 _ (v := ?_) hHeld ?_ ?_)
 all_goals try (intro w hSw; (try dsimp only at hSw); go_simp; with_reducible rfl)
 try simp only [Act.put, pq]
 refine tk 5 _ (v := ?_) hHeld ?_ ?_
 rotate_left
 · (intro w hSw; (try dsimp only at hSw); go_simp; try with_reducible rfl)
 try simp only [Act.put, pq]
 refine wpAnyH_ready (rs := [6]) (by kernel_rfl) (by simp) ?_
 refine AllReadyH.cons (o := _) rfl (fun K hK => ?_) AllReadyH.nil
 go_simp
 go_at_call 116
 refine (HO.out _).mono ?_
 rintro e w6 ⟨rfl, hK6⟩
 replace hK6 := hK5.trans hK6
 clear hK5
 have hK5 := hK6
 clear hK6
 clear hHeld
 refine hK.out _ _ ?_ (fun hHeld => ?_)
 · exact (HX1.out.kept hK5).cells
 clear hK K
 try simp only [Act.put, pq]
 refine tk 7 _ (v := ?_) hHeld ?_ (tk 8 _ (v := ?_) hHeld ?_ ?_)
 all_goals try (intro w hSw; (try dsimp only at hSw); go_simp; with_reducible rfl)
 try simp only [Act.put, pq]
 refine tu 9 _ hHeld ?_
 try simp only [Act.put, pq]
 refine tu 10 _ hHeld ?_
 try simp only [Act.put, pq]
 refine tu 11 _ hHeld ?_
 try simp only [Act.put, pq]
 refine tk 12 _ (v := ?_) hHeld ?_ (tk 13 _ (v := ?_) hHeld ?_ ?_)
 all_goals try (intro w hSw; (try dsimp only at hSw); go_simp; with_reducible rfl)
 try simp only [Act.put, pq]
 refine tu 14 _ hHeld ?_
 try simp only [Act.put, pq]
 refine tu 15 _ hHeld ?_
 try simp only [Act.put, pq]
 refine tu 16 _ hHeld ?_
 try simp only [Act.put, pq]
 refine tk 17 _ (v := ?_) hHeld ?_ (tk 18 _ (v := ?_) hHeld ?_ ?_)
 all_goals try (intro w hSw; (try dsimp only at hSw); go_simp; with_reducible rfl)
 try simp only [Act.put, pq]
 refine tu 19 _ hHeld ?_
 try simp only [Act.put, pq]
 refine tu 20 _ hHeld ?_
 try simp only [Act.put, pq]
 refine tu 21 _ hHeld ?_
 try simp only [Act.put, pq]
 refine tk 22 _ (v := ?_) hHeld ?_ (tk 23 _ (v := ?_) hHeld ?_ ?_)
 all_goals try (intro w hSw; (try dsimp only at hSw); go_simp; with_reducible rfl)
 try simp only [Act.put, pq]
 refine tu 24 _ hHeld ?_
 try simp only [Act.put, pq]
 refine tu 25 _ hHeld ?_
 try simp only [Act.put, pq]
 refine tk 26 _ (v := ?_) hHeld ?_ (tk 27 _ (v := ?_) hHeld ?_ ?_)
 all_goals try (intro w hSw; (try dsimp only at hSw); go_simp; with_reducible rfl)
 try simp only [Act.put, pq]
 refine wpAnyH_done (by kernel_rfl) ?_ _
 go_wp2_with fail
 go_ret
 exact ⟨rfl, HB.out.trans hK5⟩
set_option maxHeartbeats 2000000 in
theorem may_3 (k op a b c i : Int) (u : Bool) (w : World)
 (HN : Hid (∀ w, Calls Tryz.prog 115 #[.agg #[.int .i64 k, .int .i64 op, .int .i64 a, .int .i64 b, .int .i64 c, .int .i64 i, .bool u]] w fun e w' => e = .returned (.agg #[.int .i64 k, .int .i64 op, .int .i64 a, .int .i64 b, .int .i64 c, .int .i64 i, .bool u]) ∧ Kept w w'))
 (HO : Hid (∀ w, Calls Tryz.prog 116 #[.agg #[.int .i64 k, .int .i64 op, .int .i64 a, .int .i64 b, .int .i64 c, .int .i64 i, .bool u]] w fun e w' => e = .returned (.bool true) ∧ Kept w w'))
 (HA : Hid (∀ w, Calls Tryz.prog 117 #[.int .i64 a] w fun e w' => e = .returned (.bool false) ∧ w = w')) :
 Calls Tryz.prog 97 #[.agg #[.int .i64 k, .int .i64 op, .int .i64 a, .int .i64 b, .int .i64 c, .int .i64 i, .bool u]] w fun e w' => e = .returned (.bool false) ∧ Kept w w' := by
 have hK0 := Kept.refl (w.alloc (.cells #[.int .i64 k, .int .i64 op, .int .i64 a, .int .i64 b, .int .i64 c, .int .i64 i, .bool u] 76))
 have X1 := Box.new k op a b c i u w
 have hB := show Kept w (w.alloc (.cells #[.int .i64 k, .int .i64 op, .int .i64 a, .int .i64 b, .int .i64 c, .int .i64 i, .bool u] 76)) from (Kept.refl w).alloc _ _
 go_enter Tryz.func97, Tryz.ntmps97
 go_wp2_with fail
 generalize (w.alloc (.cells #[.int .i64 k, .int .i64 op, .int .i64 a, .int .i64 b, .int .i64 c, .int .i64 i, .bool u] 76)) = wB at hK0 hB X1
 have HB := Lib.hid hB
 have HX1 := Lib.hid X1
 clear hB X1
 refine wp_region_held_drew (S := fun w' => w'.cell? ⟨w.heap.size, 0, none⟩ = some (.int .i64 k) ∧ w'.cell? ⟨w.heap.size, 1, none⟩ = some (.int .i64 op) ∧ w'.cell? ⟨w.heap.size, 2, none⟩ = some (.int .i64 a) ∧ w'.cell? ⟨w.heap.size, 3, none⟩ = some (.int .i64 b) ∧ w'.cell? ⟨w.heap.size, 4, none⟩ = some (.int .i64 c) ∧ w'.cell? ⟨w.heap.size, 5, none⟩ = some (.int .i64 i) ∧ w'.cell? ⟨w.heap.size, 6, none⟩ = some (.bool u)) (by kernel_rfl) ?_ (fun hHeld => ?_)
 · exact (HX1.out.kept hK0.drew).cells
 refine tk 0 _ (v := ?_) hHeld ?_ (tk 1 _ (v := ?_) hHeld ?_ ?_)
 all_goals try (intro w hSw; (try dsimp only at hSw); go_simp; with_reducible rfl)
 try simp only [Act.put, pq]
 refine wpAnyH_ready (rs := [2]) (by kernel_rfl) (by simp) ?_
 refine AllReadyH.cons (o := _) rfl (fun K hK => ?_) AllReadyH.nil
 go_simp
 go_at_call 115
 refine (HN.out _).mono ?_
 rintro e w5 ⟨rfl, hK5⟩
 replace hK5 := Kept.trans hK0.drew hK5
 clear hHeld
 refine hK.out _ _ ?_ (fun hHeld => ?_)
 · exact (HX1.out.kept hK5).cells
 clear hK K
 try simp only [Act.put, pq]
 refine tk 3 _ (v := ?_) hHeld ?_ (tk 4 _ (v := ?_) hHeld ?_ ?_)
 all_goals try (intro w hSw; (try dsimp only at hSw); go_simp; with_reducible rfl)
 try simp only [Act.put, pq]
 refine tk 5 _ (v := ?_) hHeld ?_ ?_
 rotate_left
 · (intro w hSw; (try dsimp only at hSw); go_simp; try with_reducible rfl)
 try simp only [Act.put, pq]
 refine wpAnyH_ready (rs := [6]) (by kernel_rfl) (by simp) ?_
 refine AllReadyH.cons (o := _) rfl (fun K hK => ?_) AllReadyH.nil
 go_simp
 go_at_call 116
 refine (HO.out _).mono ?_
 rintro e w6 ⟨rfl, hK6⟩
 replace hK6 := hK5.trans hK6
 clear hK5
 have hK5 := hK6
 clear hK6
 clear hHeld
 refine hK.out _ _ ?_ (fun hHeld => ?_)
 · exact (HX1.out.kept hK5).cells
 clear hK K
 try simp only [Act.put, pq]
 refine tk 7 _ (v := ?_) hHeld ?_ (tk 8 _ (v := ?_) hHeld ?_ ?_)
 all_goals try (intro w hSw; (try dsimp only at hSw); go_simp; with_reducible rfl)
 try simp only [Act.put, pq]
 refine tk 9 _ (v := ?_) hHeld ?_ ?_
 rotate_left
 · (intro w hSw; (try dsimp only at hSw); go_simp; try with_reducible rfl)
 try simp only [Act.put, pq]
 refine tk 10 _ (v := ?_) hHeld ?_ ?_
 rotate_left
 · (intro w hSw; (try dsimp only at hSw); go_simp; try with_reducible rfl)
 try simp only [Act.put, pq]
 refine wpAnyH_ready (rs := [11]) (by kernel_rfl) (by simp) ?_
 refine AllReadyH.cons (o := _) rfl (fun K hK => ?_) AllReadyH.nil
 go_simp
 go_at_call 117
 refine (HA.out _).mono ?_
 rintro e w6 ⟨rfl, rfl⟩
 clear hHeld
 refine hK.out _ _ ?_ (fun hHeld => ?_)
 · exact (HX1.out.kept hK5).cells
 clear hK K
 try simp only [Act.put, pq]
 refine tk 12 _ (v := ?_) hHeld ?_ (tk 13 _ (v := ?_) hHeld ?_ ?_)
 all_goals try (intro w hSw; (try dsimp only at hSw); go_simp; with_reducible rfl)
 try simp only [Act.put, pq]
 refine tu 14 _ hHeld ?_
 try simp only [Act.put, pq]
 refine tu 15 _ hHeld ?_
 try simp only [Act.put, pq]
 refine tu 16 _ hHeld ?_
 try simp only [Act.put, pq]
 refine tk 17 _ (v := ?_) hHeld ?_ (tk 18 _ (v := ?_) hHeld ?_ ?_)
 all_goals try (intro w hSw; (try dsimp only at hSw); go_simp; with_reducible rfl)
 try simp only [Act.put, pq]
 refine tu 19 _ hHeld ?_
 try simp only [Act.put, pq]
 refine tu 20 _ hHeld ?_
 try simp only [Act.put, pq]
 refine tu 21 _ hHeld ?_
 try simp only [Act.put, pq]
 refine tk 22 _ (v := ?_) hHeld ?_ (tk 23 _ (v := ?_) hHeld ?_ ?_)
 all_goals try (intro w hSw; (try dsimp only at hSw); go_simp; with_reducible rfl)
 try simp only [Act.put, pq]
 refine tu 24 _ hHeld ?_
 try simp only [Act.put, pq]
 refine tu 25 _ hHeld ?_
 try simp only [Act.put, pq]
 refine tk 26 _ (v := ?_) hHeld ?_ (tk 27 _ (v := ?_) hHeld ?_ ?_)
 all_goals try (intro w hSw; (try dsimp only at hSw); go_simp; with_reducible rfl)
 try simp only [Act.put, pq]
 refine wpAnyH_done (by kernel_rfl) ?_ _
 go_wp2_with fail
 go_ret
 exact ⟨rfl, HB.out.trans hK5⟩
set_option maxHeartbeats 2000000 in
theorem may_4 (k op a b c i : Int) (u : Bool) (w : World)
 (HN : Hid (∀ w, Calls Tryz.prog 115 #[.agg #[.int .i64 k, .int .i64 op, .int .i64 a, .int .i64 b, .int .i64 c, .int .i64 i, .bool u]] w fun e w' => e = .returned (.agg #[.int .i64 k, .int .i64 op, .int .i64 a, .int .i64 b, .int .i64 c, .int .i64 i, .bool u]) ∧ Kept w w'))
 (HO : Hid (∀ w, Calls Tryz.prog 116 #[.agg #[.int .i64 k, .int .i64 op, .int .i64 a, .int .i64 b, .int .i64 c, .int .i64 i, .bool u]] w fun e w' => e = .returned (.bool true) ∧ Kept w w'))
 (HA : Hid (∀ w, Calls Tryz.prog 117 #[.int .i64 a] w fun e w' => e = .returned (.bool true) ∧ w = w'))
 (HRB : Hid (∀ w, Calls Tryz.prog 117 #[.int .i64 b] w fun e w' => e = .returned (.bool false) ∧ w = w')) :
 Calls Tryz.prog 97 #[.agg #[.int .i64 k, .int .i64 op, .int .i64 a, .int .i64 b, .int .i64 c, .int .i64 i, .bool u]] w fun e w' => e = .returned (.bool false) ∧ Kept w w' := by
 have hK0 := Kept.refl (w.alloc (.cells #[.int .i64 k, .int .i64 op, .int .i64 a, .int .i64 b, .int .i64 c, .int .i64 i, .bool u] 76))
 have X1 := Box.new k op a b c i u w
 have hB := show Kept w (w.alloc (.cells #[.int .i64 k, .int .i64 op, .int .i64 a, .int .i64 b, .int .i64 c, .int .i64 i, .bool u] 76)) from (Kept.refl w).alloc _ _
 go_enter Tryz.func97, Tryz.ntmps97
 go_wp2_with fail
 generalize (w.alloc (.cells #[.int .i64 k, .int .i64 op, .int .i64 a, .int .i64 b, .int .i64 c, .int .i64 i, .bool u] 76)) = wB at hK0 hB X1
 have HB := Lib.hid hB
 have HX1 := Lib.hid X1
 clear hB X1
 refine wp_region_held_drew (S := fun w' => w'.cell? ⟨w.heap.size, 0, none⟩ = some (.int .i64 k) ∧ w'.cell? ⟨w.heap.size, 1, none⟩ = some (.int .i64 op) ∧ w'.cell? ⟨w.heap.size, 2, none⟩ = some (.int .i64 a) ∧ w'.cell? ⟨w.heap.size, 3, none⟩ = some (.int .i64 b) ∧ w'.cell? ⟨w.heap.size, 4, none⟩ = some (.int .i64 c) ∧ w'.cell? ⟨w.heap.size, 5, none⟩ = some (.int .i64 i) ∧ w'.cell? ⟨w.heap.size, 6, none⟩ = some (.bool u)) (by kernel_rfl) ?_ (fun hHeld => ?_)
 · exact (HX1.out.kept hK0.drew).cells
 refine tk 0 _ (v := ?_) hHeld ?_ (tk 1 _ (v := ?_) hHeld ?_ ?_)
 all_goals try (intro w hSw; (try dsimp only at hSw); go_simp; with_reducible rfl)
 try simp only [Act.put, pq]
 refine wpAnyH_ready (rs := [2]) (by kernel_rfl) (by simp) ?_
 refine AllReadyH.cons (o := _) rfl (fun K hK => ?_) AllReadyH.nil
 go_simp
 go_at_call 115
 refine (HN.out _).mono ?_
 rintro e w5 ⟨rfl, hK5⟩
 replace hK5 := Kept.trans hK0.drew hK5
 clear hHeld
 refine hK.out _ _ ?_ (fun hHeld => ?_)
 · exact (HX1.out.kept hK5).cells
 clear hK K
 try simp only [Act.put, pq]
 refine tk 3 _ (v := ?_) hHeld ?_ (tk 4 _ (v := ?_) hHeld ?_ ?_)
 all_goals try (intro w hSw; (try dsimp only at hSw); go_simp; with_reducible rfl)
 try simp only [Act.put, pq]
 refine tk 5 _ (v := ?_) hHeld ?_ ?_
 rotate_left
 · (intro w hSw; (try dsimp only at hSw); go_simp; try with_reducible rfl)
 try simp only [Act.put, pq]
 refine wpAnyH_ready (rs := [6]) (by kernel_rfl) (by simp) ?_
 refine AllReadyH.cons (o := _) rfl (fun K hK => ?_) AllReadyH.nil
 go_simp
 go_at_call 116
 refine (HO.out _).mono ?_
 rintro e w6 ⟨rfl, hK6⟩
 replace hK6 := hK5.trans hK6
 clear hK5
 have hK5 := hK6
 clear hK6
 clear hHeld
 refine hK.out _ _ ?_ (fun hHeld => ?_)
 · exact (HX1.out.kept hK5).cells
 clear hK K
 try simp only [Act.put, pq]
 refine tk 7 _ (v := ?_) hHeld ?_ (tk 8 _ (v := ?_) hHeld ?_ ?_)
 all_goals try (intro w hSw; (try dsimp only at hSw); go_simp; with_reducible rfl)
 try simp only [Act.put, pq]
 refine tk 9 _ (v := ?_) hHeld ?_ ?_
 rotate_left
 · (intro w hSw; (try dsimp only at hSw); go_simp; try with_reducible rfl)
 try simp only [Act.put, pq]
 refine tk 10 _ (v := ?_) hHeld ?_ ?_
 rotate_left
 · (intro w hSw; (try dsimp only at hSw); go_simp; try with_reducible rfl)
 try simp only [Act.put, pq]
 refine wpAnyH_ready (rs := [11]) (by kernel_rfl) (by simp) ?_
 refine AllReadyH.cons (o := _) rfl (fun K hK => ?_) AllReadyH.nil
 go_simp
 go_at_call 117
 refine (HA.out _).mono ?_
 rintro e w6 ⟨rfl, rfl⟩
 clear hHeld
 refine hK.out _ _ ?_ (fun hHeld => ?_)
 · exact (HX1.out.kept hK5).cells
 clear hK K
 try simp only [Act.put, pq]
 refine tk 12 _ (v := ?_) hHeld ?_ (tk 13 _ (v := ?_) hHeld ?_ ?_)
 all_goals try (intro w hSw; (try dsimp only at hSw); go_simp; with_reducible rfl)
 try simp only [Act.put, pq]
 refine tk 14 _ (v := ?_) hHeld ?_ ?_
 rotate_left
 · (intro w hSw; (try dsimp only at hSw); go_simp; try with_reducible rfl)
 try simp only [Act.put, pq]
 refine tk 15 _ (v := ?_) hHeld ?_ ?_
 rotate_left
 · (intro w hSw; (try dsimp only at hSw); go_simp; try with_reducible rfl)
 try simp only [Act.put, pq]
 refine wpAnyH_ready (rs := [16]) (by kernel_rfl) (by simp) ?_
 refine AllReadyH.cons (o := _) rfl (fun K hK => ?_) AllReadyH.nil
 go_simp
 go_at_call 117
 refine (HRB.out _).mono ?_
 rintro e w6 ⟨rfl, rfl⟩
 clear hHeld
 refine hK.out _ _ ?_ (fun hHeld => ?_)
 · exact (HX1.out.kept hK5).cells
 clear hK K
 try simp only [Act.put, pq]
 refine tk 17 _ (v := ?_) hHeld ?_ (tk 18 _ (v := ?_) hHeld ?_ ?_)
 all_goals try (intro w hSw; (try dsimp only at hSw); go_simp; with_reducible rfl)
 try simp only [Act.put, pq]
 refine tu 19 _ hHeld ?_
 try simp only [Act.put, pq]
 refine tu 20 _ hHeld ?_
 try simp only [Act.put, pq]
 refine tu 21 _ hHeld ?_
 try simp only [Act.put, pq]
 refine tk 22 _ (v := ?_) hHeld ?_ (tk 23 _ (v := ?_) hHeld ?_ ?_)
 all_goals try (intro w hSw; (try dsimp only at hSw); go_simp; with_reducible rfl)
 try simp only [Act.put, pq]
 refine tu 24 _ hHeld ?_
 try simp only [Act.put, pq]
 refine tu 25 _ hHeld ?_
 try simp only [Act.put, pq]
 refine tk 26 _ (v := ?_) hHeld ?_ (tk 27 _ (v := ?_) hHeld ?_ ?_)
 all_goals try (intro w hSw; (try dsimp only at hSw); go_simp; with_reducible rfl)
 try simp only [Act.put, pq]
 refine wpAnyH_done (by kernel_rfl) ?_ _
 go_wp2_with fail
 go_ret
 exact ⟨rfl, HB.out.trans hK5⟩
set_option maxHeartbeats 2000000 in
theorem may_5 (k op a b c i : Int) (u : Bool) (w : World)
 (HN : Hid (∀ w, Calls Tryz.prog 115 #[.agg #[.int .i64 k, .int .i64 op, .int .i64 a, .int .i64 b, .int .i64 c, .int .i64 i, .bool u]] w fun e w' => e = .returned (.agg #[.int .i64 k, .int .i64 op, .int .i64 a, .int .i64 b, .int .i64 c, .int .i64 i, .bool u]) ∧ Kept w w'))
 (HO : Hid (∀ w, Calls Tryz.prog 116 #[.agg #[.int .i64 k, .int .i64 op, .int .i64 a, .int .i64 b, .int .i64 c, .int .i64 i, .bool u]] w fun e w' => e = .returned (.bool true) ∧ Kept w w'))
 (HA : Hid (∀ w, Calls Tryz.prog 117 #[.int .i64 a] w fun e w' => e = .returned (.bool true) ∧ w = w'))
 (HRB : Hid (∀ w, Calls Tryz.prog 117 #[.int .i64 b] w fun e w' => e = .returned (.bool true) ∧ w = w'))
 (HC : Hid (∀ w, Calls Tryz.prog 117 #[.int .i64 c] w fun e w' => e = .returned (.bool false) ∧ w = w')) :
 Calls Tryz.prog 97 #[.agg #[.int .i64 k, .int .i64 op, .int .i64 a, .int .i64 b, .int .i64 c, .int .i64 i, .bool u]] w fun e w' => e = .returned (.bool false) ∧ Kept w w' := by
 have hK0 := Kept.refl (w.alloc (.cells #[.int .i64 k, .int .i64 op, .int .i64 a, .int .i64 b, .int .i64 c, .int .i64 i, .bool u] 76))
 have X1 := Box.new k op a b c i u w
 have hB := show Kept w (w.alloc (.cells #[.int .i64 k, .int .i64 op, .int .i64 a, .int .i64 b, .int .i64 c, .int .i64 i, .bool u] 76)) from (Kept.refl w).alloc _ _
 go_enter Tryz.func97, Tryz.ntmps97
 go_wp2_with fail
 generalize (w.alloc (.cells #[.int .i64 k, .int .i64 op, .int .i64 a, .int .i64 b, .int .i64 c, .int .i64 i, .bool u] 76)) = wB at hK0 hB X1
 have HB := Lib.hid hB
 have HX1 := Lib.hid X1
 clear hB X1
 refine wp_region_held_drew (S := fun w' => w'.cell? ⟨w.heap.size, 0, none⟩ = some (.int .i64 k) ∧ w'.cell? ⟨w.heap.size, 1, none⟩ = some (.int .i64 op) ∧ w'.cell? ⟨w.heap.size, 2, none⟩ = some (.int .i64 a) ∧ w'.cell? ⟨w.heap.size, 3, none⟩ = some (.int .i64 b) ∧ w'.cell? ⟨w.heap.size, 4, none⟩ = some (.int .i64 c) ∧ w'.cell? ⟨w.heap.size, 5, none⟩ = some (.int .i64 i) ∧ w'.cell? ⟨w.heap.size, 6, none⟩ = some (.bool u)) (by kernel_rfl) ?_ (fun hHeld => ?_)
 · exact (HX1.out.kept hK0.drew).cells
 refine tk 0 _ (v := ?_) hHeld ?_ (tk 1 _ (v := ?_) hHeld ?_ ?_)
 all_goals try (intro w hSw; (try dsimp only at hSw); go_simp; with_reducible rfl)
 try simp only [Act.put, pq]
 refine wpAnyH_ready (rs := [2]) (by kernel_rfl) (by simp) ?_
 refine AllReadyH.cons (o := _) rfl (fun K hK => ?_) AllReadyH.nil
 go_simp
 go_at_call 115
 refine (HN.out _).mono ?_
 rintro e w5 ⟨rfl, hK5⟩
 replace hK5 := Kept.trans hK0.drew hK5
 clear hHeld
 refine hK.out _ _ ?_ (fun hHeld => ?_)
 · exact (HX1.out.kept hK5).cells
 clear hK K
 try simp only [Act.put, pq]
 refine tk 3 _ (v := ?_) hHeld ?_ (tk 4 _ (v := ?_) hHeld ?_ ?_)
 all_goals try (intro w hSw; (try dsimp only at hSw); go_simp; with_reducible rfl)
 try simp only [Act.put, pq]
 refine tk 5 _ (v := ?_) hHeld ?_ ?_
 rotate_left
 · (intro w hSw; (try dsimp only at hSw); go_simp; try with_reducible rfl)
 try simp only [Act.put, pq]
 refine wpAnyH_ready (rs := [6]) (by kernel_rfl) (by simp) ?_
 refine AllReadyH.cons (o := _) rfl (fun K hK => ?_) AllReadyH.nil
 go_simp
 go_at_call 116
 refine (HO.out _).mono ?_
 rintro e w6 ⟨rfl, hK6⟩
 replace hK6 := hK5.trans hK6
 clear hK5
 have hK5 := hK6
 clear hK6
 clear hHeld
 refine hK.out _ _ ?_ (fun hHeld => ?_)
 · exact (HX1.out.kept hK5).cells
 clear hK K
 try simp only [Act.put, pq]
 refine tk 7 _ (v := ?_) hHeld ?_ (tk 8 _ (v := ?_) hHeld ?_ ?_)
 all_goals try (intro w hSw; (try dsimp only at hSw); go_simp; with_reducible rfl)
 try simp only [Act.put, pq]
 refine tk 9 _ (v := ?_) hHeld ?_ ?_
 rotate_left
 · (intro w hSw; (try dsimp only at hSw); go_simp; try with_reducible rfl)
 try simp only [Act.put, pq]
 refine tk 10 _ (v := ?_) hHeld ?_ ?_
 rotate_left
 · (intro w hSw; (try dsimp only at hSw); go_simp; try with_reducible rfl)
 try simp only [Act.put, pq]
 refine wpAnyH_ready (rs := [11]) (by kernel_rfl) (by simp) ?_
 refine AllReadyH.cons (o := _) rfl (fun K hK => ?_) AllReadyH.nil
 go_simp
 go_at_call 117
 refine (HA.out _).mono ?_
 rintro e w6 ⟨rfl, rfl⟩
 clear hHeld
 refine hK.out _ _ ?_ (fun hHeld => ?_)
 · exact (HX1.out.kept hK5).cells
 clear hK K
 try simp only [Act.put, pq]
 refine tk 12 _ (v := ?_) hHeld ?_ (tk 13 _ (v := ?_) hHeld ?_ ?_)
 all_goals try (intro w hSw; (try dsimp only at hSw); go_simp; with_reducible rfl)
 try simp only [Act.put, pq]
 refine tk 14 _ (v := ?_) hHeld ?_ ?_
 rotate_left
 · (intro w hSw; (try dsimp only at hSw); go_simp; try with_reducible rfl)
 try simp only [Act.put, pq]
 refine tk 15 _ (v := ?_) hHeld ?_ ?_
 rotate_left
 · (intro w hSw; (try dsimp only at hSw); go_simp; try with_reducible rfl)
 try simp only [Act.put, pq]
 refine wpAnyH_ready (rs := [16]) (by kernel_rfl) (by simp) ?_
 refine AllReadyH.cons (o := _) rfl (fun K hK => ?_) AllReadyH.nil
 go_simp
 go_at_call 117
 refine (HRB.out _).mono ?_
 rintro e w6 ⟨rfl, rfl⟩
 clear hHeld
 refine hK.out _ _ ?_ (fun hHeld => ?_)
 · exact (HX1.out.kept hK5).cells
 clear hK K
 try simp only [Act.put, pq]
 refine tk 17 _ (v := ?_) hHeld ?_ (tk 18 _ (v := ?_) hHeld ?_ ?_)
 all_goals try (intro w hSw; (try dsimp only at hSw); go_simp; with_reducible rfl)
 try simp only [Act.put, pq]
 refine tk 19 _ (v := ?_) hHeld ?_ ?_
 rotate_left
 · (intro w hSw; (try dsimp only at hSw); go_simp; try with_reducible rfl)
 try simp only [Act.put, pq]
 refine tk 20 _ (v := ?_) hHeld ?_ ?_
 rotate_left
 · (intro w hSw; (try dsimp only at hSw); go_simp; try with_reducible rfl)
 try simp only [Act.put, pq]
 refine wpAnyH_ready (rs := [21]) (by kernel_rfl) (by simp) ?_
 refine AllReadyH.cons (o := _) rfl (fun K hK => ?_) AllReadyH.nil
 go_simp
 go_at_call 117
 refine (HC.out _).mono ?_
 rintro e w6 ⟨rfl, rfl⟩
 clear hHeld
 refine hK.out _ _ ?_ (fun hHeld => ?_)
 · exact (HX1.out.kept hK5).cells
 clear hK K
 try simp only [Act.put, pq]
 refine tk 22 _ (v := ?_) hHeld ?_ (tk 23 _ (v := ?_) hHeld ?_ ?_)
 all_goals try (intro w hSw; (try dsimp only at hSw); go_simp; with_reducible rfl)
 try simp only [Act.put, pq]
 refine tu 24 _ hHeld ?_
 try simp only [Act.put, pq]
 refine tu 25 _ hHeld ?_
 try simp only [Act.put, pq]
 refine tk 26 _ (v := ?_) hHeld ?_ (tk 27 _ (v := ?_) hHeld ?_ ?_)
 all_goals try (intro w hSw; (try dsimp only at hSw); go_simp; with_reducible rfl)
 try simp only [Act.put, pq]
 refine wpAnyH_done (by kernel_rfl) ?_ _
 go_wp2_with fail
 go_ret
 exact ⟨rfl, HB.out.trans hK5⟩
set_option maxHeartbeats 2000000 in
theorem may_6 (k op a b c i : Int) (u : Bool) (w : World)
 (HN : Hid (∀ w, Calls Tryz.prog 115 #[.agg #[.int .i64 k, .int .i64 op, .int .i64 a, .int .i64 b, .int .i64 c, .int .i64 i, .bool u]] w fun e w' => e = .returned (.agg #[.int .i64 k, .int .i64 op, .int .i64 a, .int .i64 b, .int .i64 c, .int .i64 i, .bool u]) ∧ Kept w w'))
 (HO : Hid (∀ w, Calls Tryz.prog 116 #[.agg #[.int .i64 k, .int .i64 op, .int .i64 a, .int .i64 b, .int .i64 c, .int .i64 i, .bool u]] w fun e w' => e = .returned (.bool true) ∧ Kept w w'))
 (HA : Hid (∀ w, Calls Tryz.prog 117 #[.int .i64 a] w fun e w' => e = .returned (.bool true) ∧ w = w'))
 (HRB : Hid (∀ w, Calls Tryz.prog 117 #[.int .i64 b] w fun e w' => e = .returned (.bool true) ∧ w = w'))
 (HC : Hid (∀ w, Calls Tryz.prog 117 #[.int .i64 c] w fun e w' => e = .returned (.bool true) ∧ w = w'))
 (HI : Hid (∀ w, Calls Tryz.prog 118 #[.agg #[.int .i64 k, .int .i64 op, .int .i64 a, .int .i64 b, .int .i64 c, .int .i64 i, .bool u]] w fun e w' => e = .returned (.bool false) ∧ Kept w w')) :
 Calls Tryz.prog 97 #[.agg #[.int .i64 k, .int .i64 op, .int .i64 a, .int .i64 b, .int .i64 c, .int .i64 i, .bool u]] w fun e w' => e = .returned (.bool false) ∧ Kept w w' := by
 have hK0 := Kept.refl (w.alloc (.cells #[.int .i64 k, .int .i64 op, .int .i64 a, .int .i64 b, .int .i64 c, .int .i64 i, .bool u] 76))
 have X1 := Box.new k op a b c i u w
 have hB := show Kept w (w.alloc (.cells #[.int .i64 k, .int .i64 op, .int .i64 a, .int .i64 b, .int .i64 c, .int .i64 i, .bool u] 76)) from (Kept.refl w).alloc _ _
 go_enter Tryz.func97, Tryz.ntmps97
 go_wp2_with fail
 generalize (w.alloc (.cells #[.int .i64 k, .int .i64 op, .int .i64 a, .int .i64 b, .int .i64 c, .int .i64 i, .bool u] 76)) = wB at hK0 hB X1
 have HB := Lib.hid hB
 have HX1 := Lib.hid X1
 clear hB X1
 refine wp_region_held_drew (S := fun w' => w'.cell? ⟨w.heap.size, 0, none⟩ = some (.int .i64 k) ∧ w'.cell? ⟨w.heap.size, 1, none⟩ = some (.int .i64 op) ∧ w'.cell? ⟨w.heap.size, 2, none⟩ = some (.int .i64 a) ∧ w'.cell? ⟨w.heap.size, 3, none⟩ = some (.int .i64 b) ∧ w'.cell? ⟨w.heap.size, 4, none⟩ = some (.int .i64 c) ∧ w'.cell? ⟨w.heap.size, 5, none⟩ = some (.int .i64 i) ∧ w'.cell? ⟨w.heap.size, 6, none⟩ = some (.bool u)) (by kernel_rfl) ?_ (fun hHeld => ?_)
 · exact (HX1.out.kept hK0.drew).cells
 refine tk 0 _ (v := ?_) hHeld ?_ (tk 1 _ (v := ?_) hHeld ?_ ?_)
 all_goals try (intro w hSw; (try dsimp only at hSw); go_simp; with_reducible rfl)
 try simp only [Act.put, pq]
 refine wpAnyH_ready (rs := [2]) (by kernel_rfl) (by simp) ?_
 refine AllReadyH.cons (o := _) rfl (fun K hK => ?_) AllReadyH.nil
 go_simp
 go_at_call 115
 refine (HN.out _).mono ?_
 rintro e w5 ⟨rfl, hK5⟩
 replace hK5 := Kept.trans hK0.drew hK5
 clear hHeld
 refine hK.out _ _ ?_ (fun hHeld => ?_)
 · exact (HX1.out.kept hK5).cells
 clear hK K
 try simp only [Act.put, pq]
 refine tk 3 _ (v := ?_) hHeld ?_ (tk 4 _ (v := ?_) hHeld ?_ ?_)
 all_goals try (intro w hSw; (try dsimp only at hSw); go_simp; with_reducible rfl)
 try simp only [Act.put, pq]
 refine tk 5 _ (v := ?_) hHeld ?_ ?_
 rotate_left
 · (intro w hSw; (try dsimp only at hSw); go_simp; try with_reducible rfl)
 try simp only [Act.put, pq]
 refine wpAnyH_ready (rs := [6]) (by kernel_rfl) (by simp) ?_
 refine AllReadyH.cons (o := _) rfl (fun K hK => ?_) AllReadyH.nil
 go_simp
 go_at_call 116
 refine (HO.out _).mono ?_
 rintro e w6 ⟨rfl, hK6⟩
 replace hK6 := hK5.trans hK6
 clear hK5
 have hK5 := hK6
 clear hK6
 clear hHeld
 refine hK.out _ _ ?_ (fun hHeld => ?_)
 · exact (HX1.out.kept hK5).cells
 clear hK K
 try simp only [Act.put, pq]
 refine tk 7 _ (v := ?_) hHeld ?_ (tk 8 _ (v := ?_) hHeld ?_ ?_)
 all_goals try (intro w hSw; (try dsimp only at hSw); go_simp; with_reducible rfl)
 try simp only [Act.put, pq]
 refine tk 9 _ (v := ?_) hHeld ?_ ?_
 rotate_left
 · (intro w hSw; (try dsimp only at hSw); go_simp; try with_reducible rfl)
 try simp only [Act.put, pq]
 refine tk 10 _ (v := ?_) hHeld ?_ ?_
 rotate_left
 · (intro w hSw; (try dsimp only at hSw); go_simp; try with_reducible rfl)
 try simp only [Act.put, pq]
 refine wpAnyH_ready (rs := [11]) (by kernel_rfl) (by simp) ?_
 refine AllReadyH.cons (o := _) rfl (fun K hK => ?_) AllReadyH.nil
 go_simp
 go_at_call 117
 refine (HA.out _).mono ?_
 rintro e w6 ⟨rfl, rfl⟩
 clear hHeld
 refine hK.out _ _ ?_ (fun hHeld => ?_)
 · exact (HX1.out.kept hK5).cells
 clear hK K
 try simp only [Act.put, pq]
 refine tk 12 _ (v := ?_) hHeld ?_ (tk 13 _ (v := ?_) hHeld ?_ ?_)
 all_goals try (intro w hSw; (try dsimp only at hSw); go_simp; with_reducible rfl)
 try simp only [Act.put, pq]
 refine tk 14 _ (v := ?_) hHeld ?_ ?_
 rotate_left
 · (intro w hSw; (try dsimp only at hSw); go_simp; try with_reducible rfl)
 try simp only [Act.put, pq]
 refine tk 15 _ (v := ?_) hHeld ?_ ?_
 rotate_left
 · (intro w hSw; (try dsimp only at hSw); go_simp; try with_reducible rfl)
 try simp only [Act.put, pq]
 refine wpAnyH_ready (rs := [16]) (by kernel_rfl) (by simp) ?_
 refine AllReadyH.cons (o := _) rfl (fun K hK => ?_) AllReadyH.nil
 go_simp
 go_at_call 117
 refine (HRB.out _).mono ?_
 rintro e w6 ⟨rfl, rfl⟩
 clear hHeld
 refine hK.out _ _ ?_ (fun hHeld => ?_)
 · exact (HX1.out.kept hK5).cells
 clear hK K
 try simp only [Act.put, pq]
 refine tk 17 _ (v := ?_) hHeld ?_ (tk 18 _ (v := ?_) hHeld ?_ ?_)
 all_goals try (intro w hSw; (try dsimp only at hSw); go_simp; with_reducible rfl)
 try simp only [Act.put, pq]
 refine tk 19 _ (v := ?_) hHeld ?_ ?_
 rotate_left
 · (intro w hSw; (try dsimp only at hSw); go_simp; try with_reducible rfl)
 try simp only [Act.put, pq]
 refine tk 20 _ (v := ?_) hHeld ?_ ?_
 rotate_left
 · (intro w hSw; (try dsimp only at hSw); go_simp; try with_reducible rfl)
 try simp only [Act.put, pq]
 refine wpAnyH_ready (rs := [21]) (by kernel_rfl) (by simp) ?_
 refine AllReadyH.cons (o := _) rfl (fun K hK => ?_) AllReadyH.nil
 go_simp
 go_at_call 117
 refine (HC.out _).mono ?_
 rintro e w6 ⟨rfl, rfl⟩
 clear hHeld
 refine hK.out _ _ ?_ (fun hHeld => ?_)
 · exact (HX1.out.kept hK5).cells
 clear hK K
 try simp only [Act.put, pq]
 refine tk 22 _ (v := ?_) hHeld ?_ (tk 23 _ (v := ?_) hHeld ?_ ?_)
 all_goals try (intro w hSw; (try dsimp only at hSw); go_simp; with_reducible rfl)
 try simp only [Act.put, pq]
 refine tk 24 _ (v := ?_) hHeld ?_ ?_
 rotate_left
 · (intro w hSw; (try dsimp only at hSw); go_simp; try with_reducible rfl)
 try simp only [Act.put, pq]
 refine wpAnyH_ready (rs := [25]) (by kernel_rfl) (by simp) ?_
 refine AllReadyH.cons (o := _) rfl (fun K hK => ?_) AllReadyH.nil
 go_simp
 go_at_call 118
 refine (HI.out _).mono ?_
 rintro e w6 ⟨rfl, hK6⟩
 replace hK6 := hK5.trans hK6
 clear hK5
 have hK5 := hK6
 clear hK6
 clear hHeld
 refine hK.out _ _ ?_ (fun hHeld => ?_)
 · exact (HX1.out.kept hK5).cells
 clear hK K
 try simp only [Act.put, pq]
 refine tk 26 _ (v := ?_) hHeld ?_ (tk 27 _ (v := ?_) hHeld ?_ ?_)
 all_goals try (intro w hSw; (try dsimp only at hSw); go_simp; with_reducible rfl)
 try simp only [Act.put, pq]
 refine wpAnyH_done (by kernel_rfl) ?_ _
 go_wp2_with fail
 go_ret
 exact ⟨rfl, HB.out.trans hK5⟩
theorem may_any (k op a b c i : Int) (u : Bool) (w : World) :
 Calls Tryz.prog 97 #[.agg #[.int .i64 k, .int .i64 op, .int .i64 a, .int .i64 b, .int .i64 c, .int .i64 i, .bool u]] w fun e w' => e = .returned (.bool (I.may ⟨k, op, a, b, c, i, u⟩)) ∧ Kept w w' := by
 rw [← I.may_named]
 have HN := Lib.hid (named_any k op a b c i u)
 have HO := Lib.hid (isOp_any k op a b c i u)
 have HA := Lib.hid (isReg_any a)
 have HRB := Lib.hid (isReg_any b)
 have HC := Lib.hid (isReg_any c)
 have HI := Lib.hid (isNum_any k op a b c i u)
 by_cases hx : (⟨k, op, a, b, c, i, u⟩ : I.Ins) = I.named ⟨k, op, a, b, c, i, u⟩
 · rw [← hx] at HN
   rw [decide_eq_true hx]
   simp only [Bool.true_and] at *
   generalize I.isOp k op = e2 at *
   generalize I.reg a = e3 at *
   generalize I.reg b = e4 at *
   generalize I.reg c = e5 at *
   generalize I.isNum k op i u = e6 at *
   cases e2
   · exact may_2 k op a b c i u w HN HO
   cases e3
   · exact may_3 k op a b c i u w HN HO HA
   cases e4
   · exact may_4 k op a b c i u w HN HO HA HRB
   cases e5
   · exact may_5 k op a b c i u w HN HO HA HRB HC
   cases e6
   · exact may_6 k op a b c i u w HN HO HA HRB HC HI
   · exact may_0 k op a b c i u w HN HO HA HRB HC HI
 · rw [decide_eq_false hx]
   simp only [Bool.false_and]
   exact may_1 k op a b c i _ _ _ _ _ _ u _ w (fun ⟨h1, h2, h3, h4, h5, h6, h7⟩ => hx (I.ins_ext h1 h2 h3 h4 h5 h6 h7)) HN
def A.fun' (f : Nat) : Value := .func (.func f) #[] #[]
def A.row (op : Int) (f : Nat) : Array Value := #[.int .i64 op, .func (.func f) #[] #[]]
@[simp] theorem A.size_row (op : Int) (f : Nat) : (A.row op f).size = 2 := rfl
@[simp] theorem A.row_0 (op : Int) (f : Nat) : (A.row op f)[0]? = some (.int .i64 op) := rfl
@[simp] theorem A.row_1 (op : Int) (f : Nat) : (A.row op f)[1]? = some (.func (.func f) #[] #[]) := rfl
theorem A.one_row (op : Int) (f : Nat) : (A.row op f).all (·.oneCell') = true := by simp [A.row, Value.oneCell']
def A.fn (k : Nat) : Nat := if k = 0 then 133 else if k = 1 then 134 else if k = 2 then 136 else if k = 3 then 137 else if k = 4 then 138 else if k = 5 then 139 else if k = 6 then 140 else if k = 7 then 141 else if k = 8 then 142 else if k = 9 then 146 else if k = 10 then 148 else 151
def A.table : Array Value := #[.int .i64 0, .func (.func 133) #[] #[], .int .i64 1, .func (.func 134) #[] #[], .int .i64 2, .func (.func 136) #[] #[], .int .i64 3, .func (.func 137) #[] #[], .int .i64 4, .func (.func 138) #[] #[], .int .i64 5, .func (.func 139) #[] #[], .int .i64 6, .func (.func 140) #[] #[], .int .i64 7, .func (.func 141) #[] #[], .int .i64 8, .func (.func 142) #[] #[], .int .i64 9, .func (.func 146) #[] #[], .int .i64 10, .func (.func 148) #[] #[], .int .i64 11, .func (.func 151) #[] #[]]
theorem A.one_table : A.table.all (·.oneCell') = true := by simp [A.table, Value.oneCell']
theorem A.size_table : A.table.size = 24 := rfl
theorem A.table_row (k : Nat) (hk : k < 12) : A.table.extract (Int.toNat k * 2) (Int.toNat k * 2 + 2) = A.row k (A.fn k) := by
 have : k = 0 ∨ k = 1 ∨ k = 2 ∨ k = 3 ∨ k = 4 ∨ k = 5 ∨ k = 6 ∨ k = 7 ∨ k = 8 ∨ k = 9 ∨ k = 10 ∨ k = 11 := by omega
 rcases this with rfl | rfl | rfl | rfl | rfl | rfl | rfl | rfl | rfl | rfl | rfl | rfl <;> simp [A.table, A.row, A.fn]
theorem A.infoRow (op : Int) (f : Nat) : (Tryz.prog.info? 143).map (·.size) = some (A.row op f).size := by rw [A.size_row]; kernel_rfl
theorem A.infoTab : (Tryz.prog.info? 166).map (·.size) = some A.table.size := by rw [A.size_table]; kernel_rfl
theorem A.shapeRow : shapeOf Tryz.prog 143 = some (#[.int .i64 0, .nilFunc], [(0, 1), (1, 1)]) := by kernel_rfl
theorem A.builtRow (op : Int) (f : Nat) : Tryz.prog.built 143 [(0, .int .i64 op), (1, .func (.func f) #[] #[])] = some (A.row op f) := by
 rw [built_of A.shapeRow]
 simp [Instr.fill, Value.cells, A.row]
theorem A.builtRow1 (f : Nat) : Tryz.prog.built 143 [(1, .func (.func f) #[] #[])] = some (A.row 0 f) := by
 rw [built_of A.shapeRow]
 simp [Instr.fill, Value.cells, A.row]
theorem A.builtTab : Tryz.prog.built 166 [(0, .agg (A.row 0 133)), (1, .agg (A.row 1 134)), (2, .agg (A.row 2 136)), (3, .agg (A.row 3 137)), (4, .agg (A.row 4 138)), (5, .agg (A.row 5 139)), (6, .agg (A.row 6 140)), (7, .agg (A.row 7 141)), (8, .agg (A.row 8 142)), (9, .agg (A.row 9 146)), (10, .agg (A.row 10 148)), (11, .agg (A.row 11 151))] = some A.table := by kernel_rfl
theorem operations_any (w : World) : Calls Tryz.prog 132 #[] w fun e w' => e = .returned (.agg A.table) ∧ Kept w w' := by
 go_enter Tryz.func132, Tryz.ntmps132
 go_upto_region 1 with (fail)
 refine wp_region_lit ?_
 refine build_has (o := ⟨some 1, _, _, _, _, _⟩) rfl 143 _ rfl (A.row 0 133) (by go_simp; exact A.builtRow _ _) ?_
 simp only [Act.put, List.setIfInBounds_toArray, List.set_cons_zero, List.set_cons_succ]
 refine build_has (o := ⟨some 2, _, _, _, _, _⟩) rfl 143 _ rfl (A.row 1 134) (by go_simp; exact A.builtRow _ _) ?_
 simp only [Act.put, List.setIfInBounds_toArray, List.set_cons_zero, List.set_cons_succ]
 refine build_has (o := ⟨some 3, _, _, _, _, _⟩) rfl 143 _ rfl (A.row 2 136) (by go_simp; exact A.builtRow _ _) ?_
 simp only [Act.put, List.setIfInBounds_toArray, List.set_cons_zero, List.set_cons_succ]
 refine build_has (o := ⟨some 4, _, _, _, _, _⟩) rfl 143 _ rfl (A.row 3 137) (by go_simp; exact A.builtRow _ _) ?_
 simp only [Act.put, List.setIfInBounds_toArray, List.set_cons_zero, List.set_cons_succ]
 refine build_has (o := ⟨some 5, _, _, _, _, _⟩) rfl 143 _ rfl (A.row 4 138) (by go_simp; exact A.builtRow _ _) ?_
 simp only [Act.put, List.setIfInBounds_toArray, List.set_cons_zero, List.set_cons_succ]
 refine build_has (o := ⟨some 6, _, _, _, _, _⟩) rfl 143 _ rfl (A.row 5 139) (by go_simp; exact A.builtRow _ _) ?_
 simp only [Act.put, List.setIfInBounds_toArray, List.set_cons_zero, List.set_cons_succ]
 refine build_has (o := ⟨some 7, _, _, _, _, _⟩) rfl 143 _ rfl (A.row 6 140) (by go_simp; exact A.builtRow _ _) ?_
 simp only [Act.put, List.setIfInBounds_toArray, List.set_cons_zero, List.set_cons_succ]
 refine build_has (o := ⟨some 8, _, _, _, _, _⟩) rfl 143 _ rfl (A.row 7 141) (by go_simp; exact A.builtRow _ _) ?_
 simp only [Act.put, List.setIfInBounds_toArray, List.set_cons_zero, List.set_cons_succ]
 refine build_has (o := ⟨some 9, _, _, _, _, _⟩) rfl 143 _ rfl (A.row 8 142) (by go_simp; exact A.builtRow _ _) ?_
 simp only [Act.put, List.setIfInBounds_toArray, List.set_cons_zero, List.set_cons_succ]
 refine build_has (o := ⟨some 10, _, _, _, _, _⟩) rfl 143 _ rfl (A.row 9 146) (by go_simp; exact A.builtRow _ _) ?_
 simp only [Act.put, List.setIfInBounds_toArray, List.set_cons_zero, List.set_cons_succ]
 refine build_has (o := ⟨some 11, _, _, _, _, _⟩) rfl 143 _ rfl (A.row 10 148) (by go_simp; exact A.builtRow _ _) ?_
 simp only [Act.put, List.setIfInBounds_toArray, List.set_cons_zero, List.set_cons_succ]
 refine build_has (o := ⟨some 12, _, _, _, _, _⟩) rfl 143 _ rfl (A.row 11 151) (by go_simp; exact A.builtRow _ _) ?_
 simp only [Act.put, List.setIfInBounds_toArray, List.set_cons_zero, List.set_cons_succ]
 refine build_has (o := ⟨some 13, _, _, _, _, _⟩) rfl 166 _ rfl A.table (by go_simp; exact A.builtTab) ?_
 simp only [Act.put, List.setIfInBounds_toArray, List.set_cons_zero, List.set_cons_succ]
 refine store_last (o := ⟨none, Op.store 166 _ _, _, _, _, _⟩) rfl 166 _ _ rfl _ _ rfl rfl (by simp) A.infoTab (by kernel_rfl) A.one_table ?_
 simp only [Act.put, List.setIfInBounds_toArray, List.set_cons_zero, List.set_cons_succ]
 go_wp2_with fail
 exact bodyPost_ret (results_has rfl w.heap.size rfl (Has.new _ _ _) Tryz.underlying166 rfl A.infoTab) rfl ⟨rfl, (Kept.refl w).alloc _ _⟩
set_option maxHeartbeats 1000000 in
theorem find_any (op : Nat) (hop : op < 12) (w : World) : Calls Tryz.prog 126 #[.int .i64 op] w fun e w' => e = .returned (.tuple #[.agg (A.row op (A.fn op)), .bool true]) ∧ Kept w w' := by
 have HT := Lib.hid A.table_row
 go_enter Tryz.func126, Tryz.ntmps126
 go_wp2_with (first
  | (go_at_call 132; (refine (operations_any _).mono ?_; rintro e w2 ⟨rfl, hK2⟩); (have hX := (Has.new _ _ _).kept hK2); (have hK := ((Kept.refl w).alloc _ _).trans hK2); clear hK2))
 replace hX := Lib.hid hX
 replace hK := Lib.hid hK
 go_loopw [7] (fun i wr => ∃ k : Nat, k ≤ op ∧ i = .int .i64 k ∧ Hid (Has w.heap.size #[.int .i64 0, .nilFunc] 143 wr) ∧ Hid (Kept w wr)) (fun i _ => 12 - (intOf i).toNat)
 case atStart => exact ⟨0, by omega, rfl, hX, hK⟩
 case round =>
  clear hX hK
  obtain ⟨k, hk, rfl, hX, hK⟩ := hrel
  have hk12 : k < 12 := by omega
  have HR := Lib.hid (HT.out k hk12)
  have hk12' : (k : Int) < 12 := by omega
  by_cases he : k = op
  · subst he
    go_upto_region 3 with (fail)
    refine wp_region_lit ?_
    refine index_row (o := ⟨some 9, _, _, _, _, _⟩) rfl 166 _ _ rfl _ _ (k : Int) rfl rfl Tryz.underlying166 (by omega) (by omega) Tryz.underlying143 rfl (m := 2) (by kernel_rfl) HR.out ?_
    try simp only [Act.put, pq]
    go_wp2_with (first
     | (with_reducible refine store_last (o := ⟨none, Op.store 143 (.tmp 5) _, _, _, _, _⟩) rfl 143 _ _ rfl _ _ rfl rfl rfl (A.infoRow _ _) (by kernel_rfl) (A.one_row _ _) ?_)
     | (with_reducible refine load_has (o := ⟨some 14, _, _, _, _, _⟩) rfl 143 _ rfl _ rfl (Has.new _ _ _) Tryz.underlying143 rfl (A.infoRow _ _) ?_)
     | (with_reducible refine store_has (o := ⟨none, Op.store 143 (.tmp 2) _, _, _, _, _⟩) rfl 143 _ _ rfl _ _ rfl rfl (hX.out.alloc _) (A.infoRow _ _) (by kernel_rfl) (A.one_row _ _) ?_))
    exact bodyPost_ret (results_has2 rfl w.heap.size rfl ((hX.out.alloc _).row _) Tryz.underlying143 rfl (A.infoRow _ _)) rfl ⟨rfl, (hK.out.alloc _ _).row (by omega) _⟩
  · have hne : ((k : Int) == (op : Int)) = false := by simp; omega
    have hne' : ¬ (k : Int) = (op : Int) := by omega
    go_upto_region 3 with (fail)
    refine wp_region_lit ?_
    refine index_row (o := ⟨some 9, _, _, _, _, _⟩) rfl 166 _ _ rfl _ _ (k : Int) rfl rfl Tryz.underlying166 (by omega) (by omega) Tryz.underlying143 rfl (m := 2) (by kernel_rfl) HR.out ?_
    try simp only [Act.put, pq]
    go_wp2_with (first
     | (with_reducible refine store_last (o := ⟨none, Op.store 143 (.tmp 5) _, _, _, _, _⟩) rfl 143 _ _ rfl _ _ rfl rfl rfl (A.infoRow _ _) (by kernel_rfl) (A.one_row _ _) ?_))
    go_roundw
    case rel => exact ⟨k + 1, by omega, by go_num, Lib.hid (hX.out.alloc _), Lib.hid (hK.out.alloc _ _)⟩
    case measure => simp [intOf]; omega
theorem callsFn {f : Nat} {fn : Func} (h : Tryz.prog.funcs[f]? = some fn) (h1 : (fn.name == "runtime.NumGoroutine") = false) (h2 : fn.body.isNone = false) (args : Array Value) (w : World) : (callFunc f args).run Tryz.prog w = .ok (.enter f args) w := by
 have h1' : ¬ fn.name = "runtime.NumGoroutine" := by simpa using h1
 have h2' : ¬ fn.body = none := by intro e; rw [e] at h2; cases h2
 simp [callFunc, h, h1', h2']
theorem number_imm (s : A.Regs) (op a b c i : Int) (u : Bool) (w : World) :
 Calls Tryz.prog 106 #[.agg (A.cells s), .agg #[.int .i64 2, .int .i64 op, .int .i64 a, .int .i64 b, .int .i64 c, .int .i64 i, .bool u]] w fun e w' => e = .returned (.int .u32 (i % 4294967296)) ∧ Kept w w' := by
 go_enter Tryz.func106, Tryz.ntmps106
 go_wp2
 go_ret
 exact r1k rfl (((Kept.refl w).alloc _ _).alloc _ _)
theorem number_reg (s : A.Regs) (k op a b c i : Int) (u : Bool) (hk : (k == 2) = false) (h0 : 0 ≤ c) (h1 : c < 16) (w : World) :
 Calls Tryz.prog 106 #[.agg (A.cells s), .agg #[.int .i64 k, .int .i64 op, .int .i64 a, .int .i64 b, .int .i64 c, .int .i64 i, .bool u]] w fun e w' => e = .returned (.int .u32 (s.r c.toNat)) ∧ Kept w w' := by
 have hc := A.cell_r s c.toNat (by omega)
 go_enter Tryz.func106, Tryz.ntmps106
 go_wp2
 go_ret
 exact r1k rfl (((Kept.refl w).alloc _ _).alloc _ _)
def A.norow : Array Value := #[.int .i64 0, .nilFunc]
theorem A.infoNo : (Tryz.prog.info? 143).map (·.size) = some A.norow.size := by kernel_rfl
theorem A.one_norow : A.norow.all (·.oneCell') = true := by simp [A.norow, Value.oneCell']
theorem A.builtNo : Tryz.prog.built 143 [] = some A.norow := by
 rw [built_of A.shapeRow]
 simp [Instr.fill, A.norow]
theorem opOf_not (k op a b c i : Int) (u : Bool) (h : I.may ⟨k, op, a, b, c, i, u⟩ = false) (w : World) :
 Calls Tryz.prog 105 #[.agg #[.int .i64 k, .int .i64 op, .int .i64 a, .int .i64 b, .int .i64 c, .int .i64 i, .bool u]] w fun e w' => e = .returned (.tuple #[.agg A.norow, .bool false]) ∧ Kept w w' := by
 have C := Lib.hid (may_any k op a b c i u)
 rw [h] at C
 clear h
 go_enter Tryz.func105, Tryz.ntmps105
 go_wp2_with fail
 refine (C.out _).mono ?_; rintro e w2 ⟨rfl, hK2⟩
 have hX := (Has.new1 _ _ _ _).kept hK2
 have hI := ((Has.new _ _ _).alloc _).kept hK2
 have hK := (((Kept.refl w).alloc _ _).alloc _ _).trans hK2
 have c0 := hI.cell 0 _ rfl
 have c1 := hI.cell 1 _ rfl
 clear hK2 hI
 replace hX := Lib.hid hX
 replace hK := Lib.hid hK
 go_wp2_with (first
  | ((with_reducible refine build_has (o := ⟨some 7, _, _, _, _, _⟩) rfl 143 _ rfl A.norow ?_ ?_); (· (go_simp; exact A.builtNo)))
  | (with_reducible refine store_has (o := ⟨none, Op.store 143 (.tmp 2) _, _, _, _, _⟩) rfl 143 _ _ rfl _ _ rfl rfl hX.out A.infoNo (by kernel_rfl) A.one_norow ?_))
 exact bodyPost_ret (results_has2 rfl (w.heap.size + 1) rfl (hX.out.row _) Tryz.underlying143 rfl A.infoNo) rfl ⟨rfl, hK.out.row (by omega) _⟩
theorem opOf_3 (op a b c i : Int) (u : Bool) (h : I.may ⟨3, op, a, b, c, i, u⟩ = true) (w : World) :
 Calls Tryz.prog 105 #[.agg #[.int .i64 3, .int .i64 op, .int .i64 a, .int .i64 b, .int .i64 c, .int .i64 i, .bool u]] w fun e w' => e = .returned (.tuple #[.agg (A.row 0 124), .bool true]) ∧ Kept w w' := by
 have C := Lib.hid (may_any 3 op a b c i u)
 rw [h] at C
 clear h
 go_enter Tryz.func105, Tryz.ntmps105
 go_wp2_with fail
 refine (C.out _).mono ?_; rintro e w2 ⟨rfl, hK2⟩
 have hX := (Has.new1 _ _ _ _).kept hK2
 have hI := ((Has.new _ _ _).alloc _).kept hK2
 have hK := (((Kept.refl w).alloc _ _).alloc _ _).trans hK2
 have c0 := hI.cell 0 _ rfl
 have c1 := hI.cell 1 _ rfl
 clear hK2 hI
 replace hX := Lib.hid hX
 replace hK := Lib.hid hK
 go_wp2_with (first
  | ((with_reducible refine build_has (o := ⟨some 12, _, _, _, _, _⟩) rfl 143 _ rfl (A.row 0 124) ?_ ?_); (· (go_simp; exact A.builtRow1 _)))
  | (with_reducible refine store_has (o := ⟨none, Op.store 143 (.tmp 2) _, _, _, _, _⟩) rfl 143 _ _ rfl _ _ rfl rfl hX.out (A.infoRow _ _) (by kernel_rfl) (A.one_row _ _) ?_))
 exact bodyPost_ret (results_has2 rfl (w.heap.size + 1) rfl (hX.out.row _) Tryz.underlying143 rfl (A.infoRow _ _)) rfl ⟨rfl, hK.out.row (by omega) _⟩
theorem opOf_4 (op a b c i : Int) (u : Bool) (h : I.may ⟨4, op, a, b, c, i, u⟩ = true) (w : World) :
 Calls Tryz.prog 105 #[.agg #[.int .i64 4, .int .i64 op, .int .i64 a, .int .i64 b, .int .i64 c, .int .i64 i, .bool u]] w fun e w' => e = .returned (.tuple #[.agg (A.row 0 125), .bool true]) ∧ Kept w w' := by
 have C := Lib.hid (may_any 4 op a b c i u)
 rw [h] at C
 clear h
 go_enter Tryz.func105, Tryz.ntmps105
 go_wp2_with fail
 refine (C.out _).mono ?_; rintro e w2 ⟨rfl, hK2⟩
 have hX := (Has.new1 _ _ _ _).kept hK2
 have hI := ((Has.new _ _ _).alloc _).kept hK2
 have hK := (((Kept.refl w).alloc _ _).alloc _ _).trans hK2
 have c0 := hI.cell 0 _ rfl
 have c1 := hI.cell 1 _ rfl
 clear hK2 hI
 replace hX := Lib.hid hX
 replace hK := Lib.hid hK
 go_wp2_with (first
  | ((with_reducible refine build_has (o := ⟨some 15, _, _, _, _, _⟩) rfl 143 _ rfl (A.row 0 125) ?_ ?_); (· (go_simp; exact A.builtRow1 _)))
  | (with_reducible refine store_has (o := ⟨none, Op.store 143 (.tmp 2) _, _, _, _, _⟩) rfl 143 _ _ rfl _ _ rfl rfl hX.out (A.infoRow _ _) (by kernel_rfl) (A.one_row _ _) ?_))
 exact bodyPost_ret (results_has2 rfl (w.heap.size + 1) rfl (hX.out.row _) Tryz.underlying143 rfl (A.infoRow _ _)) rfl ⟨rfl, hK.out.row (by omega) _⟩
theorem opOf_5 (op a b c i : Int) (u : Bool) (h : I.may ⟨5, op, a, b, c, i, u⟩ = true) (w : World) :
 Calls Tryz.prog 105 #[.agg #[.int .i64 5, .int .i64 op, .int .i64 a, .int .i64 b, .int .i64 c, .int .i64 i, .bool u]] w fun e w' => e = .returned (.tuple #[.agg A.norow, .bool false]) ∧ Kept w w' := by
 have C := Lib.hid (may_any 5 op a b c i u)
 rw [h] at C
 clear h
 go_enter Tryz.func105, Tryz.ntmps105
 go_wp2_with fail
 refine (C.out _).mono ?_; rintro e w2 ⟨rfl, hK2⟩
 have hX := (Has.new1 _ _ _ _).kept hK2
 have hI := ((Has.new _ _ _).alloc _).kept hK2
 have hK := (((Kept.refl w).alloc _ _).alloc _ _).trans hK2
 have c0 := hI.cell 0 _ rfl
 have c1 := hI.cell 1 _ rfl
 clear hK2 hI
 replace hX := Lib.hid hX
 replace hK := Lib.hid hK
 go_wp2_with (first
  | ((with_reducible refine build_has (o := ⟨some 24, _, _, _, _, _⟩) rfl 143 _ rfl A.norow ?_ ?_); (· (go_simp; exact A.builtNo)))
  | (with_reducible refine store_has (o := ⟨none, Op.store 143 (.tmp 2) _, _, _, _, _⟩) rfl 143 _ _ rfl _ _ rfl rfl hX.out A.infoNo (by kernel_rfl) A.one_norow ?_))
 exact bodyPost_ret (results_has2 rfl (w.heap.size + 1) rfl (hX.out.row _) Tryz.underlying143 rfl A.infoNo) rfl ⟨rfl, hK.out.row (by omega) _⟩
theorem opOf_6 (op a b c i : Int) (u : Bool) (h : I.may ⟨6, op, a, b, c, i, u⟩ = true) (w : World) :
 Calls Tryz.prog 105 #[.agg #[.int .i64 6, .int .i64 op, .int .i64 a, .int .i64 b, .int .i64 c, .int .i64 i, .bool u]] w fun e w' => e = .returned (.tuple #[.agg A.norow, .bool false]) ∧ Kept w w' := by
 have C := Lib.hid (may_any 6 op a b c i u)
 rw [h] at C
 clear h
 go_enter Tryz.func105, Tryz.ntmps105
 go_wp2_with fail
 refine (C.out _).mono ?_; rintro e w2 ⟨rfl, hK2⟩
 have hX := (Has.new1 _ _ _ _).kept hK2
 have hI := ((Has.new _ _ _).alloc _).kept hK2
 have hK := (((Kept.refl w).alloc _ _).alloc _ _).trans hK2
 have c0 := hI.cell 0 _ rfl
 have c1 := hI.cell 1 _ rfl
 clear hK2 hI
 replace hX := Lib.hid hX
 replace hK := Lib.hid hK
 go_wp2_with (first
  | ((with_reducible refine build_has (o := ⟨some 24, _, _, _, _, _⟩) rfl 143 _ rfl A.norow ?_ ?_); (· (go_simp; exact A.builtNo)))
  | (with_reducible refine store_has (o := ⟨none, Op.store 143 (.tmp 2) _, _, _, _, _⟩) rfl 143 _ _ rfl _ _ rfl rfl hX.out A.infoNo (by kernel_rfl) A.one_norow ?_))
 exact bodyPost_ret (results_has2 rfl (w.heap.size + 1) rfl (hX.out.row _) Tryz.underlying143 rfl A.infoNo) rfl ⟨rfl, hK.out.row (by omega) _⟩
theorem opOf_7 (op a b c i : Int) (u : Bool) (h : I.may ⟨7, op, a, b, c, i, u⟩ = true) (w : World) :
 Calls Tryz.prog 105 #[.agg #[.int .i64 7, .int .i64 op, .int .i64 a, .int .i64 b, .int .i64 c, .int .i64 i, .bool u]] w fun e w' => e = .returned (.tuple #[.agg A.norow, .bool false]) ∧ Kept w w' := by
 have C := Lib.hid (may_any 7 op a b c i u)
 rw [h] at C
 clear h
 go_enter Tryz.func105, Tryz.ntmps105
 go_wp2_with fail
 refine (C.out _).mono ?_; rintro e w2 ⟨rfl, hK2⟩
 have hX := (Has.new1 _ _ _ _).kept hK2
 have hI := ((Has.new _ _ _).alloc _).kept hK2
 have hK := (((Kept.refl w).alloc _ _).alloc _ _).trans hK2
 have c0 := hI.cell 0 _ rfl
 have c1 := hI.cell 1 _ rfl
 clear hK2 hI
 replace hX := Lib.hid hX
 replace hK := Lib.hid hK
 go_wp2_with (first
  | ((with_reducible refine build_has (o := ⟨some 24, _, _, _, _, _⟩) rfl 143 _ rfl A.norow ?_ ?_); (· (go_simp; exact A.builtNo)))
  | (with_reducible refine store_has (o := ⟨none, Op.store 143 (.tmp 2) _, _, _, _, _⟩) rfl 143 _ _ rfl _ _ rfl rfl hX.out A.infoNo (by kernel_rfl) A.one_norow ?_))
 exact bodyPost_ret (results_has2 rfl (w.heap.size + 1) rfl (hX.out.row _) Tryz.underlying143 rfl A.infoNo) rfl ⟨rfl, hK.out.row (by omega) _⟩
theorem opOf_1 (op : Nat) (a b c i : Int) (u : Bool) (hop : op < 12) (h : I.may ⟨1, (op : Int), a, b, c, i, u⟩ = true) (w : World) :
 Calls Tryz.prog 105 #[.agg #[.int .i64 1, .int .i64 (op : Int), .int .i64 a, .int .i64 b, .int .i64 c, .int .i64 i, .bool u]] w fun e w' => e = .returned (.tuple #[.agg (A.row (op : Int) (A.fn op)), .bool true]) ∧ Kept w w' := by
 have C := Lib.hid (may_any 1 ((op : Int)) a b c i u)
 rw [h] at C
 clear h
 have FI := Lib.hid (find_any op hop)
 go_enter Tryz.func105, Tryz.ntmps105
 go_wp2_with fail
 refine (C.out _).mono ?_; rintro e w2 ⟨rfl, hK2⟩
 have hX := (Has.new1 _ _ _ _).kept hK2
 have hI := ((Has.new _ _ _).alloc _).kept hK2
 have hK := (((Kept.refl w).alloc _ _).alloc _ _).trans hK2
 have c0 := hI.cell 0 _ rfl
 have c1 := hI.cell 1 _ rfl
 clear hK2 hI
 replace hX := Lib.hid hX
 replace hK := Lib.hid hK
 go_wp2_with (first
  | (go_at_call 126; (refine (FI.out _).mono ?_; rintro e w3 ⟨rfl, hK3⟩); (have hX' := Lib.hid (hX.out.kept hK3)); (have hK' := Lib.hid (hK.out.trans hK3)); clear hK3 hX hK; (have hX := hX'); (have hK := hK'); clear hX' hK')
  | (with_reducible refine store_has (o := ⟨none, Op.store 143 (.tmp 2) _, _, _, _, _⟩) rfl 143 _ _ rfl _ _ rfl rfl (by first | exact hX.out) (A.infoRow _ _) (by kernel_rfl) (A.one_row _ _) ?_))
 exact bodyPost_ret (results_has2 rfl (w.heap.size + 1) rfl (hX.out.row _) Tryz.underlying143 rfl (A.infoRow _ _)) rfl ⟨rfl, hK.out.row (by omega) _⟩
theorem opOf_2 (op : Nat) (a b c i : Int) (u : Bool) (hop : op < 12) (h : I.may ⟨2, (op : Int), a, b, c, i, u⟩ = true) (w : World) :
 Calls Tryz.prog 105 #[.agg #[.int .i64 2, .int .i64 (op : Int), .int .i64 a, .int .i64 b, .int .i64 c, .int .i64 i, .bool u]] w fun e w' => e = .returned (.tuple #[.agg (A.row (op : Int) (A.fn op)), .bool true]) ∧ Kept w w' := by
 have C := Lib.hid (may_any 2 ((op : Int)) a b c i u)
 rw [h] at C
 clear h
 have FI := Lib.hid (find_any op hop)
 go_enter Tryz.func105, Tryz.ntmps105
 go_wp2_with fail
 refine (C.out _).mono ?_; rintro e w2 ⟨rfl, hK2⟩
 have hX := (Has.new1 _ _ _ _).kept hK2
 have hI := ((Has.new _ _ _).alloc _).kept hK2
 have hK := (((Kept.refl w).alloc _ _).alloc _ _).trans hK2
 have c0 := hI.cell 0 _ rfl
 have c1 := hI.cell 1 _ rfl
 clear hK2 hI
 replace hX := Lib.hid hX
 replace hK := Lib.hid hK
 go_wp2_with (first
  | (go_at_call 126; (refine (FI.out _).mono ?_; rintro e w3 ⟨rfl, hK3⟩); (have hX' := Lib.hid (hX.out.kept hK3)); (have hK' := Lib.hid (hK.out.trans hK3)); clear hK3 hX hK; (have hX := hX'); (have hK := hK'); clear hX' hK')
  | (with_reducible refine store_has (o := ⟨none, Op.store 143 (.tmp 2) _, _, _, _, _⟩) rfl 143 _ _ rfl _ _ rfl rfl (by first | exact hX.out) (A.infoRow _ _) (by kernel_rfl) (A.one_row _ _) ?_))
 exact bodyPost_ret (results_has2 rfl (w.heap.size + 1) rfl (hX.out.row _) Tryz.underlying143 rfl (A.infoRow _ _)) rfl ⟨rfl, hK.out.row (by omega) _⟩
structure A.St (s : A.Regs) (I : Array Value) (B : Nat) (R : Array Value) (w w' : World) : Prop where
 kept : Kept w w'
 regs : Has w.heap.size (A.cells s) 48 w'
 ins : Has (w.heap.size + 1) I 76 w'
 res : Has (w.heap.size + 2) (A.cells A.none') 48 w'
 row : Has B R 143 w'
theorem A.St.step {s : A.Regs} {I : Array Value} {B : Nat} {R : Array Value} {w w1 w2 : World} (h : A.St s I B R w w1) (hK : Kept w1 w2) : A.St s I B R w w2 :=
 ⟨h.kept.trans hK, h.regs.kept hK, h.ins.kept hK, h.res.kept hK, h.row.kept hK⟩
theorem A.St.rowNew {s : A.Regs} {I : Array Value} {B : Nat} {R : Array Value} {w w1 : World} (h : A.St s I B R w w1) {B8 : Nat} (h1 : w.heap.size + 2 < B8) (h2 : B < B8) (cs : Array Value) : A.St s I B R w (w1.setRow B8 cs) :=
 ⟨h.kept.row (by omega) _, h.regs.rowOther (by omega) _, h.ins.rowOther (by omega) _, h.res.rowOther (by omega) _, h.row.rowOther (by omega) _⟩
theorem A.St.cell {s : A.Regs} {I : Array Value} {B : Nat} {R : Array Value} {w w1 : World} (h : A.St s I B R w w1) {p : Addr} (h1 : w.heap.size + 2 < p.block) (h2 : B < p.block) (v : Value) : A.St s I B R w (w1.setCell p v) :=
 ⟨h.kept.setCell (by omega) _, h.regs.other (by omega) _, h.ins.other (by omega) _, h.res.other (by omega) _, h.row.other (by omega) _⟩
theorem wp_call_value {P : Program} {o : Oper} {a : Act} {w : World} {K : Act → World → Prop} {Q : Exit → Act → World → Prop} (x : Operand) (args : Array Operand) (tys : Array TypeId) (ho : o.op = .call ⟨.value x, args, tys⟩) (f : Nat) (hx : a.eval x = .func (.func f) #[] #[])
 (hf : ∀ args w, (callFunc f args).run P w = .ok (.enter f args) w) (vs : Array Value) (hv : args.map a.eval = vs)
 (h : Calls P f vs w (fun | .returned v, w'' => K (a.put o.dst v) w'' | .panicked chain, w'' => Q (.panic chain) a w'' | .outgrown, _ => LetsOut Q)) : o.wp P a w K Q := by
 unfold Oper.wp execOp
 simp only [ho, resolve, Sem.run_bind, hx, Deferred.ofValue, Sem.run_pure, Result.andThen_ok, invoke, Array.empty_append, Array.append_empty, hf, hv, Oper.upon]
 exact h
theorem A.builtOp (s : A.Regs) (b n : Int) (u : Bool) : Tryz.prog.built 150 [(0, .agg (A.cells s)), (1, .int .u32 b), (2, .int .u32 n), (3, .bool u)] = some (A.opnd s b n u) := by
 rw [built_of (show shapeOf Tryz.prog 150 = some (A.opnd A.none' 0 0 false, [(0, 21), (21, 1), (22, 1), (23, 1)]) by kernel_rfl)]
 simp [Instr.fill, Value.cells, A.cells, A.opnd, A.none']
theorem do_none (s : A.Regs) (k op a b c i : Int) (u : Bool) (w : World)
 (HO : Hid (∀ w, Calls Tryz.prog 105 #[.agg #[.int .i64 k, .int .i64 op, .int .i64 a, .int .i64 b, .int .i64 c, .int .i64 i, .bool u]] w fun e w' => e = .returned (.tuple #[.agg A.norow, .bool false]) ∧ Kept w w')) :
 Calls Tryz.prog 74 #[.agg (A.cells s), .agg #[.int .i64 k, .int .i64 op, .int .i64 a, .int .i64 b, .int .i64 c, .int .i64 i, .bool u]] w fun e w' => e = .returned (.tuple #[.agg (A.cells s), .int .i64 0]) ∧ Kept w w' := by
 go_enter Tryz.func74, Tryz.ntmps74
 go_wp2_with fail
 refine (HO.out _).mono ?_; rintro e w2 ⟨rfl, hK2⟩
 have hX := (Has.new2 _ _ _ _ _).kept hK2
 have hR := (((Has.new _ _ _).alloc _).alloc _).kept hK2
 have hK := ((((Kept.refl w).alloc _ _).alloc _ _).alloc _ _).trans hK2
 clear hK2
 replace hX := Lib.hid hX
 replace hR := Lib.hid hR
 replace hK := Lib.hid hK
 go_wp2_with (first
  | (with_reducible refine store_last (o := ⟨none, Op.store 143 _ _, _, _, _, _⟩) rfl 143 _ _ rfl _ _ rfl rfl rfl A.infoNo (by kernel_rfl) A.one_norow ?_)
  | (with_reducible refine load_has (o := ⟨some 17, _, _, _, _, _⟩) rfl 48 _ rfl _ rfl (hR.out.alloc _) Tryz.underlying48 rfl (A.info25 _) ?_)
  | (with_reducible refine store_has (o := ⟨none, Op.store 48 _ _, _, _, _, _⟩) rfl 48 _ _ rfl _ _ rfl rfl (hX.out.alloc _) (A.info25 _) (by kernel_rfl) (A.one_cells _) ?_))
 exact bodyPost_ret (results_has2 rfl (w.heap.size + 2) rfl ((hX.out.alloc _).row _) Tryz.underlying48 rfl (A.info25 _)) rfl ⟨rfl, (hK.out.alloc _ _).row (by omega) _⟩
set_option maxHeartbeats 2000000 in
theorem do_ok (s s' : A.Regs) (k op a b c i n x o : Int) (u : Bool) (f : Nat) (ha0 : 0 ≤ a) (ha1 : a < 16) (hb0 : 0 ≤ b) (hb1 : b < 16) (hx0 : 0 ≤ x) (hx1 : x < 4294967296) (w : World)
 (HO : Hid (∀ w, Calls Tryz.prog 105 #[.agg #[.int .i64 k, .int .i64 op, .int .i64 a, .int .i64 b, .int .i64 c, .int .i64 i, .bool u]] w fun e w' => e = .returned (.tuple #[.agg (A.row o f), .bool true]) ∧ Kept w w'))
 (HN : Hid (∀ w, Calls Tryz.prog 106 #[.agg (A.cells s), .agg #[.int .i64 k, .int .i64 op, .int .i64 a, .int .i64 b, .int .i64 c, .int .i64 i, .bool u]] w fun e w' => e = .returned (.int .u32 n) ∧ Kept w w'))
 (HF : Hid (∀ args w, (callFunc f args).run Tryz.prog w = .ok (.enter f args) w))
 (HW : Hid (∀ w, Calls Tryz.prog f #[.agg (A.opnd s (s.r b.toNat) n u)] w fun e w' => e = .returned (.agg (A.outc x s' 0)) ∧ Kept w w')) :
 Calls Tryz.prog 74 #[.agg (A.cells s), .agg #[.int .i64 k, .int .i64 op, .int .i64 a, .int .i64 b, .int .i64 c, .int .i64 i, .bool u]] w fun e w' => e = .returned (.tuple #[.agg (A.cells (A.show' (A.set s' a.toNat x) x)), .int .i64 0]) ∧ Kept w w' := by
 go_enter Tryz.func74, Tryz.ntmps74
 go_wp2_with fail
 refine (HO.out _).mono ?_; rintro e w2 ⟨rfl, hK2⟩
 have hX : Has (w.heap.size + 2) (A.cells A.none') 48 w2 := (Has.new2 _ _ _ _ _).kept hK2
 have hR := (((Has.new _ _ _).alloc _).alloc _).kept hK2
 have hI := ((Has.new1 _ _ _ _).alloc _).kept hK2
 have hK := ((((Kept.refl w).alloc _ _).alloc _ _).alloc _ _).trans hK2
 clear hK2
 have hS : A.St s #[.int .i64 k, .int .i64 op, .int .i64 a, .int .i64 b, .int .i64 c, .int .i64 i, .bool u] w2.heap.size (A.row o f) w (w2.alloc (.cells (A.row o f) 143)) := ⟨hK.alloc _ _, hR.alloc _, hI.alloc _, hX.alloc _, Has.new _ _ _⟩
 clear hX hR hI hK
 replace hS := Lib.hid hS
 go_upto_region 4 with (first
  | (with_reducible refine store_last (o := ⟨none, Op.store 143 _ _, _, _, _, _⟩) rfl 143 _ _ rfl _ _ rfl rfl rfl (A.infoRow _ _) (by kernel_rfl) (A.one_row _ _) ?_))
 refine wp_region_held_drew (S := A.St s #[.int .i64 k, .int .i64 op, .int .i64 a, .int .i64 b, .int .i64 c, .int .i64 i, .bool u] w2.heap.size (A.row o f) w) (by kernel_rfl) ?_ (fun hHeld => ?_)
 · exact hS.out.step (Kept.refl _).drew
 refine tk 0 _ (v := ?_) hHeld ?_ (tk 1 _ (v := ?_) hHeld ?_ ?_)
 all_goals try (intro wz hSw; (try dsimp only at hSw); have q0 := hSw.row.cell 1 _ (A.row_1 _ _); have q1 := hSw.ins.cell 3 _ rfl; have q2 := hSw.ins.cell 6 _ rfl; have q3 := hSw.regs.cell b.toNat _ (A.cell_r s b.toNat (by omega)); go_simp; with_reducible rfl)
 try simp only [Act.put, pq]
 refine tk 2 _ (v := ?_) hHeld ?_ ?_
 rotate_left
 · (intro wz hSw; refine exec_load_has 48 (Operand.tmp 2) ?_ _ ?_ hSw.regs Tryz.underlying48 rfl (A.info25 _) <;> rfl)
 try simp only [Act.put, pq]
 refine tk 3 _ (v := ?_) hHeld ?_ (tk 4 _ (v := ?_) hHeld ?_ (tk 5 _ (v := ?_) hHeld ?_ (tk 6 _ (v := ?_) hHeld ?_ (tk 7 _ (v := ?_) hHeld ?_ ?_))))
 all_goals try (intro wz hSw; (try dsimp only at hSw); have q0 := hSw.row.cell 1 _ (A.row_1 _ _); have q1 := hSw.ins.cell 3 _ rfl; have q2 := hSw.ins.cell 6 _ rfl; have q3 := hSw.regs.cell b.toNat _ (A.cell_r s b.toNat (by omega)); go_simp; with_reducible rfl)
 try simp only [Act.put, pq]
 refine tk 8 _ (v := ?_) hHeld ?_ ?_
 rotate_left
 · (intro wz hSw; refine exec_load_has 48 (Operand.tmp 2) ?_ _ ?_ hSw.regs Tryz.underlying48 rfl (A.info25 _) <;> rfl)
 try simp only [Act.put, pq]
 refine tk 9 _ (v := ?_) hHeld ?_ ?_
 rotate_left
 · (intro wz hSw; refine exec_load_has 76 (Operand.tmp 3) ?_ _ ?_ hSw.ins Tryz.underlying76 rfl (by kernel_rfl) <;> rfl)
 try simp only [Act.put, pq]
 refine tk 11 _ (v := ?_) hHeld ?_ (tk 12 _ (v := ?_) hHeld ?_ ?_)
 all_goals try (intro wz hSw; (try dsimp only at hSw); have q0 := hSw.row.cell 1 _ (A.row_1 _ _); have q1 := hSw.ins.cell 3 _ rfl; have q2 := hSw.ins.cell 6 _ rfl; have q3 := hSw.regs.cell b.toNat _ (A.cell_r s b.toNat (by omega)); go_simp; with_reducible rfl)
 try simp only [Act.put, pq]
 refine wpAnyH_ready (rs := [10, 15]) (by kernel_rfl) (by simp) ?_
 refine AllReadyH.cons (o := _) rfl (fun K hK => ?_) (AllReadyH.cons (o := _) rfl (fun K hK => ?_) (AllReadyH.nil))
 · go_simp
   go_at_call 106
   refine (HN.out _).mono ?_
   rintro e w5 ⟨rfl, hK5⟩
   have hN := (show (A.St s #[.int .i64 k, .int .i64 op, .int .i64 a, .int .i64 b, .int .i64 c, .int .i64 i, .bool u] w2.heap.size (A.row o f) w) _ from hHeld.step hK5)
   clear hHeld
   refine hK.out _ _ hN (fun hHeld => ?_)
   clear hK K hN
   try simp only [Act.put, pq]
   refine tk 13 _ (v := ?_) hHeld ?_ ?_
   rotate_left
   · (intro wz hSw; refine exec_build (o := ⟨some 31, .build 150 #[(0, .tmp 20), (1, .tmp 25), (2, .tmp 28), (3, .tmp 30)], 150, "alu.go:36", #[eD 2, eD 7, eD 10, eD 12], none⟩) 150 _ rfl (A.opnd s (s.r b.toNat) n u) ?_; (go_simp; exact A.builtOp _ _ _ _))
   try simp only [Act.put, pq]
   refine wpAnyH_ready (rs := [14, 15]) (by kernel_rfl) (by simp) ?_
   refine AllReadyH.cons (o := _) rfl (fun K hK => ?_) (AllReadyH.cons (o := _) rfl (fun K hK => ?_) (AllReadyH.nil))
   · refine wp_call_value (o := ⟨some 32, .call { callee := .value (.tmp 19), args := #[.tmp 31], argTypes := #[150] }, 147, "alu.go:36", #[eD 1, eD 13, eC 10], none⟩) _ _ _ rfl f ?_ HF.out #[.agg (A.opnd s (s.r b.toNat) n u)] ?_ ?_
     · rfl
     · go_simp
     refine (HW.out _).mono ?_
     rintro e w6 ⟨rfl, hK5⟩
     have hN := (show (A.St s #[.int .i64 k, .int .i64 op, .int .i64 a, .int .i64 b, .int .i64 c, .int .i64 i, .bool u] w2.heap.size (A.row o f) w) _ from hHeld.step hK5)
     clear hHeld
     refine hK.out _ _ hN (fun hHeld => ?_)
     clear hK K hN
     try simp only [Act.put, pq]
     refine wpAnyH_ready (rs := [15]) (by kernel_rfl) (by simp) ?_
     refine AllReadyH.cons (o := _) rfl (fun K hK => ?_) (AllReadyH.nil)
     have hl1 := hHeld.res.lt
     have hl2 := hHeld.row.lt
     go_simp
     have hA := Has.new #[.int .u32 0, .int .u32 0, .int .u32 0, .int .u32 0, .int .u32 0, .int .u32 0, .int .u32 0, .int .u32 0, .int .u32 0, .int .u32 0, .int .u32 0, .int .u32 0, .int .u32 0, .int .u32 0, .int .u32 0, .int .u32 0, .int .u32 0, .int .u32 0, .bool false, .bool false, .bool false, .bool false, .int .i64 0] 147 w6
     have hN := (show (A.St s #[.int .i64 k, .int .i64 op, .int .i64 a, .int .i64 b, .int .i64 c, .int .i64 i, .bool u] w2.heap.size (A.row o f) w) _ from hHeld.step ((Kept.refl _).alloc #[.int .u32 0, .int .u32 0, .int .u32 0, .int .u32 0, .int .u32 0, .int .u32 0, .int .u32 0, .int .u32 0, .int .u32 0, .int .u32 0, .int .u32 0, .int .u32 0, .int .u32 0, .int .u32 0, .int .u32 0, .int .u32 0, .int .u32 0, .int .u32 0, .bool false, .bool false, .bool false, .bool false, .int .i64 0] 147))
     clear hHeld
     refine hK.out _ _ hN (fun hHeld => ?_)
     clear hK K hN
     try simp only [Act.put, pq]
     refine wpAnyH_ready (rs := [16]) (by kernel_rfl) (by simp) ?_
     refine AllReadyH.cons (o := _) rfl (fun K hK => ?_) (AllReadyH.nil)
     refine wp_store_row (o := ⟨none, .store 147 (.tmp 8) (.tmp 32), 0, "alu.go:36", #[eD 15, eD 14, eC 14, eP 0, eP 1, eP 2, eP 3, eP 4, eP 5, eP 6, eP 7, eP 8, eP 9, eP 10, eP 11, eP 12, eP 13, eP 14, eP 15], none⟩) 147 _ _ rfl _ (A.outc x s' 0) ?_ ?_ 147 _ hA (A.infoOut _ _ _) (by kernel_rfl) (A.one_outc _ _ _) ?_
     · rfl
     · rfl
     replace hA := hA.row (A.outc x s' 0)
     have hN := (show (A.St s #[.int .i64 k, .int .i64 op, .int .i64 a, .int .i64 b, .int .i64 c, .int .i64 i, .bool u] w2.heap.size (A.row o f) w) _ from hHeld.rowNew (by omega) (by omega) (A.outc x s' 0))
     clear hHeld
     refine hK.out _ _ hN (fun hHeld => ?_)
     clear hK K hN
     try simp only [Act.put, pq]
     refine wpAnyH_done (by kernel_rfl) ?_ _
     generalize World.setRow _ _ _ = wF at hHeld hA
     have q1 := hA.cell 0 _ (A.outc_x _ _ _)
     have q2 := hA.cell 22 _ (A.outc_t _ _ _)
     have hl3 := hHeld.res.lt
     have hl4 := hHeld.row.lt
     have hl5 := hA.lt
     replace hHeld := Lib.hid hHeld
     replace hA := Lib.hid hA
     clear hS
     go_upto_region 8 with (first
      | (with_reducible refine load_part (o := ⟨some 40, _, _, _, _, _⟩) rfl 48 _ rfl _ 1 rfl (A.cells s') hA.out (A.outc_regs _ _ _) Tryz.underlying48 rfl (A.info25 _) ?_)
      | (with_reducible refine store_last (o := ⟨none, Op.store 48 (.tmp 9) _, _, _, _, _⟩) rfl 48 _ _ rfl _ _ rfl rfl rfl (A.info25 _) (by kernel_rfl) (A.one_cells _) ?_))
     clear q1 q2
     have hG := hHeld.out.step ((Kept.refl wF).alloc (A.cells s') 48)
     have h9 := Has.new (A.cells s') 48 wF
     have h8 := hA.out.alloc (.cells (A.cells s') 48)
     clear hHeld hA
     generalize wF.heap.size = B9 at *
     generalize wF.alloc _ = wG at *
     have c2 := hG.ins.cell 2 _ rfl
     have c3 := h8.cell 0 _ (A.outc_x _ _ _)
     have c9 := h9.cell a.toNat _ (A.cell_r s' a.toNat (by omega))
     have f9 := h9.free a.toNat
     replace hG := Lib.hid hG
     replace h9 := Lib.hid h9
     replace h8 := Lib.hid h8
     go_upto_region 9 with (fail)
     clear c2 c3 c9 f9
     have hH := hG.out.cell (p := ⟨B9, a.toNat, none⟩) hl3 hl4 (.int .u32 x)
     have h9' := h9.out.set a.toNat (.int .u32 x)
     rw [A.set_r s' a.toNat (by omega) x] at h9'
     have h8' := h8.out.other (p := ⟨B9, a.toNat, none⟩) (Nat.ne_of_lt hl5) (.int .u32 x)
     clear hG h9 h8
     generalize World.setCell _ _ _ = wH at *
     have c3 := h8'.cell 0 _ (A.outc_x _ _ _)
     replace hH := Lib.hid hH
     replace h9' := Lib.hid h9'
     clear h8'
     go_wp2_with (first
      | (with_reducible refine load_has (o := ⟨some 47, _, _, _, _, _⟩) rfl 48 _ rfl _ rfl h9'.out Tryz.underlying48 rfl (A.info25 _) ?_)
      | (with_reducible refine store_has (o := ⟨none, Op.store 48 (.tmp 4) _, _, _, _, _⟩) rfl 48 _ _ rfl _ _ rfl rfl hX.out (A.info25 _) (by kernel_rfl) (A.one_cells _) ?_)
      | (go_at_call 107; (refine (show_any _ x hx0 hx1 _).mono ?_; rintro e w7 ⟨rfl, hK7⟩); (have hX := Lib.hid (hH.out.res.kept hK7)); (have hK := Lib.hid (hH.out.kept.trans hK7)); clear hK7 c3))
     exact bodyPost_ret (results_has2 rfl (w.heap.size + 2) rfl (hX.out.row _) Tryz.underlying48 rfl (A.info25 _)) rfl ⟨rfl, hK.out.row (by omega) _⟩
   · have hl1 := hHeld.res.lt
     have hl2 := hHeld.row.lt
     go_simp
     have hA := Has.new #[.int .u32 0, .int .u32 0, .int .u32 0, .int .u32 0, .int .u32 0, .int .u32 0, .int .u32 0, .int .u32 0, .int .u32 0, .int .u32 0, .int .u32 0, .int .u32 0, .int .u32 0, .int .u32 0, .int .u32 0, .int .u32 0, .int .u32 0, .int .u32 0, .bool false, .bool false, .bool false, .bool false, .int .i64 0] 147 w5
     have hN := (show (A.St s #[.int .i64 k, .int .i64 op, .int .i64 a, .int .i64 b, .int .i64 c, .int .i64 i, .bool u] w2.heap.size (A.row o f) w) _ from hHeld.step ((Kept.refl _).alloc #[.int .u32 0, .int .u32 0, .int .u32 0, .int .u32 0, .int .u32 0, .int .u32 0, .int .u32 0, .int .u32 0, .int .u32 0, .int .u32 0, .int .u32 0, .int .u32 0, .int .u32 0, .int .u32 0, .int .u32 0, .int .u32 0, .int .u32 0, .int .u32 0, .bool false, .bool false, .bool false, .bool false, .int .i64 0] 147))
     clear hHeld
     refine hK.out _ _ hN (fun hHeld => ?_)
     clear hK K hN
     try simp only [Act.put, pq]
     refine wpAnyH_ready (rs := [14]) (by kernel_rfl) (by simp) ?_
     refine AllReadyH.cons (o := _) rfl (fun K hK => ?_) (AllReadyH.nil)
     refine wp_call_value (o := ⟨some 32, .call { callee := .value (.tmp 19), args := #[.tmp 31], argTypes := #[150] }, 147, "alu.go:36", #[eD 1, eD 13, eC 10], none⟩) _ _ _ rfl f ?_ HF.out #[.agg (A.opnd s (s.r b.toNat) n u)] ?_ ?_
     · rfl
     · go_simp
     refine (HW.out _).mono ?_
     rintro e w6 ⟨rfl, hK5⟩
     replace hA := hA.kept hK5
     have hN := (show (A.St s #[.int .i64 k, .int .i64 op, .int .i64 a, .int .i64 b, .int .i64 c, .int .i64 i, .bool u] w2.heap.size (A.row o f) w) _ from hHeld.step hK5)
     clear hHeld
     refine hK.out _ _ hN (fun hHeld => ?_)
     clear hK K hN
     try simp only [Act.put, pq]
     refine wpAnyH_ready (rs := [16]) (by kernel_rfl) (by simp) ?_
     refine AllReadyH.cons (o := _) rfl (fun K hK => ?_) (AllReadyH.nil)
     refine wp_store_row (o := ⟨none, .store 147 (.tmp 8) (.tmp 32), 0, "alu.go:36", #[eD 15, eD 14, eC 14, eP 0, eP 1, eP 2, eP 3, eP 4, eP 5, eP 6, eP 7, eP 8, eP 9, eP 10, eP 11, eP 12, eP 13, eP 14, eP 15], none⟩) 147 _ _ rfl _ (A.outc x s' 0) ?_ ?_ 147 _ hA (A.infoOut _ _ _) (by kernel_rfl) (A.one_outc _ _ _) ?_
     · rfl
     · rfl
     replace hA := hA.row (A.outc x s' 0)
     have hN := (show (A.St s #[.int .i64 k, .int .i64 op, .int .i64 a, .int .i64 b, .int .i64 c, .int .i64 i, .bool u] w2.heap.size (A.row o f) w) _ from hHeld.rowNew (by omega) (by omega) (A.outc x s' 0))
     clear hHeld
     refine hK.out _ _ hN (fun hHeld => ?_)
     clear hK K hN
     try simp only [Act.put, pq]
     refine wpAnyH_done (by kernel_rfl) ?_ _
     generalize World.setRow _ _ _ = wF at hHeld hA
     have q1 := hA.cell 0 _ (A.outc_x _ _ _)
     have q2 := hA.cell 22 _ (A.outc_t _ _ _)
     have hl3 := hHeld.res.lt
     have hl4 := hHeld.row.lt
     have hl5 := hA.lt
     replace hHeld := Lib.hid hHeld
     replace hA := Lib.hid hA
     clear hS
     go_upto_region 8 with (first
      | (with_reducible refine load_part (o := ⟨some 40, _, _, _, _, _⟩) rfl 48 _ rfl _ 1 rfl (A.cells s') hA.out (A.outc_regs _ _ _) Tryz.underlying48 rfl (A.info25 _) ?_)
      | (with_reducible refine store_last (o := ⟨none, Op.store 48 (.tmp 9) _, _, _, _, _⟩) rfl 48 _ _ rfl _ _ rfl rfl rfl (A.info25 _) (by kernel_rfl) (A.one_cells _) ?_))
     clear q1 q2
     have hG := hHeld.out.step ((Kept.refl wF).alloc (A.cells s') 48)
     have h9 := Has.new (A.cells s') 48 wF
     have h8 := hA.out.alloc (.cells (A.cells s') 48)
     clear hHeld hA
     generalize wF.heap.size = B9 at *
     generalize wF.alloc _ = wG at *
     have c2 := hG.ins.cell 2 _ rfl
     have c3 := h8.cell 0 _ (A.outc_x _ _ _)
     have c9 := h9.cell a.toNat _ (A.cell_r s' a.toNat (by omega))
     have f9 := h9.free a.toNat
     replace hG := Lib.hid hG
     replace h9 := Lib.hid h9
     replace h8 := Lib.hid h8
     go_upto_region 9 with (fail)
     clear c2 c3 c9 f9
     have hH := hG.out.cell (p := ⟨B9, a.toNat, none⟩) hl3 hl4 (.int .u32 x)
     have h9' := h9.out.set a.toNat (.int .u32 x)
     rw [A.set_r s' a.toNat (by omega) x] at h9'
     have h8' := h8.out.other (p := ⟨B9, a.toNat, none⟩) (Nat.ne_of_lt hl5) (.int .u32 x)
     clear hG h9 h8
     generalize World.setCell _ _ _ = wH at *
     have c3 := h8'.cell 0 _ (A.outc_x _ _ _)
     replace hH := Lib.hid hH
     replace h9' := Lib.hid h9'
     clear h8'
     go_wp2_with (first
      | (with_reducible refine load_has (o := ⟨some 47, _, _, _, _, _⟩) rfl 48 _ rfl _ rfl h9'.out Tryz.underlying48 rfl (A.info25 _) ?_)
      | (with_reducible refine store_has (o := ⟨none, Op.store 48 (.tmp 4) _, _, _, _, _⟩) rfl 48 _ _ rfl _ _ rfl rfl hX.out (A.info25 _) (by kernel_rfl) (A.one_cells _) ?_)
      | (go_at_call 107; (refine (show_any _ x hx0 hx1 _).mono ?_; rintro e w7 ⟨rfl, hK7⟩); (have hX := Lib.hid (hH.out.res.kept hK7)); (have hK := Lib.hid (hH.out.kept.trans hK7)); clear hK7 c3))
     exact bodyPost_ret (results_has2 rfl (w.heap.size + 2) rfl (hX.out.row _) Tryz.underlying48 rfl (A.info25 _)) rfl ⟨rfl, hK.out.row (by omega) _⟩
 · have hl1 := hHeld.res.lt
   have hl2 := hHeld.row.lt
   go_simp
   have hA := Has.new #[.int .u32 0, .int .u32 0, .int .u32 0, .int .u32 0, .int .u32 0, .int .u32 0, .int .u32 0, .int .u32 0, .int .u32 0, .int .u32 0, .int .u32 0, .int .u32 0, .int .u32 0, .int .u32 0, .int .u32 0, .int .u32 0, .int .u32 0, .int .u32 0, .bool false, .bool false, .bool false, .bool false, .int .i64 0] 147 ((w2.alloc (.cells (A.row o f) 143)).drew)
   have e8 : ((w2.alloc (.cells (A.row o f) 143)).drew).heap.size = w2.heap.size + 1 := by show (w2.heap.push _).size = _; simp
   rw [e8] at hA hl1 hl2
   clear e8
   have hN := (show (A.St s #[.int .i64 k, .int .i64 op, .int .i64 a, .int .i64 b, .int .i64 c, .int .i64 i, .bool u] w2.heap.size (A.row o f) w) _ from hHeld.step ((Kept.refl _).alloc #[.int .u32 0, .int .u32 0, .int .u32 0, .int .u32 0, .int .u32 0, .int .u32 0, .int .u32 0, .int .u32 0, .int .u32 0, .int .u32 0, .int .u32 0, .int .u32 0, .int .u32 0, .int .u32 0, .int .u32 0, .int .u32 0, .int .u32 0, .int .u32 0, .bool false, .bool false, .bool false, .bool false, .int .i64 0] 147))
   clear hHeld
   refine hK.out _ _ hN (fun hHeld => ?_)
   clear hK K hN
   try simp only [Act.put, pq]
   refine wpAnyH_ready (rs := [10]) (by kernel_rfl) (by simp) ?_
   refine AllReadyH.cons (o := _) rfl (fun K hK => ?_) (AllReadyH.nil)
   go_simp
   go_at_call 106
   refine (HN.out _).mono ?_
   rintro e w5 ⟨rfl, hK5⟩
   replace hA := hA.kept hK5
   have hN := (show (A.St s #[.int .i64 k, .int .i64 op, .int .i64 a, .int .i64 b, .int .i64 c, .int .i64 i, .bool u] w2.heap.size (A.row o f) w) _ from hHeld.step hK5)
   clear hHeld
   refine hK.out _ _ hN (fun hHeld => ?_)
   clear hK K hN
   try simp only [Act.put, pq]
   refine tk 13 _ (v := ?_) hHeld ?_ ?_
   rotate_left
   · (intro wz hSw; refine exec_build (o := ⟨some 31, .build 150 #[(0, .tmp 20), (1, .tmp 25), (2, .tmp 28), (3, .tmp 30)], 150, "alu.go:36", #[eD 2, eD 7, eD 10, eD 12], none⟩) 150 _ rfl (A.opnd s (s.r b.toNat) n u) ?_; (go_simp; exact A.builtOp _ _ _ _))
   try simp only [Act.put, pq]
   refine wpAnyH_ready (rs := [14]) (by kernel_rfl) (by simp) ?_
   refine AllReadyH.cons (o := _) rfl (fun K hK => ?_) (AllReadyH.nil)
   refine wp_call_value (o := ⟨some 32, .call { callee := .value (.tmp 19), args := #[.tmp 31], argTypes := #[150] }, 147, "alu.go:36", #[eD 1, eD 13, eC 10], none⟩) _ _ _ rfl f ?_ HF.out #[.agg (A.opnd s (s.r b.toNat) n u)] ?_ ?_
   · rfl
   · go_simp
   refine (HW.out _).mono ?_
   rintro e w6 ⟨rfl, hK5⟩
   replace hA := hA.kept hK5
   have hN := (show (A.St s #[.int .i64 k, .int .i64 op, .int .i64 a, .int .i64 b, .int .i64 c, .int .i64 i, .bool u] w2.heap.size (A.row o f) w) _ from hHeld.step hK5)
   clear hHeld
   refine hK.out _ _ hN (fun hHeld => ?_)
   clear hK K hN
   try simp only [Act.put, pq]
   refine wpAnyH_ready (rs := [16]) (by kernel_rfl) (by simp) ?_
   refine AllReadyH.cons (o := _) rfl (fun K hK => ?_) (AllReadyH.nil)
   refine wp_store_row (o := ⟨none, .store 147 (.tmp 8) (.tmp 32), 0, "alu.go:36", #[eD 15, eD 14, eC 14, eP 0, eP 1, eP 2, eP 3, eP 4, eP 5, eP 6, eP 7, eP 8, eP 9, eP 10, eP 11, eP 12, eP 13, eP 14, eP 15], none⟩) 147 _ _ rfl _ (A.outc x s' 0) ?_ ?_ 147 _ hA (A.infoOut _ _ _) (by kernel_rfl) (A.one_outc _ _ _) ?_
   · rfl
   · rfl
   replace hA := hA.row (A.outc x s' 0)
   have hN := (show (A.St s #[.int .i64 k, .int .i64 op, .int .i64 a, .int .i64 b, .int .i64 c, .int .i64 i, .bool u] w2.heap.size (A.row o f) w) _ from hHeld.rowNew (by omega) (by omega) (A.outc x s' 0))
   clear hHeld
   refine hK.out _ _ hN (fun hHeld => ?_)
   clear hK K hN
   try simp only [Act.put, pq]
   refine wpAnyH_done (by kernel_rfl) ?_ _
   generalize World.setRow _ _ _ = wF at hHeld hA
   have q1 := hA.cell 0 _ (A.outc_x _ _ _)
   have q2 := hA.cell 22 _ (A.outc_t _ _ _)
   have hl3 := hHeld.res.lt
   have hl4 := hHeld.row.lt
   have hl5 := hA.lt
   replace hHeld := Lib.hid hHeld
   replace hA := Lib.hid hA
   clear hS
   go_upto_region 8 with (first
    | (with_reducible refine load_part (o := ⟨some 40, _, _, _, _, _⟩) rfl 48 _ rfl _ 1 rfl (A.cells s') hA.out (A.outc_regs _ _ _) Tryz.underlying48 rfl (A.info25 _) ?_)
    | (with_reducible refine store_last (o := ⟨none, Op.store 48 (.tmp 9) _, _, _, _, _⟩) rfl 48 _ _ rfl _ _ rfl rfl rfl (A.info25 _) (by kernel_rfl) (A.one_cells _) ?_))
   clear q1 q2
   have hG := hHeld.out.step ((Kept.refl wF).alloc (A.cells s') 48)
   have h9 := Has.new (A.cells s') 48 wF
   have h8 := hA.out.alloc (.cells (A.cells s') 48)
   clear hHeld hA
   generalize wF.heap.size = B9 at *
   generalize wF.alloc _ = wG at *
   have c2 := hG.ins.cell 2 _ rfl
   have c3 := h8.cell 0 _ (A.outc_x _ _ _)
   have c9 := h9.cell a.toNat _ (A.cell_r s' a.toNat (by omega))
   have f9 := h9.free a.toNat
   replace hG := Lib.hid hG
   replace h9 := Lib.hid h9
   replace h8 := Lib.hid h8
   go_upto_region 9 with (fail)
   clear c2 c3 c9 f9
   have hH := hG.out.cell (p := ⟨B9, a.toNat, none⟩) hl3 hl4 (.int .u32 x)
   have h9' := h9.out.set a.toNat (.int .u32 x)
   rw [A.set_r s' a.toNat (by omega) x] at h9'
   have h8' := h8.out.other (p := ⟨B9, a.toNat, none⟩) (Nat.ne_of_lt hl5) (.int .u32 x)
   clear hG h9 h8
   generalize World.setCell _ _ _ = wH at *
   have c3 := h8'.cell 0 _ (A.outc_x _ _ _)
   replace hH := Lib.hid hH
   replace h9' := Lib.hid h9'
   clear h8'
   go_wp2_with (first
    | (with_reducible refine load_has (o := ⟨some 47, _, _, _, _, _⟩) rfl 48 _ rfl _ rfl h9'.out Tryz.underlying48 rfl (A.info25 _) ?_)
    | (with_reducible refine store_has (o := ⟨none, Op.store 48 (.tmp 4) _, _, _, _, _⟩) rfl 48 _ _ rfl _ _ rfl rfl hX.out (A.info25 _) (by kernel_rfl) (A.one_cells _) ?_)
    | (go_at_call 107; (refine (show_any _ x hx0 hx1 _).mono ?_; rintro e w7 ⟨rfl, hK7⟩); (have hX := Lib.hid (hH.out.res.kept hK7)); (have hK := Lib.hid (hH.out.kept.trans hK7)); clear hK7 c3))
   exact bodyPost_ret (results_has2 rfl (w.heap.size + 2) rfl (hX.out.row _) Tryz.underlying48 rfl (A.info25 _)) rfl ⟨rfl, hK.out.row (by omega) _⟩
set_option maxHeartbeats 2000000 in
theorem do_trap (s s' : A.Regs) (k op a b c i n x o : Int) (u : Bool) (f : Nat) (ha0 : 0 ≤ a) (ha1 : a < 16) (hb0 : 0 ≤ b) (hb1 : b < 16) (w : World)
 (HO : Hid (∀ w, Calls Tryz.prog 105 #[.agg #[.int .i64 k, .int .i64 op, .int .i64 a, .int .i64 b, .int .i64 c, .int .i64 i, .bool u]] w fun e w' => e = .returned (.tuple #[.agg (A.row o f), .bool true]) ∧ Kept w w'))
 (HN : Hid (∀ w, Calls Tryz.prog 106 #[.agg (A.cells s), .agg #[.int .i64 k, .int .i64 op, .int .i64 a, .int .i64 b, .int .i64 c, .int .i64 i, .bool u]] w fun e w' => e = .returned (.int .u32 n) ∧ Kept w w'))
 (HF : Hid (∀ args w, (callFunc f args).run Tryz.prog w = .ok (.enter f args) w))
 (HW : Hid (∀ w, Calls Tryz.prog f #[.agg (A.opnd s (s.r b.toNat) n u)] w fun e w' => e = .returned (.agg (A.outc x s' 5)) ∧ Kept w w')) :
 Calls Tryz.prog 74 #[.agg (A.cells s), .agg #[.int .i64 k, .int .i64 op, .int .i64 a, .int .i64 b, .int .i64 c, .int .i64 i, .bool u]] w fun e w' => e = .returned (.tuple #[.agg (A.cells s), .int .i64 5]) ∧ Kept w w' := by
 go_enter Tryz.func74, Tryz.ntmps74
 go_wp2_with fail
 refine (HO.out _).mono ?_; rintro e w2 ⟨rfl, hK2⟩
 have hX : Has (w.heap.size + 2) (A.cells A.none') 48 w2 := (Has.new2 _ _ _ _ _).kept hK2
 have hR := (((Has.new _ _ _).alloc _).alloc _).kept hK2
 have hI := ((Has.new1 _ _ _ _).alloc _).kept hK2
 have hK := ((((Kept.refl w).alloc _ _).alloc _ _).alloc _ _).trans hK2
 clear hK2
 have hS : A.St s #[.int .i64 k, .int .i64 op, .int .i64 a, .int .i64 b, .int .i64 c, .int .i64 i, .bool u] w2.heap.size (A.row o f) w (w2.alloc (.cells (A.row o f) 143)) := ⟨hK.alloc _ _, hR.alloc _, hI.alloc _, hX.alloc _, Has.new _ _ _⟩
 clear hX hR hI hK
 replace hS := Lib.hid hS
 go_upto_region 4 with (first
  | (with_reducible refine store_last (o := ⟨none, Op.store 143 _ _, _, _, _, _⟩) rfl 143 _ _ rfl _ _ rfl rfl rfl (A.infoRow _ _) (by kernel_rfl) (A.one_row _ _) ?_))
 refine wp_region_held_drew (S := A.St s #[.int .i64 k, .int .i64 op, .int .i64 a, .int .i64 b, .int .i64 c, .int .i64 i, .bool u] w2.heap.size (A.row o f) w) (by kernel_rfl) ?_ (fun hHeld => ?_)
 · exact hS.out.step (Kept.refl _).drew
 refine tk 0 _ (v := ?_) hHeld ?_ (tk 1 _ (v := ?_) hHeld ?_ ?_)
 all_goals try (intro wz hSw; (try dsimp only at hSw); have q0 := hSw.row.cell 1 _ (A.row_1 _ _); have q1 := hSw.ins.cell 3 _ rfl; have q2 := hSw.ins.cell 6 _ rfl; have q3 := hSw.regs.cell b.toNat _ (A.cell_r s b.toNat (by omega)); go_simp; with_reducible rfl)
 try simp only [Act.put, pq]
 refine tk 2 _ (v := ?_) hHeld ?_ ?_
 rotate_left
 · (intro wz hSw; refine exec_load_has 48 (Operand.tmp 2) ?_ _ ?_ hSw.regs Tryz.underlying48 rfl (A.info25 _) <;> rfl)
 try simp only [Act.put, pq]
 refine tk 3 _ (v := ?_) hHeld ?_ (tk 4 _ (v := ?_) hHeld ?_ (tk 5 _ (v := ?_) hHeld ?_ (tk 6 _ (v := ?_) hHeld ?_ (tk 7 _ (v := ?_) hHeld ?_ ?_))))
 all_goals try (intro wz hSw; (try dsimp only at hSw); have q0 := hSw.row.cell 1 _ (A.row_1 _ _); have q1 := hSw.ins.cell 3 _ rfl; have q2 := hSw.ins.cell 6 _ rfl; have q3 := hSw.regs.cell b.toNat _ (A.cell_r s b.toNat (by omega)); go_simp; with_reducible rfl)
 try simp only [Act.put, pq]
 refine tk 8 _ (v := ?_) hHeld ?_ ?_
 rotate_left
 · (intro wz hSw; refine exec_load_has 48 (Operand.tmp 2) ?_ _ ?_ hSw.regs Tryz.underlying48 rfl (A.info25 _) <;> rfl)
 try simp only [Act.put, pq]
 refine tk 9 _ (v := ?_) hHeld ?_ ?_
 rotate_left
 · (intro wz hSw; refine exec_load_has 76 (Operand.tmp 3) ?_ _ ?_ hSw.ins Tryz.underlying76 rfl (by kernel_rfl) <;> rfl)
 try simp only [Act.put, pq]
 refine tk 11 _ (v := ?_) hHeld ?_ (tk 12 _ (v := ?_) hHeld ?_ ?_)
 all_goals try (intro wz hSw; (try dsimp only at hSw); have q0 := hSw.row.cell 1 _ (A.row_1 _ _); have q1 := hSw.ins.cell 3 _ rfl; have q2 := hSw.ins.cell 6 _ rfl; have q3 := hSw.regs.cell b.toNat _ (A.cell_r s b.toNat (by omega)); go_simp; with_reducible rfl)
 try simp only [Act.put, pq]
 refine wpAnyH_ready (rs := [10, 15]) (by kernel_rfl) (by simp) ?_
 refine AllReadyH.cons (o := _) rfl (fun K hK => ?_) (AllReadyH.cons (o := _) rfl (fun K hK => ?_) (AllReadyH.nil))
 · go_simp
   go_at_call 106
   refine (HN.out _).mono ?_
   rintro e w5 ⟨rfl, hK5⟩
   have hN := (show (A.St s #[.int .i64 k, .int .i64 op, .int .i64 a, .int .i64 b, .int .i64 c, .int .i64 i, .bool u] w2.heap.size (A.row o f) w) _ from hHeld.step hK5)
   clear hHeld
   refine hK.out _ _ hN (fun hHeld => ?_)
   clear hK K hN
   try simp only [Act.put, pq]
   refine tk 13 _ (v := ?_) hHeld ?_ ?_
   rotate_left
   · (intro wz hSw; refine exec_build (o := ⟨some 31, .build 150 #[(0, .tmp 20), (1, .tmp 25), (2, .tmp 28), (3, .tmp 30)], 150, "alu.go:36", #[eD 2, eD 7, eD 10, eD 12], none⟩) 150 _ rfl (A.opnd s (s.r b.toNat) n u) ?_; (go_simp; exact A.builtOp _ _ _ _))
   try simp only [Act.put, pq]
   refine wpAnyH_ready (rs := [14, 15]) (by kernel_rfl) (by simp) ?_
   refine AllReadyH.cons (o := _) rfl (fun K hK => ?_) (AllReadyH.cons (o := _) rfl (fun K hK => ?_) (AllReadyH.nil))
   · refine wp_call_value (o := ⟨some 32, .call { callee := .value (.tmp 19), args := #[.tmp 31], argTypes := #[150] }, 147, "alu.go:36", #[eD 1, eD 13, eC 10], none⟩) _ _ _ rfl f ?_ HF.out #[.agg (A.opnd s (s.r b.toNat) n u)] ?_ ?_
     · rfl
     · go_simp
     refine (HW.out _).mono ?_
     rintro e w6 ⟨rfl, hK5⟩
     have hN := (show (A.St s #[.int .i64 k, .int .i64 op, .int .i64 a, .int .i64 b, .int .i64 c, .int .i64 i, .bool u] w2.heap.size (A.row o f) w) _ from hHeld.step hK5)
     clear hHeld
     refine hK.out _ _ hN (fun hHeld => ?_)
     clear hK K hN
     try simp only [Act.put, pq]
     refine wpAnyH_ready (rs := [15]) (by kernel_rfl) (by simp) ?_
     refine AllReadyH.cons (o := _) rfl (fun K hK => ?_) (AllReadyH.nil)
     have hl1 := hHeld.res.lt
     have hl2 := hHeld.row.lt
     go_simp
     have hA := Has.new #[.int .u32 0, .int .u32 0, .int .u32 0, .int .u32 0, .int .u32 0, .int .u32 0, .int .u32 0, .int .u32 0, .int .u32 0, .int .u32 0, .int .u32 0, .int .u32 0, .int .u32 0, .int .u32 0, .int .u32 0, .int .u32 0, .int .u32 0, .int .u32 0, .bool false, .bool false, .bool false, .bool false, .int .i64 0] 147 w6
     have hN := (show (A.St s #[.int .i64 k, .int .i64 op, .int .i64 a, .int .i64 b, .int .i64 c, .int .i64 i, .bool u] w2.heap.size (A.row o f) w) _ from hHeld.step ((Kept.refl _).alloc #[.int .u32 0, .int .u32 0, .int .u32 0, .int .u32 0, .int .u32 0, .int .u32 0, .int .u32 0, .int .u32 0, .int .u32 0, .int .u32 0, .int .u32 0, .int .u32 0, .int .u32 0, .int .u32 0, .int .u32 0, .int .u32 0, .int .u32 0, .int .u32 0, .bool false, .bool false, .bool false, .bool false, .int .i64 0] 147))
     clear hHeld
     refine hK.out _ _ hN (fun hHeld => ?_)
     clear hK K hN
     try simp only [Act.put, pq]
     refine wpAnyH_ready (rs := [16]) (by kernel_rfl) (by simp) ?_
     refine AllReadyH.cons (o := _) rfl (fun K hK => ?_) (AllReadyH.nil)
     refine wp_store_row (o := ⟨none, .store 147 (.tmp 8) (.tmp 32), 0, "alu.go:36", #[eD 15, eD 14, eC 14, eP 0, eP 1, eP 2, eP 3, eP 4, eP 5, eP 6, eP 7, eP 8, eP 9, eP 10, eP 11, eP 12, eP 13, eP 14, eP 15], none⟩) 147 _ _ rfl _ (A.outc x s' 5) ?_ ?_ 147 _ hA (A.infoOut _ _ _) (by kernel_rfl) (A.one_outc _ _ _) ?_
     · rfl
     · rfl
     replace hA := hA.row (A.outc x s' 5)
     have hN := (show (A.St s #[.int .i64 k, .int .i64 op, .int .i64 a, .int .i64 b, .int .i64 c, .int .i64 i, .bool u] w2.heap.size (A.row o f) w) _ from hHeld.rowNew (by omega) (by omega) (A.outc x s' 5))
     clear hHeld
     refine hK.out _ _ hN (fun hHeld => ?_)
     clear hK K hN
     try simp only [Act.put, pq]
     refine wpAnyH_done (by kernel_rfl) ?_ _
     generalize World.setRow _ _ _ = wF at hHeld hA
     have q2 := hA.cell 22 _ (A.outc_t _ _ _)
     have H6 := Lib.hid (show Kept w wF ∧ Has w.heap.size (A.cells s) 48 wF ∧ Has _ (A.outc x s' 5) 147 wF ∧ HasN (w.heap.size + 2) 21 48 wF from ⟨hHeld.kept, hHeld.regs, hA, ⟨_, rfl, hHeld.res⟩⟩)
     clear hHeld hA hS
     go_upto_region 6 with (fail)
     clear q2
     refine wp_region_held_drew (S := fun w' => Kept w w' ∧ Has w.heap.size (A.cells s) 48 w' ∧ Has w6.heap.size (A.outc x s' 5) 147 w' ∧ HasN (w.heap.size + 2) 21 48 w') (by kernel_rfl) ?_ (fun hHeld => ?_)
     · exact ⟨H6.out.1.drew, H6.out.2.1.drew, H6.out.2.2.1.drew, H6.out.2.2.2⟩
     refine tk 0 _ (v := ?_) hHeld ?_ ?_
     rotate_left
     · (intro wz hSw; refine exec_load_has 48 (Operand.tmp 2) ?_ _ ?_ hSw.2.1 Tryz.underlying48 rfl (A.info25 _) <;> rfl)
     try simp only [Act.put, pq]
     refine tk 1 _ (v := ?_) hHeld ?_ (tk 2 _ (v := ?_) hHeld ?_ ?_)
     all_goals try (intro wz hSw; (try dsimp only at hSw); have q0 := hSw.2.2.1.cell 22 _ (A.outc_t _ _ _); go_simp; with_reducible rfl)
     try simp only [Act.put, pq]
     refine wpAnyH_ready (rs := [3]) (by kernel_rfl) (by simp) ?_
     refine AllReadyH.cons (o := _) rfl (fun K hK => ?_) (AllReadyH.nil)
     obtain ⟨old, hold, hR⟩ := hHeld.2.2.2
     refine wp_store_row (o := ⟨none, .store 48 (.tmp 4) (.tmp 36), 0, "alu.go:38", #[eD 0, eP 0, eT 1, eT 2], none⟩) 48 _ _ rfl _ (A.cells s) ?_ ?_ 48 old hR (A.info25 _) hold (A.one_cells _) ?_
     · rfl
     · rfl
     replace hR := Has.row hR (A.cells s)
     have hN := (show (fun w' => Kept w w' ∧ Has w.heap.size (A.cells s) 48 w' ∧ Has w6.heap.size (A.outc x s' 5) 147 w' ∧ HasN (w.heap.size + 2) 21 48 w') _ from ⟨hHeld.1.row (by omega) _, hHeld.2.1.rowOther (by omega) _, hHeld.2.2.1.rowOther (by omega) _, ⟨A.cells s, A.size_cells _, hR⟩⟩)
     clear hHeld
     refine hK.out _ _ hN (fun hHeld => ?_)
     clear hK K hN
     try simp only [Act.put, pq]
     refine tk 4 _ (v := ?_) hHeld ?_ ?_
     rotate_left
     · (intro wz hSw; (try dsimp only at hSw); have q0 := hSw.2.2.1.cell 22 _ (A.outc_t _ _ _); go_simp; try with_reducible rfl)
     try simp only [Act.put, pq]
     refine wpAnyH_done (by kernel_rfl) ?_ _
     generalize World.setRow _ _ _ = wF at hHeld hR
     replace hR := Lib.hid hR
     go_wp2_with fail
     exact bodyPost_ret (results_has2 rfl (w.heap.size + 2) rfl hR.out Tryz.underlying48 rfl (A.info25 _)) rfl ⟨rfl, hHeld.1⟩
   · have hl1 := hHeld.res.lt
     have hl2 := hHeld.row.lt
     go_simp
     have hA := Has.new #[.int .u32 0, .int .u32 0, .int .u32 0, .int .u32 0, .int .u32 0, .int .u32 0, .int .u32 0, .int .u32 0, .int .u32 0, .int .u32 0, .int .u32 0, .int .u32 0, .int .u32 0, .int .u32 0, .int .u32 0, .int .u32 0, .int .u32 0, .int .u32 0, .bool false, .bool false, .bool false, .bool false, .int .i64 0] 147 w5
     have hN := (show (A.St s #[.int .i64 k, .int .i64 op, .int .i64 a, .int .i64 b, .int .i64 c, .int .i64 i, .bool u] w2.heap.size (A.row o f) w) _ from hHeld.step ((Kept.refl _).alloc #[.int .u32 0, .int .u32 0, .int .u32 0, .int .u32 0, .int .u32 0, .int .u32 0, .int .u32 0, .int .u32 0, .int .u32 0, .int .u32 0, .int .u32 0, .int .u32 0, .int .u32 0, .int .u32 0, .int .u32 0, .int .u32 0, .int .u32 0, .int .u32 0, .bool false, .bool false, .bool false, .bool false, .int .i64 0] 147))
     clear hHeld
     refine hK.out _ _ hN (fun hHeld => ?_)
     clear hK K hN
     try simp only [Act.put, pq]
     refine wpAnyH_ready (rs := [14]) (by kernel_rfl) (by simp) ?_
     refine AllReadyH.cons (o := _) rfl (fun K hK => ?_) (AllReadyH.nil)
     refine wp_call_value (o := ⟨some 32, .call { callee := .value (.tmp 19), args := #[.tmp 31], argTypes := #[150] }, 147, "alu.go:36", #[eD 1, eD 13, eC 10], none⟩) _ _ _ rfl f ?_ HF.out #[.agg (A.opnd s (s.r b.toNat) n u)] ?_ ?_
     · rfl
     · go_simp
     refine (HW.out _).mono ?_
     rintro e w6 ⟨rfl, hK5⟩
     replace hA := hA.kept hK5
     have hN := (show (A.St s #[.int .i64 k, .int .i64 op, .int .i64 a, .int .i64 b, .int .i64 c, .int .i64 i, .bool u] w2.heap.size (A.row o f) w) _ from hHeld.step hK5)
     clear hHeld
     refine hK.out _ _ hN (fun hHeld => ?_)
     clear hK K hN
     try simp only [Act.put, pq]
     refine wpAnyH_ready (rs := [16]) (by kernel_rfl) (by simp) ?_
     refine AllReadyH.cons (o := _) rfl (fun K hK => ?_) (AllReadyH.nil)
     refine wp_store_row (o := ⟨none, .store 147 (.tmp 8) (.tmp 32), 0, "alu.go:36", #[eD 15, eD 14, eC 14, eP 0, eP 1, eP 2, eP 3, eP 4, eP 5, eP 6, eP 7, eP 8, eP 9, eP 10, eP 11, eP 12, eP 13, eP 14, eP 15], none⟩) 147 _ _ rfl _ (A.outc x s' 5) ?_ ?_ 147 _ hA (A.infoOut _ _ _) (by kernel_rfl) (A.one_outc _ _ _) ?_
     · rfl
     · rfl
     replace hA := hA.row (A.outc x s' 5)
     have hN := (show (A.St s #[.int .i64 k, .int .i64 op, .int .i64 a, .int .i64 b, .int .i64 c, .int .i64 i, .bool u] w2.heap.size (A.row o f) w) _ from hHeld.rowNew (by omega) (by omega) (A.outc x s' 5))
     clear hHeld
     refine hK.out _ _ hN (fun hHeld => ?_)
     clear hK K hN
     try simp only [Act.put, pq]
     refine wpAnyH_done (by kernel_rfl) ?_ _
     generalize World.setRow _ _ _ = wF at hHeld hA
     have q2 := hA.cell 22 _ (A.outc_t _ _ _)
     have H6 := Lib.hid (show Kept w wF ∧ Has w.heap.size (A.cells s) 48 wF ∧ Has _ (A.outc x s' 5) 147 wF ∧ HasN (w.heap.size + 2) 21 48 wF from ⟨hHeld.kept, hHeld.regs, hA, ⟨_, rfl, hHeld.res⟩⟩)
     clear hHeld hA hS
     go_upto_region 6 with (fail)
     clear q2
     refine wp_region_held_drew (S := fun w' => Kept w w' ∧ Has w.heap.size (A.cells s) 48 w' ∧ Has w5.heap.size (A.outc x s' 5) 147 w' ∧ HasN (w.heap.size + 2) 21 48 w') (by kernel_rfl) ?_ (fun hHeld => ?_)
     · exact ⟨H6.out.1.drew, H6.out.2.1.drew, H6.out.2.2.1.drew, H6.out.2.2.2⟩
     refine tk 0 _ (v := ?_) hHeld ?_ ?_
     rotate_left
     · (intro wz hSw; refine exec_load_has 48 (Operand.tmp 2) ?_ _ ?_ hSw.2.1 Tryz.underlying48 rfl (A.info25 _) <;> rfl)
     try simp only [Act.put, pq]
     refine tk 1 _ (v := ?_) hHeld ?_ (tk 2 _ (v := ?_) hHeld ?_ ?_)
     all_goals try (intro wz hSw; (try dsimp only at hSw); have q0 := hSw.2.2.1.cell 22 _ (A.outc_t _ _ _); go_simp; with_reducible rfl)
     try simp only [Act.put, pq]
     refine wpAnyH_ready (rs := [3]) (by kernel_rfl) (by simp) ?_
     refine AllReadyH.cons (o := _) rfl (fun K hK => ?_) (AllReadyH.nil)
     obtain ⟨old, hold, hR⟩ := hHeld.2.2.2
     refine wp_store_row (o := ⟨none, .store 48 (.tmp 4) (.tmp 36), 0, "alu.go:38", #[eD 0, eP 0, eT 1, eT 2], none⟩) 48 _ _ rfl _ (A.cells s) ?_ ?_ 48 old hR (A.info25 _) hold (A.one_cells _) ?_
     · rfl
     · rfl
     replace hR := Has.row hR (A.cells s)
     have hN := (show (fun w' => Kept w w' ∧ Has w.heap.size (A.cells s) 48 w' ∧ Has w5.heap.size (A.outc x s' 5) 147 w' ∧ HasN (w.heap.size + 2) 21 48 w') _ from ⟨hHeld.1.row (by omega) _, hHeld.2.1.rowOther (by omega) _, hHeld.2.2.1.rowOther (by omega) _, ⟨A.cells s, A.size_cells _, hR⟩⟩)
     clear hHeld
     refine hK.out _ _ hN (fun hHeld => ?_)
     clear hK K hN
     try simp only [Act.put, pq]
     refine tk 4 _ (v := ?_) hHeld ?_ ?_
     rotate_left
     · (intro wz hSw; (try dsimp only at hSw); have q0 := hSw.2.2.1.cell 22 _ (A.outc_t _ _ _); go_simp; try with_reducible rfl)
     try simp only [Act.put, pq]
     refine wpAnyH_done (by kernel_rfl) ?_ _
     generalize World.setRow _ _ _ = wF at hHeld hR
     replace hR := Lib.hid hR
     go_wp2_with fail
     exact bodyPost_ret (results_has2 rfl (w.heap.size + 2) rfl hR.out Tryz.underlying48 rfl (A.info25 _)) rfl ⟨rfl, hHeld.1⟩
 · have hl1 := hHeld.res.lt
   have hl2 := hHeld.row.lt
   go_simp
   have hA := Has.new #[.int .u32 0, .int .u32 0, .int .u32 0, .int .u32 0, .int .u32 0, .int .u32 0, .int .u32 0, .int .u32 0, .int .u32 0, .int .u32 0, .int .u32 0, .int .u32 0, .int .u32 0, .int .u32 0, .int .u32 0, .int .u32 0, .int .u32 0, .int .u32 0, .bool false, .bool false, .bool false, .bool false, .int .i64 0] 147 ((w2.alloc (.cells (A.row o f) 143)).drew)
   have e8 : ((w2.alloc (.cells (A.row o f) 143)).drew).heap.size = w2.heap.size + 1 := by show (w2.heap.push _).size = _; simp
   rw [e8] at hA hl1 hl2
   clear e8
   have hN := (show (A.St s #[.int .i64 k, .int .i64 op, .int .i64 a, .int .i64 b, .int .i64 c, .int .i64 i, .bool u] w2.heap.size (A.row o f) w) _ from hHeld.step ((Kept.refl _).alloc #[.int .u32 0, .int .u32 0, .int .u32 0, .int .u32 0, .int .u32 0, .int .u32 0, .int .u32 0, .int .u32 0, .int .u32 0, .int .u32 0, .int .u32 0, .int .u32 0, .int .u32 0, .int .u32 0, .int .u32 0, .int .u32 0, .int .u32 0, .int .u32 0, .bool false, .bool false, .bool false, .bool false, .int .i64 0] 147))
   clear hHeld
   refine hK.out _ _ hN (fun hHeld => ?_)
   clear hK K hN
   try simp only [Act.put, pq]
   refine wpAnyH_ready (rs := [10]) (by kernel_rfl) (by simp) ?_
   refine AllReadyH.cons (o := _) rfl (fun K hK => ?_) (AllReadyH.nil)
   go_simp
   go_at_call 106
   refine (HN.out _).mono ?_
   rintro e w5 ⟨rfl, hK5⟩
   replace hA := hA.kept hK5
   have hN := (show (A.St s #[.int .i64 k, .int .i64 op, .int .i64 a, .int .i64 b, .int .i64 c, .int .i64 i, .bool u] w2.heap.size (A.row o f) w) _ from hHeld.step hK5)
   clear hHeld
   refine hK.out _ _ hN (fun hHeld => ?_)
   clear hK K hN
   try simp only [Act.put, pq]
   refine tk 13 _ (v := ?_) hHeld ?_ ?_
   rotate_left
   · (intro wz hSw; refine exec_build (o := ⟨some 31, .build 150 #[(0, .tmp 20), (1, .tmp 25), (2, .tmp 28), (3, .tmp 30)], 150, "alu.go:36", #[eD 2, eD 7, eD 10, eD 12], none⟩) 150 _ rfl (A.opnd s (s.r b.toNat) n u) ?_; (go_simp; exact A.builtOp _ _ _ _))
   try simp only [Act.put, pq]
   refine wpAnyH_ready (rs := [14]) (by kernel_rfl) (by simp) ?_
   refine AllReadyH.cons (o := _) rfl (fun K hK => ?_) (AllReadyH.nil)
   refine wp_call_value (o := ⟨some 32, .call { callee := .value (.tmp 19), args := #[.tmp 31], argTypes := #[150] }, 147, "alu.go:36", #[eD 1, eD 13, eC 10], none⟩) _ _ _ rfl f ?_ HF.out #[.agg (A.opnd s (s.r b.toNat) n u)] ?_ ?_
   · rfl
   · go_simp
   refine (HW.out _).mono ?_
   rintro e w6 ⟨rfl, hK5⟩
   replace hA := hA.kept hK5
   have hN := (show (A.St s #[.int .i64 k, .int .i64 op, .int .i64 a, .int .i64 b, .int .i64 c, .int .i64 i, .bool u] w2.heap.size (A.row o f) w) _ from hHeld.step hK5)
   clear hHeld
   refine hK.out _ _ hN (fun hHeld => ?_)
   clear hK K hN
   try simp only [Act.put, pq]
   refine wpAnyH_ready (rs := [16]) (by kernel_rfl) (by simp) ?_
   refine AllReadyH.cons (o := _) rfl (fun K hK => ?_) (AllReadyH.nil)
   refine wp_store_row (o := ⟨none, .store 147 (.tmp 8) (.tmp 32), 0, "alu.go:36", #[eD 15, eD 14, eC 14, eP 0, eP 1, eP 2, eP 3, eP 4, eP 5, eP 6, eP 7, eP 8, eP 9, eP 10, eP 11, eP 12, eP 13, eP 14, eP 15], none⟩) 147 _ _ rfl _ (A.outc x s' 5) ?_ ?_ 147 _ hA (A.infoOut _ _ _) (by kernel_rfl) (A.one_outc _ _ _) ?_
   · rfl
   · rfl
   replace hA := hA.row (A.outc x s' 5)
   have hN := (show (A.St s #[.int .i64 k, .int .i64 op, .int .i64 a, .int .i64 b, .int .i64 c, .int .i64 i, .bool u] w2.heap.size (A.row o f) w) _ from hHeld.rowNew (by omega) (by omega) (A.outc x s' 5))
   clear hHeld
   refine hK.out _ _ hN (fun hHeld => ?_)
   clear hK K hN
   try simp only [Act.put, pq]
   refine wpAnyH_done (by kernel_rfl) ?_ _
   generalize World.setRow _ _ _ = wF at hHeld hA
   have q2 := hA.cell 22 _ (A.outc_t _ _ _)
   have H6 := Lib.hid (show Kept w wF ∧ Has w.heap.size (A.cells s) 48 wF ∧ Has _ (A.outc x s' 5) 147 wF ∧ HasN (w.heap.size + 2) 21 48 wF from ⟨hHeld.kept, hHeld.regs, hA, ⟨_, rfl, hHeld.res⟩⟩)
   clear hHeld hA hS
   go_upto_region 6 with (fail)
   clear q2
   refine wp_region_held_drew (S := fun w' => Kept w w' ∧ Has w.heap.size (A.cells s) 48 w' ∧ Has (w2.heap.size + 1) (A.outc x s' 5) 147 w' ∧ HasN (w.heap.size + 2) 21 48 w') (by kernel_rfl) ?_ (fun hHeld => ?_)
   · exact ⟨H6.out.1.drew, H6.out.2.1.drew, H6.out.2.2.1.drew, H6.out.2.2.2⟩
   refine tk 0 _ (v := ?_) hHeld ?_ ?_
   rotate_left
   · (intro wz hSw; refine exec_load_has 48 (Operand.tmp 2) ?_ _ ?_ hSw.2.1 Tryz.underlying48 rfl (A.info25 _) <;> rfl)
   try simp only [Act.put, pq]
   refine tk 1 _ (v := ?_) hHeld ?_ (tk 2 _ (v := ?_) hHeld ?_ ?_)
   all_goals try (intro wz hSw; (try dsimp only at hSw); have q0 := hSw.2.2.1.cell 22 _ (A.outc_t _ _ _); go_simp; with_reducible rfl)
   try simp only [Act.put, pq]
   refine wpAnyH_ready (rs := [3]) (by kernel_rfl) (by simp) ?_
   refine AllReadyH.cons (o := _) rfl (fun K hK => ?_) (AllReadyH.nil)
   obtain ⟨old, hold, hR⟩ := hHeld.2.2.2
   refine wp_store_row (o := ⟨none, .store 48 (.tmp 4) (.tmp 36), 0, "alu.go:38", #[eD 0, eP 0, eT 1, eT 2], none⟩) 48 _ _ rfl _ (A.cells s) ?_ ?_ 48 old hR (A.info25 _) hold (A.one_cells _) ?_
   · rfl
   · rfl
   replace hR := Has.row hR (A.cells s)
   have hN := (show (fun w' => Kept w w' ∧ Has w.heap.size (A.cells s) 48 w' ∧ Has (w2.heap.size + 1) (A.outc x s' 5) 147 w' ∧ HasN (w.heap.size + 2) 21 48 w') _ from ⟨hHeld.1.row (by omega) _, hHeld.2.1.rowOther (by omega) _, hHeld.2.2.1.rowOther (by omega) _, ⟨A.cells s, A.size_cells _, hR⟩⟩)
   clear hHeld
   refine hK.out _ _ hN (fun hHeld => ?_)
   clear hK K hN
   try simp only [Act.put, pq]
   refine tk 4 _ (v := ?_) hHeld ?_ ?_
   rotate_left
   · (intro wz hSw; (try dsimp only at hSw); have q0 := hSw.2.2.1.cell 22 _ (A.outc_t _ _ _); go_simp; try with_reducible rfl)
   try simp only [Act.put, pq]
   refine wpAnyH_done (by kernel_rfl) ?_ _
   generalize World.setRow _ _ _ = wF at hHeld hR
   replace hR := Lib.hid hR
   go_wp2_with fail
   exact bodyPost_ret (results_has2 rfl (w.heap.size + 2) rfl hR.out Tryz.underlying48 rfl (A.info25 _)) rfl ⟨rfl, hHeld.1⟩
namespace A
def num (s : Regs) (x : I.Ins) : Int := if x.k = 2 then x.i % 4294967296 else s.r x.c.toNat
def work (op : Nat) (s : Regs) (b n : Int) (u : Bool) : Int × Regs :=
 if op = 0 then (if u then n * 65536 % 4294967296 else n, s)
 else if op = 1 then (W.shift 1 b n, s)
 else if op = 2 then (W.shift 2 b n, s)
 else if op = 3 then (W.shift 3 b n, s)
 else if op = 4 then (bits BinOp.and IntKind.u32 b n, s)
 else if op = 5 then (bits BinOp.andNot IntKind.u32 b n, s)
 else if op = 6 then (bits BinOp.or IntKind.u32 b n, s)
 else if op = 7 then (bits BinOp.xor IntKind.u32 b n, s)
 else if op = 8 then (W.low (b + n + W.one (u && s.c)), setV (setC s (W.over (b + n + W.one (u && s.c)))) (!W.inS (W.sgn b + W.sgn n + W.one (u && s.c))))
 else if op = 9 then (W.low (b - n - W.one (u && s.c)), setV (setC s (W.neg (b - n - W.one (u && s.c)))) (!W.inS (W.sgn b - W.sgn n - W.one (u && s.c))))
 else if op = 10 then (W.low (W.prod u b n), setH s (W.low (W.prod u b n / 4294967296)))
 else (W.low (W.sgn b / W.sgn n), setH s (W.low (W.sgn b % W.sgn n)))
def res (s : Regs) (x : I.Ins) : Int × Regs := if x.k = 3 then (s.h, s) else if x.k = 4 then (flg s, s) else work x.op.toNat s (s.r x.b.toNat) (num s x) x.u
def Traps (s : Regs) (x : I.Ins) : Prop := (x.k = 1 ∨ x.k = 2) ∧ x.op = 11 ∧ W.sgn (num s x) ≤ 0
def done (s : Regs) (x : I.Ins) : Regs := show' (set (res s x).2 x.a.toNat (res s x).1) (res s x).1
theorem bits_lo (o : BinOp) (a b : Int) (h : o = .and ∨ o = .or ∨ o = .xor ∨ o = .andNot) (h0 : 0 ≤ a) (h1 : a < 4294967296) (h2 : 0 ≤ b) (h3 : b < 4294967296) : 0 ≤ bits o .u32 a b ∧ bits o .u32 a b < 4294967296 := by
 have ha : a.toNat < 2 ^ 32 := by omega
 have hb : b.toNat < 2 ^ 32 := by omega
 have hc : 4294967295 - b.toNat < 2 ^ 32 := by omega
 rcases h with rfl | rfl | rfl | rfl
 · rw [u32_and a b h0 h1 h2 h3]; have := Nat.and_lt_two_pow a.toNat hb; omega
 · rw [u32_or a b h0 h1 h2 h3]; have := Nat.or_lt_two_pow ha hb; omega
 · rw [u32_xor a b h0 h1 h2 h3]; have := Nat.xor_lt_two_pow ha hb; omega
 · rw [u32_andNot a b h0 h1 h2 h3]; have := Nat.and_lt_two_pow a.toNat hc; omega
theorem shift_lo (k a n : Int) (h0 : 0 ≤ a) (h1 : a < 4294967296) : 0 ≤ W.shift k a n ∧ W.shift k a n < 4294967296 := ⟨W.shift_lo k a n h0 h1, W.shift_hi k a n h0 h1⟩
theorem num_ok (s : Regs) (x : I.Ins) (hs : Ok s) (hc : 0 ≤ x.c) (hc1 : x.c ≤ 15) : 0 ≤ num s x ∧ num s x < 4294967296 := by
 unfold num; split
 · omega
 · exact hs.1 _ (by omega)
theorem work_0 (s : Regs) (b n : Int) (u : Bool) : work 0 s b n u = (if u then n * 65536 % 4294967296 else n, s) := rfl
theorem work_1 (s : Regs) (b n : Int) (u : Bool) : work 1 s b n u = (W.shift 1 b n, s) := rfl
theorem work_2 (s : Regs) (b n : Int) (u : Bool) : work 2 s b n u = (W.shift 2 b n, s) := rfl
theorem work_3 (s : Regs) (b n : Int) (u : Bool) : work 3 s b n u = (W.shift 3 b n, s) := rfl
theorem work_4 (s : Regs) (b n : Int) (u : Bool) : work 4 s b n u = (bits BinOp.and IntKind.u32 b n, s) := rfl
theorem work_5 (s : Regs) (b n : Int) (u : Bool) : work 5 s b n u = (bits BinOp.andNot IntKind.u32 b n, s) := rfl
theorem work_6 (s : Regs) (b n : Int) (u : Bool) : work 6 s b n u = (bits BinOp.or IntKind.u32 b n, s) := rfl
theorem work_7 (s : Regs) (b n : Int) (u : Bool) : work 7 s b n u = (bits BinOp.xor IntKind.u32 b n, s) := rfl
theorem work_8 (s : Regs) (b n : Int) (u : Bool) : work 8 s b n u = (W.low (b + n + W.one (u && s.c)), setV (setC s (W.over (b + n + W.one (u && s.c)))) (!W.inS (W.sgn b + W.sgn n + W.one (u && s.c)))) := rfl
theorem work_9 (s : Regs) (b n : Int) (u : Bool) : work 9 s b n u = (W.low (b - n - W.one (u && s.c)), setV (setC s (W.neg (b - n - W.one (u && s.c)))) (!W.inS (W.sgn b - W.sgn n - W.one (u && s.c)))) := rfl
theorem work_10 (s : Regs) (b n : Int) (u : Bool) : work 10 s b n u = (W.low (W.prod u b n), setH s (W.low (W.prod u b n / 4294967296))) := rfl
theorem work_div (op : Nat) (h : 11 ≤ op) (s : Regs) (b n : Int) (u : Bool) : work op s b n u = (W.low (W.sgn b / W.sgn n), setH s (W.low (W.sgn b % W.sgn n))) := by
 unfold work
 rw [if_neg (by omega), if_neg (by omega), if_neg (by omega), if_neg (by omega), if_neg (by omega), if_neg (by omega), if_neg (by omega), if_neg (by omega), if_neg (by omega), if_neg (by omega), if_neg (by omega)]
theorem ops12 (op : Nat) : op = 0 ∨ op = 1 ∨ op = 2 ∨ op = 3 ∨ op = 4 ∨ op = 5 ∨ op = 6 ∨ op = 7 ∨ op = 8 ∨ op = 9 ∨ op = 10 ∨ 11 ≤ op := by omega
theorem work_ok (op : Nat) (s : Regs) (b n : Int) (u : Bool) (h0 : 0 ≤ b) (h1 : b < 4294967296) (h2 : 0 ≤ n) (h3 : n < 4294967296) : 0 ≤ (work op s b n u).1 ∧ (work op s b n u).1 < 4294967296 := by
 rcases ops12 op with rfl | rfl | rfl | rfl | rfl | rfl | rfl | rfl | rfl | rfl | rfl | h
 · rw [work_0]; simp only; split <;> omega
 · rw [work_1]; exact shift_lo 1 b n h0 h1
 · rw [work_2]; exact shift_lo 2 b n h0 h1
 · rw [work_3]; exact shift_lo 3 b n h0 h1
 · rw [work_4]; exact bits_lo .and b n (by simp) h0 h1 h2 h3
 · rw [work_5]; exact bits_lo .andNot b n (by simp) h0 h1 h2 h3
 · rw [work_6]; exact bits_lo .or b n (by simp) h0 h1 h2 h3
 · rw [work_7]; exact bits_lo .xor b n (by simp) h0 h1 h2 h3
 · rw [work_8]; exact ⟨W.low_lo _, W.low_hi _⟩
 · rw [work_9]; exact ⟨W.low_lo _, W.low_hi _⟩
 · rw [work_10]; exact ⟨W.low_lo _, W.low_hi _⟩
 · rw [work_div op h]; exact ⟨W.low_lo _, W.low_hi _⟩
theorem work_regs (op : Nat) (s : Regs) (b n : Int) (u : Bool) (hs : Ok s) : Ok (work op s b n u).2 := by
 rcases ops12 op with rfl | rfl | rfl | rfl | rfl | rfl | rfl | rfl | rfl | rfl | rfl | h
 · rw [work_0]; exact hs
 · rw [work_1]; exact hs
 · rw [work_2]; exact hs
 · rw [work_3]; exact hs
 · rw [work_4]; exact hs
 · rw [work_5]; exact hs
 · rw [work_6]; exact hs
 · rw [work_7]; exact hs
 · rw [work_8]; exact hs
 · rw [work_9]; exact hs
 · rw [work_10]; exact ⟨hs.1, W.low_lo _, W.low_hi _⟩
 · rw [work_div op h]; exact ⟨hs.1, W.low_lo _, W.low_hi _⟩
theorem res_ok (s : Regs) (x : I.Ins) (hs : Ok s) (h : I.May x) : (0 ≤ (res s x).1 ∧ (res s x).1 < 4294967296) ∧ Ok (res s x).2 := by
 have hm := h.1
 unfold res
 split
 · exact ⟨hs.2, hs⟩
 split
 · exact ⟨⟨fl_lo s 4, fl_hi s 4⟩, hs⟩
 · have hb := hs.1 x.b.toNat (by omega)
   have hn := num_ok s x hs hm.2.2.2.2.1 hm.2.2.2.2.2
   exact ⟨work_ok _ _ _ _ _ hb.1 hb.2 hn.1 hn.2, work_regs _ _ _ _ _ hs⟩
theorem ok_set (s : Regs) (j : Nat) (x : Int) (hs : Ok s) (h0 : 0 ≤ x) (h1 : x < 4294967296) : Ok (set s j x) := by
 refine ⟨fun k hk => ?_, hs.2⟩
 unfold set; simp only
 split
 · exact ⟨h0, h1⟩
 · exact hs.1 k hk
theorem ok_show (s : Regs) (x : Int) (hs : Ok s) : Ok (show' s x) := hs
theorem done_ok (s : Regs) (x : I.Ins) (hs : Ok s) (h : I.May x) : Ok (done s x) := by
 have h1 := res_ok s x hs h
 exact ok_show _ _ (ok_set _ _ _ h1.2 h1.1.1 h1.1.2)
end A
theorem callsRow (op : Nat) (hop : op < 12) : ∀ args w, (callFunc (A.fn op) args).run Tryz.prog w = .ok (.enter (A.fn op) args) w := by
 have : op = 0 ∨ op = 1 ∨ op = 2 ∨ op = 3 ∨ op = 4 ∨ op = 5 ∨ op = 6 ∨ op = 7 ∨ op = 8 ∨ op = 9 ∨ op = 10 ∨ op = 11 := by omega
 rcases this with rfl | rfl | rfl | rfl | rfl | rfl | rfl | rfl | rfl | rfl | rfl | rfl
 · exact callsFn Tryz.func133 (by kernel_rfl) (by kernel_rfl)
 · exact callsFn Tryz.func134 (by kernel_rfl) (by kernel_rfl)
 · exact callsFn Tryz.func136 (by kernel_rfl) (by kernel_rfl)
 · exact callsFn Tryz.func137 (by kernel_rfl) (by kernel_rfl)
 · exact callsFn Tryz.func138 (by kernel_rfl) (by kernel_rfl)
 · exact callsFn Tryz.func139 (by kernel_rfl) (by kernel_rfl)
 · exact callsFn Tryz.func140 (by kernel_rfl) (by kernel_rfl)
 · exact callsFn Tryz.func141 (by kernel_rfl) (by kernel_rfl)
 · exact callsFn Tryz.func142 (by kernel_rfl) (by kernel_rfl)
 · exact callsFn Tryz.func146 (by kernel_rfl) (by kernel_rfl)
 · exact callsFn Tryz.func148 (by kernel_rfl) (by kernel_rfl)
 · exact callsFn Tryz.func151 (by kernel_rfl) (by kernel_rfl)
theorem callsHigh : ∀ args w, (callFunc 124 args).run Tryz.prog w = .ok (.enter 124 args) w := callsFn Tryz.func124 (by kernel_rfl) (by kernel_rfl)
theorem callsFlags : ∀ args w, (callFunc 125 args).run Tryz.prog w = .ok (.enter 125 args) w := callsFn Tryz.func125 (by kernel_rfl) (by kernel_rfl)
theorem work_any (op : Nat) (hop : op < 12) (s : A.Regs) (b n : Int) (u : Bool) (h0 : 0 ≤ b) (h1 : b < 4294967296) (h2 : 0 ≤ n) (h3 : n < 4294967296) (hd : op = 11 → 0 < W.sgn n) (w : World) :
 Calls Tryz.prog (A.fn op) #[.agg (A.opnd s b n u)] w fun e w' => e = .returned (.agg (A.outc (A.work op s b n u).1 (A.work op s b n u).2 0)) ∧ Kept w w' := by
 have : op = 0 ∨ op = 1 ∨ op = 2 ∨ op = 3 ∨ op = 4 ∨ op = 5 ∨ op = 6 ∨ op = 7 ∨ op = 8 ∨ op = 9 ∨ op = 10 ∨ op = 11 := by omega
 rcases this with rfl | rfl | rfl | rfl | rfl | rfl | rfl | rfl | rfl | rfl | rfl | rfl
 · cases u
   · exact move_f s b n h0 h1 h2 h3 w
   · exact move_t s b n h0 h1 h2 h3 w
 · exact shift_1 s b n u h0 h1 h2 h3 w
 · exact shift_2 s b n u h0 h1 h2 h3 w
 · exact shift_3 s b n u h0 h1 h2 h3 w
 · exact bit_and s b n u h0 h1 h2 h3 w
 · exact bit_andNot s b n u h0 h1 h2 h3 w
 · exact bit_or s b n u h0 h1 h2 h3 w
 · exact bit_xor s b n u h0 h1 h2 h3 w
 · exact add_work s b n u h0 h1 h2 h3 w
 · exact sub_work s b n u h0 h1 h2 h3 w
 · exact mul_work s b n u h0 h1 h2 h3 w
 · exact divide_yes s b n u h0 h1 h2 h3 (hd rfl) w
theorem do_no (s : A.Regs) (k op a b c i : Int) (u : Bool) (h : ¬ I.May ⟨k, op, a, b, c, i, u⟩ ∨ k = 5 ∨ k = 6 ∨ k = 7) (w : World) :
 Calls Tryz.prog 74 #[.agg (A.cells s), .agg #[.int .i64 k, .int .i64 op, .int .i64 a, .int .i64 b, .int .i64 c, .int .i64 i, .bool u]] w fun e w' => e = .returned (.tuple #[.agg (A.cells s), .int .i64 0]) ∧ Kept w w' := by
 by_cases hm : I.May ⟨k, op, a, b, c, i, u⟩
 · have hm' : I.may ⟨k, op, a, b, c, i, u⟩ = true := decide_eq_true hm
   rcases h with h | rfl | rfl | rfl
   · exact absurd hm h
   · exact do_none s 5 op a b c i u w (Lib.hid (opOf_5 op a b c i u hm'))
   · exact do_none s 6 op a b c i u w (Lib.hid (opOf_6 op a b c i u hm'))
   · exact do_none s 7 op a b c i u w (Lib.hid (opOf_7 op a b c i u hm'))
 · exact do_none s k op a b c i u w (Lib.hid (opOf_not k op a b c i u (decide_eq_false hm)))
theorem do_yes (s : A.Regs) (k op a b c i : Int) (u : Bool) (hs : A.Ok s) (hm : I.May ⟨k, op, a, b, c, i, u⟩) (hk : k = 1 ∨ k = 2 ∨ k = 3 ∨ k = 4) (ht : ¬ A.Traps s ⟨k, op, a, b, c, i, u⟩) (w : World) :
 Calls Tryz.prog 74 #[.agg (A.cells s), .agg #[.int .i64 k, .int .i64 op, .int .i64 a, .int .i64 b, .int .i64 c, .int .i64 i, .bool u]] w fun e w' => e = .returned (.tuple #[.agg (A.cells (A.done s ⟨k, op, a, b, c, i, u⟩)), .int .i64 0]) ∧ Kept w w' := by
 have hm' : I.may ⟨k, op, a, b, c, i, u⟩ = true := decide_eq_true hm
 have hr := A.res_ok s _ hs hm
 have hn := A.num_ok s _ hs hm.1.2.2.2.2.1 hm.1.2.2.2.2.2
 obtain ⟨⟨a0, a1, b0, b1, c0, c1⟩, hm2⟩ := hm
 simp only at a0 a1 b0 b1 c0 c1 hm2
 have hb := hs.1 b.toNat (by omega)
 rcases hk with rfl | rfl | rfl | rfl
 · have ho : 0 ≤ op ∧ op < 12 := by omega
   obtain ⟨o, rfl⟩ : ∃ o : Nat, op = o := ⟨op.toNat, by omega⟩
   have ho' : o < 12 := by omega
   exact do_ok s _ 1 o a b c i (s.r c.toNat) _ o u (A.fn o) a0 (by omega) b0 (by omega) hr.1.1 hr.1.2 w (Lib.hid (opOf_1 o a b c i u ho' hm')) (Lib.hid (number_reg s 1 o a b c i u rfl c0 (by omega))) (Lib.hid (callsRow o ho'))
    (Lib.hid (work_any o ho' s _ _ u hb.1 hb.2 hn.1 hn.2 (fun e => by
      subst e
      have : ¬ W.sgn (s.r c.toNat) ≤ 0 := fun h => ht ⟨Or.inl rfl, rfl, h⟩
      show 0 < W.sgn (s.r c.toNat)
      omega)))
 · have ho : 0 ≤ op ∧ op < 12 := by omega
   obtain ⟨o, rfl⟩ : ∃ o : Nat, op = o := ⟨op.toNat, by omega⟩
   have ho' : o < 12 := by omega
   exact do_ok s _ 2 o a b c i (i % 4294967296) _ o u (A.fn o) a0 (by omega) b0 (by omega) hr.1.1 hr.1.2 w (Lib.hid (opOf_2 o a b c i u ho' hm')) (Lib.hid (number_imm s o a b c i u)) (Lib.hid (callsRow o ho'))
    (Lib.hid (work_any o ho' s _ _ u hb.1 hb.2 hn.1 hn.2 (fun e => by
      subst e
      have : ¬ W.sgn (i % 4294967296) ≤ 0 := fun h => ht ⟨Or.inr rfl, rfl, h⟩
      show 0 < W.sgn (i % 4294967296)
      omega)))
 · exact do_ok s _ 3 op a b c i (s.r c.toNat) _ 0 u 124 a0 (by omega) b0 (by omega) hr.1.1 hr.1.2 w (Lib.hid (opOf_3 op a b c i u hm')) (Lib.hid (number_reg s 3 op a b c i u rfl c0 (by omega))) (Lib.hid callsHigh)
    (Lib.hid (high_any s _ _ u))
 · exact do_ok s _ 4 op a b c i (s.r c.toNat) _ 0 u 125 a0 (by omega) b0 (by omega) hr.1.1 hr.1.2 w (Lib.hid (opOf_4 op a b c i u hm')) (Lib.hid (number_reg s 4 op a b c i u rfl c0 (by omega))) (Lib.hid callsFlags)
    (Lib.hid (flags_any s _ _ u))
theorem do_div (s : A.Regs) (k op a b c i : Int) (u : Bool) (hs : A.Ok s) (hm : I.May ⟨k, op, a, b, c, i, u⟩) (ht : A.Traps s ⟨k, op, a, b, c, i, u⟩) (w : World) :
 Calls Tryz.prog 74 #[.agg (A.cells s), .agg #[.int .i64 k, .int .i64 op, .int .i64 a, .int .i64 b, .int .i64 c, .int .i64 i, .bool u]] w fun e w' => e = .returned (.tuple #[.agg (A.cells s), .int .i64 5]) ∧ Kept w w' := by
 have hm' : I.may ⟨k, op, a, b, c, i, u⟩ = true := decide_eq_true hm
 have hn := A.num_ok s _ hs hm.1.2.2.2.2.1 hm.1.2.2.2.2.2
 obtain ⟨⟨a0, a1, b0, b1, c0, c1⟩, hm2⟩ := hm
 simp only at a0 a1 b0 b1 c0 c1 hm2
 have hb := hs.1 b.toNat (by omega)
 obtain ⟨hk, h11, hz⟩ := ht
 simp only at hk h11
 subst h11
 rcases hk with rfl | rfl
 · exact do_trap s _ 1 11 a b c i (s.r c.toNat) _ 11 u (A.fn 11) a0 (by omega) b0 (by omega) w (Lib.hid (opOf_1 11 a b c i u (by omega) hm')) (Lib.hid (number_reg s 1 11 a b c i u rfl c0 (by omega))) (Lib.hid (callsRow 11 (by omega))) (Lib.hid (divide_no s _ _ u hb.1 hb.2 hn.1 hn.2 hz))
 · exact do_trap s _ 2 11 a b c i (i % 4294967296) _ 11 u (A.fn 11) a0 (by omega) b0 (by omega) w (Lib.hid (opOf_2 11 a b c i u (by omega) hm')) (Lib.hid (number_imm s 11 a b c i u)) (Lib.hid (callsRow 11 (by omega))) (Lib.hid (divide_no s _ _ u hb.1 hb.2 hn.1 hn.2 hz))
end Go.Proofs.YtpfgmfiegnkocaaGreat
