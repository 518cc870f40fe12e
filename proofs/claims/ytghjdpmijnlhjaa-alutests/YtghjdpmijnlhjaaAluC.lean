/-
  The walk of the law AluTests.
-/
import Derived.Test.YtghjdpmijnlhjaaAluB
namespace Go.Proofs.Ytghjdpmijnlhjaa
open Go.RowKit
set_option linter.unusedVariables false
set_option linter.unusedSimpArgs false
set_option maxRecDepth 100000 in
set_option maxHeartbeats 2000000 in
theorem walk_Tests_at (s T : A.Regs) (a b : Int) (tk : Int → Bool) (h0 : 0 ≤ a) (h1 : a < 4294967296) (h2 : 0 ≤ b) (h3 : b < 4294967296) (hr : T.r 3 = (a - b) % 4294967296) (w : World)
    (htk : Hid (∀ k : Nat, k < 8 → (tk k == tk (IntKind.i64.wrap ((k : Int) + 8))) = false))
    (C1 : Hid (∀ w, Calls Try.prog 11 #[.agg (A.cells (A.set (A.set s 1 a) 2 b)), .agg #[.int .i64 1, .int .i64 9, .int .i64 3, .int .i64 1, .int .i64 2, .int .i64 0, .bool false]] w fun e w' => e = .returned (.tuple #[.agg (A.cells T), .int .i64 0]) ∧ Kept w w'))
    (KL : Hid (∀ k w, Calls Try.prog 14 #[.agg (A.cells T), .int .i64 k] w fun e w' => e = .returned (.bool (tk k)) ∧ Kept w w'))
    (K1 : Hid (∀ w, Calls Try.prog 14 #[.agg (A.cells T), .int .i64 1] w fun e w' => e = .returned (.bool (a == b)) ∧ Kept w w'))
    (K2 : Hid (∀ w, Calls Try.prog 14 #[.agg (A.cells T), .int .i64 2] w fun e w' => e = .returned (.bool (decide (a < b))) ∧ Kept w w'))
    (K4 : Hid (∀ w, Calls Try.prog 14 #[.agg (A.cells T), .int .i64 4] w fun e w' => e = .returned (.bool (decide (a ≤ b))) ∧ Kept w w'))
    (K5 : Hid (∀ w, Calls Try.prog 14 #[.agg (A.cells T), .int .i64 5] w fun e w' => e = .returned (.bool (decide (wrap64 (wrap32 a) < wrap64 (wrap32 b)))) ∧ Kept w w'))
    (K6 : Hid (∀ w, Calls Try.prog 14 #[.agg (A.cells T), .int .i64 6] w fun e w' => e = .returned (.bool (decide (wrap64 (wrap32 a) ≤ wrap64 (wrap32 b)))) ∧ Kept w w'))
    (K7 : Hid (∀ w, Calls Try.prog 14 #[.agg (A.cells T), .int .i64 7] w fun e w' => e = .returned (.bool true) ∧ Kept w w'))
    (K16 : Hid (∀ w, Calls Try.prog 14 #[.agg (A.cells T), .int .i64 16] w fun e w' => e = .returned (.bool false) ∧ Kept w w'))
    (Km : Hid (∀ w, Calls Try.prog 14 #[.agg (A.cells T), .int .i64 (-1)] w fun e w' => e = .returned (.bool false) ∧ Kept w w')) :
    Calls Try.prog 6 #[.agg (A.cells s), .int .u32 a, .int .u32 b] w fun e w' => e = .returned (.bool true) ∧ Below w.heap.size w w' := by
  go_enter Try.func6, Try.ntmps6
  go_wp2_with fail
  refine (shown_any _).mono ?_; rintro e w1 ⟨rfl, hK1⟩
  have hS := (Has.new (A.cells s) 25 w).kept hK1
  have hK := ((Kept.refl w).alloc _ _).trans hK1
  clear hK1
  generalize hB : w.heap.size = B at *
  have q1 := hS.cell 1 _ (A.cell_r1 s)
  have q2 := hS.cell 2 _ (A.cell_r2 s)
  have f1 := hS.free 1
  have f2 := hS.free 2
  replace hS := Lib.hid hS
  replace hK := Lib.hid hK
  go_upto_region 4 with (fail)
  clear q1 q2 f1 f2
  replace hS := (hS.out.set 1 (.int .u32 a)).set 2 (.int .u32 b)
  rw [A.set_r1, A.set_r2] at hS
  replace hK := (hK.out.setCell (p := ⟨B, 1, none⟩) (by show w.heap.size ≤ B; omega) (.int .u32 a)).setCell (p := ⟨B, 2, none⟩) (by show w.heap.size ≤ B; omega) (.int .u32 b)
  generalize World.setCell _ _ _ = w2 at *
  replace hS := Lib.hid hS
  replace hK := Lib.hid hK
  go_wp2_with (first
    | (with_reducible refine load_has (o := ⟨some 21, _, _, _, _, _⟩) rfl 25 _ rfl _ rfl hS.out Try.underlying25 rfl (A.info25 _) ?_))
  refine (C1.out _).mono ?_; rintro e w3 ⟨rfl, hK3⟩
  replace hK := Lib.hid (hK.out.trans hK3)
  clear hK3 hS
  go_upto_region 5 with (first
    | (with_reducible refine store_last (o := ⟨none, Op.store 25 (.tmp 8) _, _, _, _, _⟩) rfl 25 _ _ rfl _ _ rfl rfl rfl (A.info25 _) (by kernel_rfl) (A.one_cells _) ?_))
  replace hK := Lib.hid (hK.out.alloc (A.cells T) 25)
  have hT := Lib.hid (Has.new (A.cells T) 25 w3)
  generalize w3.heap.size = B8 at *
  generalize w3.alloc _ = w4 at *
  go_wp2_with fail
  clear hB
  go_loopw [12] (fun i wr => ∃ k : Nat, k ≤ 8 ∧ i = .int .i64 k ∧ Hid (Has B8 (A.cells T) 25 wr) ∧ Hid (Kept w wr)) (fun i _ => 8 - (intOf i).toNat)
  case atStart => exact ⟨0, by omega, rfl, hT, hK⟩
  case round =>
    clear hT hK
    obtain ⟨k, hk, rfl, hT, hK⟩ := hrel
    by_cases he : k < 8
    · have he' : (k : Int) < 8 := by omega
      have HF := htk.out k he
      go_upto_region 10 with (fail)
      refine wp_region_held_drew (S := fun w' => Kept w w' ∧ Has B8 (A.cells T) 25 w') (by kernel_rfl) ?_ (fun hHeld => ?_)
      · exact ⟨hK.out.drew, hT.out.drew⟩
      refine wpAnyH_take (i := 0) (oi := { dst := some 36, op := Op.load 25 (Operand.tmp 8), type := 25, pos := "law.go:85", after := #[], guard := none }) (v := ?_) rfl (by kernel_rfl) (by kernel_rfl) (by kernel_rfl) (fun _ _ _ h => h) (Or.inl ⟨rfl, ?_⟩) hHeld ?_
      rotate_left
      · (intro wz hSw; refine exec_load_has 25 (Operand.tmp 8) ?_ _ ?_ hSw.2 Try.underlying25 rfl (A.info25 _) <;> rfl)
      try simp only [Act.put, List.setIfInBounds_toArray, List.set_cons_zero, List.set_cons_succ]
      refine wpAnyH_take (i := 1) (oi := { dst := some 37, op := Op.move (Operand.tmp 12), type := 3, pos := "law.go:85", after := #[], guard := none }) (v := ?_) rfl (by kernel_rfl) (by kernel_rfl) (by kernel_rfl) (fun _ _ _ h => h) (Or.inl ⟨rfl, ?_⟩) hHeld ?_
      rotate_left
      · (intro wz hSw; (try dsimp only at hSw); go_simp; try with_reducible rfl)
      try simp only [Act.put, List.setIfInBounds_toArray, List.set_cons_zero, List.set_cons_succ]
      refine wpAnyH_take (i := 3) (oi := { dst := some 39, op := Op.load 25 (Operand.tmp 8), type := 25, pos := "law.go:85", after := #[], guard := none }) (v := ?_) rfl (by kernel_rfl) (by kernel_rfl) (by kernel_rfl) (fun _ _ _ h => h) (Or.inl ⟨rfl, ?_⟩) hHeld ?_
      rotate_left
      · (intro wz hSw; refine exec_load_has 25 (Operand.tmp 8) ?_ _ ?_ hSw.2 Try.underlying25 rfl (A.info25 _) <;> rfl)
      try simp only [Act.put, List.setIfInBounds_toArray, List.set_cons_zero, List.set_cons_succ]
      refine wpAnyH_take (i := 4) (oi := { dst := some 40, op := Op.move (Operand.tmp 12), type := 3, pos := "law.go:85", after := #[], guard := none }) (v := ?_) rfl (by kernel_rfl) (by kernel_rfl) (by kernel_rfl) (fun _ _ _ h => h) (Or.inl ⟨rfl, ?_⟩) hHeld ?_
      rotate_left
      · (intro wz hSw; (try dsimp only at hSw); go_simp; try with_reducible rfl)
      try simp only [Act.put, List.setIfInBounds_toArray, List.set_cons_zero, List.set_cons_succ]
      refine wpAnyH_take (i := 5) (oi := { dst := some 41, op := Op.binOp BinOp.add 3 (Operand.tmp 40) (Operand.const (Value.int IntKind.i64 8)) 3, type := 3, pos := "law.go:85", after := #[{ on := 4, ground := Ground.data }], guard := none }) (v := ?_) rfl (by kernel_rfl) (by kernel_rfl) (by kernel_rfl) (fun _ _ _ h => h) (Or.inl ⟨rfl, ?_⟩) hHeld ?_
      rotate_left
      · (intro wz hSw; (try dsimp only at hSw); go_simp; try with_reducible rfl)
      try simp only [Act.put, List.setIfInBounds_toArray, List.set_cons_zero, List.set_cons_succ]
      refine wpAnyH_ready (rs := [2]) (by kernel_rfl) (by simp) ?_
      refine AllReadyH.cons (o := { dst := some 38, op := Op.call { callee := Callee.value (Operand.func 14), args := #[Operand.tmp 36, Operand.tmp 37], argTypes := #[25, 3] }, type := 4, pos := "law.go:85", after := #[{ on := 0, ground := Ground.data }, { on := 1, ground := Ground.data }], guard := none }) rfl (fun K hK => ?_) (AllReadyH.nil)
      go_simp
      go_at_call 14
      refine (KL.out _ _).mono ?_
      rintro e w5 ⟨rfl, hK5⟩
      have hN := (show (fun w' => Kept w w' ∧ Has B8 (A.cells T) 25 w') _ from ⟨hHeld.1.trans hK5, hHeld.2.kept hK5⟩)
      clear hHeld
      refine hK.out _ _ hN (fun hHeld => ?_)
      clear hK K hN
      try simp only [Act.put, List.setIfInBounds_toArray, List.set_cons_zero, List.set_cons_succ]
      refine wpAnyH_ready (rs := [6]) (by kernel_rfl) (by simp) ?_
      refine AllReadyH.cons (o := { dst := some 42, op := Op.call { callee := Callee.value (Operand.func 14), args := #[Operand.tmp 39, Operand.tmp 41], argTypes := #[25, 3] }, type := 4, pos := "law.go:85", after := #[{ on := 3, ground := Ground.data }, { on := 5, ground := Ground.data }, { on := 2, ground := Ground.chain }], guard := none }) rfl (fun K hK => ?_) (AllReadyH.nil)
      go_simp
      go_at_call 14
      refine (KL.out _ _).mono ?_
      rintro e w5 ⟨rfl, hK5⟩
      have hN := (show (fun w' => Kept w w' ∧ Has B8 (A.cells T) 25 w') _ from ⟨hHeld.1.trans hK5, hHeld.2.kept hK5⟩)
      clear hHeld
      refine hK.out _ _ hN (fun hHeld => ?_)
      clear hK K hN
      try simp only [Act.put, List.setIfInBounds_toArray, List.set_cons_zero, List.set_cons_succ]
      refine wpAnyH_take (i := 7) (oi := { dst := some 43, op := Op.binOp BinOp.eql 4 (Operand.tmp 38) (Operand.tmp 42) 4, type := 4, pos := "law.go:85", after := #[{ on := 2, ground := Ground.data }, { on := 6, ground := Ground.data }], guard := none }) (v := ?_) rfl (by kernel_rfl) (by kernel_rfl) (by kernel_rfl) (fun _ _ _ h => h) (Or.inl ⟨rfl, ?_⟩) hHeld ?_
      rotate_left
      · (intro wz hSw; (try dsimp only at hSw); go_simp; try with_reducible rfl)
      try simp only [Act.put, List.setIfInBounds_toArray, List.set_cons_zero, List.set_cons_succ]
      refine wpAnyH_done (by kernel_rfl) ?_ _
      go_wp2_with fail
      go_roundw
      case rel => exact ⟨k + 1, by omega, by go_num, Lib.hid hHeld.2, Lib.hid hHeld.1⟩
      case measure => simp [intOf]; omega
    · have he' : ¬ (k : Int) < 8 := by omega
      have q3 := hT.out.cell 3 _ (A.cell_r3 T)
      rw [hr] at q3
      clear hk
      go_upto_region 12 with (fail)
      simp only [List.append]
      go_wp2_with (first
        | (refine want_exec (o := ⟨some 59, _, _, _, _, _⟩) rfl (exec_load_has 25 (.tmp 8) rfl _ rfl hT.out Try.underlying25 rfl (A.info25 _)) ?_))
      refine (K1.out _).mono ?_; rintro e w9 ⟨rfl, hK9⟩
      replace hT := Lib.hid (hT.out.kept hK9)
      replace hK := Lib.hid (hK.out.trans hK9)
      clear hK9
      clear q3
      go_wp2_with (first
        | (refine want_exec (o := ⟨some 67, _, _, _, _, _⟩) rfl (exec_load_has 25 (.tmp 8) rfl _ rfl hT.out Try.underlying25 rfl (A.info25 _)) ?_))
      refine (K2.out _).mono ?_; rintro e w9 ⟨rfl, hK9⟩
      replace hT := Lib.hid (hT.out.kept hK9)
      replace hK := Lib.hid (hK.out.trans hK9)
      clear hK9
      go_wp2_with (first
        | (refine want_exec (o := ⟨some 75, _, _, _, _, _⟩) rfl (exec_load_has 25 (.tmp 8) rfl _ rfl hT.out Try.underlying25 rfl (A.info25 _)) ?_))
      refine (K4.out _).mono ?_; rintro e w9 ⟨rfl, hK9⟩
      replace hT := Lib.hid (hT.out.kept hK9)
      replace hK := Lib.hid (hK.out.trans hK9)
      clear hK9
      go_wp2_with (first
        | (refine want_exec (o := ⟨some 83, _, _, _, _, _⟩) rfl (exec_load_has 25 (.tmp 8) rfl _ rfl hT.out Try.underlying25 rfl (A.info25 _)) ?_))
      refine (K5.out _).mono ?_; rintro e w9 ⟨rfl, hK9⟩
      replace hT := Lib.hid (hT.out.kept hK9)
      replace hK := Lib.hid (hK.out.trans hK9)
      clear hK9
      go_wp2_with (first
        | (refine want_exec (o := ⟨some 91, _, _, _, _, _⟩) rfl (exec_load_has 25 (.tmp 8) rfl _ rfl hT.out Try.underlying25 rfl (A.info25 _)) ?_))
      refine (K6.out _).mono ?_; rintro e w9 ⟨rfl, hK9⟩
      replace hT := Lib.hid (hT.out.kept hK9)
      replace hK := Lib.hid (hK.out.trans hK9)
      clear hK9
      go_wp2_with (first
        | (refine want_exec (o := ⟨some 99, _, _, _, _, _⟩) rfl (exec_load_has 25 (.tmp 8) rfl _ rfl hT.out Try.underlying25 rfl (A.info25 _)) ?_))
      refine (K7.out _).mono ?_; rintro e w9 ⟨rfl, hK9⟩
      replace hT := Lib.hid (hT.out.kept hK9)
      replace hK := Lib.hid (hK.out.trans hK9)
      clear hK9
      go_wp2_with (first
        | (refine want_exec (o := ⟨some 103, _, _, _, _, _⟩) rfl (exec_load_has 25 (.tmp 8) rfl _ rfl hT.out Try.underlying25 rfl (A.info25 _)) ?_))
      refine (K16.out _).mono ?_; rintro e w9 ⟨rfl, hK9⟩
      replace hT := Lib.hid (hT.out.kept hK9)
      replace hK := Lib.hid (hK.out.trans hK9)
      clear hK9
      go_wp2_with (first
        | (refine want_exec (o := ⟨some 108, _, _, _, _, _⟩) rfl (exec_load_has 25 (.tmp 8) rfl _ rfl hT.out Try.underlying25 rfl (A.info25 _)) ?_))
      refine (Km.out _).mono ?_; rintro e w9 ⟨rfl, hK9⟩
      replace hT := Lib.hid (hT.out.kept hK9)
      replace hK := Lib.hid (hK.out.trans hK9)
      clear hK9
      go_wp2_with fail
      go_ret
      exact yesB rfl hK.out
/-- the plain facts -/
theorem A.sub_facts (s : A.Regs) (a b : Int) (h0 : 0 ≤ a) (h1 : a < 4294967296) (h2 : 0 ≤ b) (h3 : b < 4294967296) :
    A.done (A.set (A.set s 1 a) 2 b) ⟨1, 9, 3, 1, 2, 0, false⟩ = A.show' (A.set (A.setV (A.setC (A.set (A.set s 1 a) 2 b) (decide (a < b))) (!W.inS (W.sgn a - W.sgn b))) 3 ((a - b) % 4294967296)) ((a - b) % 4294967296) := by
  have e : A.res (A.set (A.set s 1 a) 2 b) ⟨1, 9, 3, 1, 2, 0, false⟩ = ((a - b) % 4294967296, A.setV (A.setC (A.set (A.set s 1 a) 2 b) (decide (a < b))) (!W.inS (W.sgn a - W.sgn b))) := by
    unfold A.res
    have hn : A.num (A.set (A.set s 1 a) 2 b) ⟨1, 9, 3, 1, 2, 0, false⟩ = b := by unfold A.num; simp [A.set]
    have hb : (A.set (A.set s 1 a) 2 b).r (Int.toNat 1) = a := by simp [A.set]
    simp only [hn, hb]
    rw [if_neg (by decide), if_neg (by decide), show Int.toNat 9 = 9 from rfl, A.work_9]
    simp only [Bool.false_and, W.one, Bool.false_eq_true, if_false, Int.sub_zero, W.low, W.neg]
    congr 3
    rw [decide_eq_decide]
    omega
  unfold A.done
  rw [e]
  rfl
theorem A.hold8 (s : A.Regs) (k : Nat) (hk : k < 8) : A.taken s ((k : Int) + 8) = !A.taken s k := by
  unfold A.taken
  rw [if_neg (by omega), if_pos (by omega), if_pos (by omega)]
  congr 2
  omega
theorem A.cmp_sgn (a b : Int) (h0 : 0 ≤ a) (h1 : a < 4294967296) (h2 : 0 ≤ b) (h3 : b < 4294967296) : (decide (2147483648 ≤ (a - b) % 4294967296) != !W.inS (W.sgn a - W.sgn b)) = decide (W.sgn a < W.sgn b) := by
  unfold W.inS W.sgn
  split <;> split
  all_goals
    rw [Bool.eq_iff_iff]
    simp only [bne_iff_ne, ne_eq, decide_eq_true_eq, Bool.not_eq_eq_eq_not]
    by_cases hx : 2147483648 ≤ (a - b) % 4294967296 <;> simp [hx] <;> omega
theorem A.wrap_sgn (a : Int) (h0 : 0 ≤ a) (h1 : a < 4294967296) : wrap64 (wrap32 a) = W.sgn a := by
  unfold wrap64 wrap32 W.sgn; split <;> omega
theorem walk_Tests (s : A.Regs) (a b : Int) (hs : A.Ok s) (h0 : 0 ≤ a) (h1 : a < 4294967296) (h2 : 0 ≤ b) (h3 : b < 4294967296) (w : World) :
    Calls Try.prog 6 #[.agg (A.cells s), .int .u32 a, .int .u32 b] w fun e w' => e = .returned (.bool true) ∧ Below w.heap.size w w' := by
  have hm : I.May ⟨1, 9, 3, 1, 2, 0, false⟩ := by unfold I.May; simp
  have hs2 : A.Ok (A.set (A.set s 1 a) 2 b) := A.ok_set _ _ _ (A.ok_set _ _ _ hs h0 h1) h2 h3
  have C1 := do_yes (A.set (A.set s 1 a) 2 b) 1 9 3 1 2 0 false hs2 hm (Or.inl rfl) (fun h => absurd h.2.1 (by simp))
  rw [A.sub_facts s a b h0 h1 h2 h3] at C1
  obtain ⟨T, hT⟩ : ∃ T, A.show' (A.set (A.setV (A.setC (A.set (A.set s 1 a) 2 b) (decide (a < b))) (!W.inS (W.sgn a - W.sgn b))) 3 ((a - b) % 4294967296)) ((a - b) % 4294967296) = T := ⟨_, rfl⟩
  have hr : T.r 3 = (a - b) % 4294967296 := by rw [← hT]; rfl
  have tn : T.n = decide (2147483648 ≤ (a - b) % 4294967296) := by rw [← hT]; rfl
  have tz : T.z = ((a - b) % 4294967296 == 0) := by rw [← hT]; rfl
  have tc : T.c = decide (a < b) := by rw [← hT]; rfl
  have tv : T.v = !W.inS (W.sgn a - W.sgn b) := by rw [← hT]; rfl
  rw [hT] at C1
  clear hT
  have ez : T.z = (a == b) := by rw [tz, Bool.eq_iff_iff]; simp; omega
  have el : (T.n != T.v) = decide (W.sgn a < W.sgn b) := by rw [tn, tv]; exact A.cmp_sgn a b h0 h1 h2 h3
  have ea := A.wrap_sgn a h0 h1
  have eb := A.wrap_sgn b h2 h3
  have esg : W.sgn a = W.sgn b ↔ a = b := by unfold W.sgn; split <;> split <;> omega
  refine walk_Tests_at s T a b (A.taken T) h0 h1 h2 h3 hr w (Lib.hid fun k hk => ?_) (Lib.hid C1) (Lib.hid fun k w => taken_any T k w) ?_ ?_ ?_ ?_ ?_ ?_ ?_ ?_
  · rw [show IntKind.i64.wrap ((k : Int) + 8) = (k : Int) + 8 by rw [IntKind.wrap_i64]; omega, A.hold8 T k hk]
    cases A.taken T k <;> rfl
  · exact Lib.hid fun w => (show A.taken T 1 = (a == b) from ez) ▸ taken_any T 1 w
  · exact Lib.hid fun w => (show A.taken T 2 = decide (a < b) from tc) ▸ taken_any T 2 w
  · refine Lib.hid fun w => (show A.taken T 4 = decide (a ≤ b) from ?_) ▸ taken_any T 4 w
    show (T.c || T.z) = decide (a ≤ b)
    rw [tc, ez, Bool.eq_iff_iff]; simp; omega
  · exact Lib.hid fun w => (show A.taken T 5 = decide (wrap64 (wrap32 a) < wrap64 (wrap32 b)) by rw [ea, eb]; exact el) ▸ taken_any T 5 w
  · refine Lib.hid fun w => (show A.taken T 6 = decide (wrap64 (wrap32 a) ≤ wrap64 (wrap32 b)) from ?_) ▸ taken_any T 6 w
    show ((T.n != T.v) || T.z) = _
    rw [ea, eb, el, ez, Bool.eq_iff_iff]; simp; omega
  · exact Lib.hid fun w => taken_any T 7 w
  · exact Lib.hid fun w => A.taken_high T 16 (by omega) ▸ taken_any T 16 w
  · exact Lib.hid fun w => A.taken_low T (-1) (by omega) ▸ taken_any T (-1) w
end Go.Proofs.Ytghjdpmijnlhjaa
