/-
  The document's example.
-/
import Derived.Test.YtghjdpmijnlhjaaAluA
namespace Go.Proofs.Ytghjdpmijnlhjaa
open Go.RowKit
set_option linter.unusedVariables false
set_option linter.unusedSimpArgs false
theorem A.builtZero : Try.prog.built 25 [] = some (A.cells A.none') := by
  rw [built_of (show shapeOf Try.prog 25 = some (A.cells A.none', [(0, 16), (16, 1), (17, 1), (18, 1), (19, 1), (20, 1)]) by kernel_rfl)]
  rfl
theorem A.may_shown : I.May ⟨2, 9, 2, 1, 0, 9, false⟩ := by unfold I.May; simp
theorem A.ok_none : A.Ok A.none' := ⟨fun _ _ => ⟨Int.le_refl 0, by show (0 : Int) < 4294967296; omega⟩, by show (0 : Int) ≤ 0; omega, by show (0 : Int) < 4294967296; omega⟩
theorem A.ok_shown : A.Ok (A.set A.none' 1 7) := A.ok_set _ _ _ A.ok_none (by omega) (by omega)
theorem A.num_shown : A.num (A.set A.none' 1 7) ⟨2, 9, 2, 1, 0, 9, false⟩ = 9 := by unfold A.num; simp
theorem A.res_shown : A.res (A.set A.none' 1 7) ⟨2, 9, 2, 1, 0, 9, false⟩ = (4294967294, A.setV (A.setC (A.set A.none' 1 7) true) false) := by
  unfold A.res
  simp only [A.num_shown]
  rw [if_neg (by decide), if_neg (by decide), show Int.toNat 9 = 9 from rfl, A.work_9]
  simp [A.set, W.low, W.neg, W.one, W.inS, W.sgn]
theorem A.done_shown : A.done (A.set A.none' 1 7) ⟨2, 9, 2, 1, 0, 9, false⟩ = A.show' (A.set (A.setV (A.setC (A.set A.none' 1 7) true) false) 2 4294967294) 4294967294 := by
  unfold A.done
  rw [A.res_shown]
  rfl
set_option maxHeartbeats 400000 in
theorem shown_at (T : A.Regs) (h2 : T.r 2 = 4294967294) (hn : T.n = true) (hz : T.z = false) (hc : T.c = true) (w : World)
    (C1 : Hid (∀ w, Calls Try.prog 11 #[.agg (A.cells (A.set A.none' 1 7)), .agg #[.int .i64 2, .int .i64 9, .int .i64 2, .int .i64 1, .int .i64 0, .int .i64 9, .bool false]] w fun e w' => e = .returned (.tuple #[.agg (A.cells T), .int .i64 0]) ∧ Kept w w')) :
    Calls Try.prog 10 #[] w fun e w' => e = .returned (.bool true) ∧ Kept w w' := by
  go_enter Try.func10, Try.ntmps10
  go_upto_region 2 with (first
    | ((with_reducible refine build_has (o := ⟨some 4, _, _, _, _, _⟩) rfl 25 _ rfl (A.cells A.none') ?hf4 ?_); (case hf4 => (rw [show ((#[] : Array (Nat × Operand)).map (fun (x : Nat × Operand) => (x.1, Act.eval _ x.2))).toList = [] by simp]; exact A.builtZero)))
    | (with_reducible refine store_last (o := ⟨none, Op.store 25 (.tmp 1) _, _, _, _, _⟩) rfl 25 _ _ rfl _ _ rfl rfl rfl (A.info25 _) (by kernel_rfl) (A.one_cells _) ?_))
  go_wp2_with (first
    | (with_reducible refine load_has (o := ⟨some 8, _, _, _, _, _⟩) rfl 25 _ rfl _ rfl (Has.new _ _ _) Try.underlying25 rfl (A.info25 _) ?_))
  refine (C1.out _).mono ?_; rintro e w2 ⟨rfl, hK2⟩
  have hK := ((Kept.refl w).alloc _ _).trans hK2
  clear hK2
  replace hK := Lib.hid hK
  go_upto_region 4 with (first
    | (with_reducible refine store_last (o := ⟨none, Op.store 25 (.tmp 2) _, _, _, _, _⟩) rfl 25 _ _ rfl _ _ rfl rfl rfl (A.info25 _) (by kernel_rfl) (A.one_cells _) ?_))
  replace hK := Lib.hid (hK.out.alloc (A.cells T) 25)
  have hT := Has.new (A.cells T) 25 w2
  have q2 := hT.cell 2 _ (A.cell_r2 T)
  have q17 := hT.cell 17 _ (A.cell_n T)
  have q18 := hT.cell 18 _ (A.cell_z T)
  have q19 := hT.cell 19 _ (A.cell_c T)
  rw [h2] at q2
  rw [hn] at q17
  rw [hz] at q18
  rw [hc] at q19
  clear hT
  generalize w2.heap.size = B2 at *
  generalize w2.alloc _ = w3 at *
  go_wp2
  go_ret
  exact ⟨rfl, hK.out⟩
theorem shown_any (w : World) : Calls Try.prog 10 #[] w fun e w' => e = .returned (.bool true) ∧ Kept w w' := by
  have C1 := do_yes (A.set A.none' 1 7) 2 9 2 1 0 9 false A.ok_shown A.may_shown (Or.inr (Or.inl rfl)) (fun h => absurd h.2.1 (by simp))
  rw [A.done_shown] at C1
  exact shown_at _ rfl (show decide ((2147483648 : Int) ≤ 4294967294) = true from decide_eq_true (by omega)) (show ((4294967294 : Int) == 0) = false from beq_eq_false_iff_ne.2 (by omega)) rfl w (Lib.hid C1)
namespace A
theorem done_r (s : Regs) (x : I.Ins) (j : Nat) : (done s x).r j = if j = x.a.toNat then (res s x).1 else (res s x).2.r j := rfl
theorem done_h (s : Regs) (x : I.Ins) : (done s x).h = (res s x).2.h := rfl
theorem done_c (s : Regs) (x : I.Ins) : (done s x).c = (res s x).2.c := rfl
theorem done_v (s : Regs) (x : I.Ins) : (done s x).v = (res s x).2.v := rfl
theorem done_n (s : Regs) (x : I.Ins) : (done s x).n = decide (2147483648 ≤ (res s x).1) := rfl
theorem done_z (s : Regs) (x : I.Ins) : (done s x).z = ((res s x).1 == 0) := rfl
theorem res_1 (s : Regs) (op a b c i : Int) (u : Bool) : res s ⟨1, op, a, b, c, i, u⟩ = work op.toNat s (s.r b.toNat) (s.r c.toNat) u := by
  unfold res num; simp
theorem res_2 (s : Regs) (op a b c i : Int) (u : Bool) : res s ⟨2, op, a, b, c, i, u⟩ = work op.toNat s (s.r b.toNat) (i % 4294967296) u := by
  unfold res num; simp
theorem res_3 (s : Regs) (op a b c i : Int) (u : Bool) : res s ⟨3, op, a, b, c, i, u⟩ = (s.h, s) := by
  unfold res; simp
theorem res_4 (s : Regs) (op a b c i : Int) (u : Bool) : res s ⟨4, op, a, b, c, i, u⟩ = (flg s, s) := by
  unfold res; simp
end A
theorem yesB {w w' : World} {b : Bool} (h : b = true) (hk : Kept w w') : Ending.returned (.bool b) = .returned (.bool true) ∧ Below w.heap.size w w' := ⟨by rw [h], hk.below⟩
end Go.Proofs.Ytghjdpmijnlhjaa
