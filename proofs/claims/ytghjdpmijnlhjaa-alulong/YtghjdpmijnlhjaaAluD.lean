/-
  The walk of the law AluLong.
-/
import Derived.Test.YtghjdpmijnlhjaaAluB
namespace Go.Proofs.Ytghjdpmijnlhjaa
open Go.RowKit
set_option linter.unusedVariables false
set_option linter.unusedSimpArgs false
set_option maxRecDepth 100000 in
set_option maxHeartbeats 2000000 in
theorem walk_Long_at (s S X Y P Q U V : A.Regs) (a b Y6 Y5 Q6 Q5 U5 Uh V5 Vh : Int) (h0 : 0 ≤ a) (h1 : a < 18446744073709551616) (h2 : 0 ≤ b) (h3 : b < 18446744073709551616)
    (hSS : A.set (A.set (A.set (A.set (s) 1 (a % 4294967296)) 2 (a / 4294967296)) 3 (b % 4294967296)) 4 (b / 4294967296) = S) (eY6 : Y.r 6 = Y6) (eY5 : Y.r 5 = Y5) (eQ6 : Q.r 6 = Q6) (eQ5 : Q.r 5 = Q5) (eU5 : U.r 5 = U5) (eUh : U.h = Uh) (eV5 : V.r 5 = V5) (eVh : V.h = Vh)
    (lY6 : 0 ≤ Y6) (gY6 : Y6 < 4294967296) (lY5 : 0 ≤ Y5) (gY5 : Y5 < 4294967296) (lQ6 : 0 ≤ Q6) (gQ6 : Q6 < 4294967296) (lQ5 : 0 ≤ Q5) (gQ5 : Q5 < 4294967296) (lU5 : 0 ≤ U5) (gU5 : U5 < 4294967296) (lUh : 0 ≤ Uh) (gUh : Uh < 4294967296) (lV5 : 0 ≤ V5) (gV5 : V5 < 4294967296) (lVh : 0 ≤ Vh) (gVh : Vh < 4294967296)
    (t0 : bits BinOp.or IntKind.u64 (Y6 * 4294967296) Y5 = IntKind.u64.wrap (a + b)) (b0 : (bits BinOp.or IntKind.u64 (Y6 * 4294967296) Y5 == IntKind.u64.wrap (a + b)) = true) (t1 : bits BinOp.or IntKind.u64 (Q6 * 4294967296) Q5 = IntKind.u64.wrap (a - b)) (b1 : (bits BinOp.or IntKind.u64 (Q6 * 4294967296) Q5 == IntKind.u64.wrap (a - b)) = true) (t2 : bits BinOp.or IntKind.u64 (Uh * 4294967296) U5 = IntKind.u64.wrap (a % 4294967296 * (b % 4294967296))) (b2 : (bits BinOp.or IntKind.u64 (Uh * 4294967296) U5 == IntKind.u64.wrap (a % 4294967296 * (b % 4294967296))) = true) (t3 : bits BinOp.or IntKind.u64 (Vh * 4294967296) V5 = IntKind.u64.wrap (wrap64 (wrap64 (wrap32 a) * wrap64 (wrap32 b)))) (b3 : (bits BinOp.or IntKind.u64 (Vh * 4294967296) V5 == IntKind.u64.wrap (wrap64 (wrap64 (wrap32 a) * wrap64 (wrap32 b)))) = true) (w : World)
    (C1 : Hid (∀ w, Calls Try.prog 11 #[.agg (A.cells (S)), .agg #[.int .i64 1, .int .i64 8, .int .i64 5, .int .i64 1, .int .i64 3, .int .i64 0, .bool false]] w fun e w' => e = .returned (.tuple #[.agg (A.cells (X)), .int .i64 0]) ∧ Kept w w'))
    (C2 : Hid (∀ w, Calls Try.prog 11 #[.agg (A.cells (X)), .agg #[.int .i64 1, .int .i64 8, .int .i64 6, .int .i64 2, .int .i64 4, .int .i64 0, .bool true]] w fun e w' => e = .returned (.tuple #[.agg (A.cells (Y)), .int .i64 0]) ∧ Kept w w'))
    (C3 : Hid (∀ w, Calls Try.prog 11 #[.agg (A.cells (S)), .agg #[.int .i64 1, .int .i64 9, .int .i64 5, .int .i64 1, .int .i64 3, .int .i64 0, .bool false]] w fun e w' => e = .returned (.tuple #[.agg (A.cells (P)), .int .i64 0]) ∧ Kept w w'))
    (C4 : Hid (∀ w, Calls Try.prog 11 #[.agg (A.cells (P)), .agg #[.int .i64 1, .int .i64 9, .int .i64 6, .int .i64 2, .int .i64 4, .int .i64 0, .bool true]] w fun e w' => e = .returned (.tuple #[.agg (A.cells (Q)), .int .i64 0]) ∧ Kept w w'))
    (C5 : Hid (∀ w, Calls Try.prog 11 #[.agg (A.cells (S)), .agg #[.int .i64 1, .int .i64 10, .int .i64 5, .int .i64 1, .int .i64 3, .int .i64 0, .bool true]] w fun e w' => e = .returned (.tuple #[.agg (A.cells (U)), .int .i64 0]) ∧ Kept w w'))
    (C6 : Hid (∀ w, Calls Try.prog 11 #[.agg (A.cells (S)), .agg #[.int .i64 1, .int .i64 10, .int .i64 5, .int .i64 1, .int .i64 3, .int .i64 0, .bool false]] w fun e w' => e = .returned (.tuple #[.agg (A.cells (V)), .int .i64 0]) ∧ Kept w w')) :
    Calls Try.prog 8 #[.agg (A.cells s), .int .u64 a, .int .u64 b] w fun e w' => e = .returned (.bool true) ∧ Below w.heap.size w w' := by
  go_enter Try.func8, Try.ntmps8
  go_wp2_with fail
  refine (shown_any _).mono ?_; rintro e w1 ⟨rfl, hK1⟩
  have hS := ((Has.new (A.cells s) 25 w)).kept hK1
  have hK := ((Kept.refl w).alloc _ _).trans hK1
  clear hK1
  generalize hBe : w.heap.size = B at hS ⊢
  have hB : w.heap.size ≤ B := by omega
  clear hBe
  replace hS := Lib.hid hS
  replace hK := Lib.hid hK
  have q1 := hS.out.cell 1 _ (A.cell_r1 s)
  have f1 := hS.out.free 1
  have q2 := hS.out.cell 2 _ (A.cell_r2 s)
  have f2 := hS.out.free 2
  have q3 := hS.out.cell 3 _ (A.cell_r3 s)
  have f3 := hS.out.free 3
  have q4 := hS.out.cell 4 _ (A.cell_r4 s)
  have f4 := hS.out.free 4
  go_upto_region 6 with (fail)
  clear q1 f1 q2 f2 q3 f3 q4 f4
  replace hS := ((((hS.out).set 1 (.int .u32 (a % 4294967296))).set 2 (.int .u32 (a / 4294967296))).set 3 (.int .u32 (b % 4294967296))).set 4 (.int .u32 (b / 4294967296))
  rw [A.set_r1, A.set_r2, A.set_r3, A.set_r4] at hS
  replace hK := ((((hK.out).setCell (p := ⟨B, 1, none⟩) (by show w.heap.size ≤ B; exact hB) (.int .u32 (a % 4294967296))).setCell (p := ⟨B, 2, none⟩) (by show w.heap.size ≤ B; exact hB) (.int .u32 (a / 4294967296))).setCell (p := ⟨B, 3, none⟩) (by show w.heap.size ≤ B; exact hB) (.int .u32 (b % 4294967296))).setCell (p := ⟨B, 4, none⟩) (by show w.heap.size ≤ B; exact hB) (.int .u32 (b / 4294967296))
  generalize World.setCell _ _ _ = w2 at *
  replace hS := Lib.hid hS
  replace hK := Lib.hid hK
  rw [hSS] at hS
  go_wp2_with (first
    | (with_reducible refine load_has (o := ⟨some 41, _, _, _, _, _⟩) rfl 25 _ rfl _ rfl hS.out Try.underlying25 rfl (A.info25 _) ?_))
  refine (C1.out _).mono ?_; rintro e w3 ⟨rfl, hK3⟩
  replace hS := Lib.hid (hS.out.kept hK3)
  replace hK := Lib.hid (hK.out.trans hK3)
  clear hK3
  go_upto_region 7 with (first
    | (with_reducible refine store_last (o := ⟨none, Op.store 25 (.tmp 8) _, _, _, _, _⟩) rfl 25 _ _ rfl _ _ rfl rfl rfl (A.info25 _) (by kernel_rfl) (A.one_cells _) ?_))
  replace hS := Lib.hid (hS.out.alloc (.cells (A.cells (X)) 25))
  replace hK := Lib.hid (hK.out.alloc (A.cells (X)) 25)
  have hX := Lib.hid (Has.new (A.cells (X)) 25 w3)
  generalize w3.heap.size = B8 at *
  generalize World.alloc w3 _ = w4 at *
  go_wp2_with (first
    | (with_reducible refine load_has (o := ⟨some 47, _, _, _, _, _⟩) rfl 25 _ rfl _ rfl hX.out Try.underlying25 rfl (A.info25 _) ?_))
  refine (C2.out _).mono ?_; rintro e w5 ⟨rfl, hK3⟩
  replace hS := Lib.hid (hS.out.kept hK3)
  replace hX := Lib.hid (hX.out.kept hK3)
  replace hK := Lib.hid (hK.out.trans hK3)
  clear hK3
  go_upto_region 8 with (first
    | (with_reducible refine store_last (o := ⟨none, Op.store 25 (.tmp 10) _, _, _, _, _⟩) rfl 25 _ _ rfl _ _ rfl rfl rfl (A.info25 _) (by kernel_rfl) (A.one_cells _) ?_))
  replace hS := Lib.hid (hS.out.alloc (.cells (A.cells (Y)) 25))
  replace hX := Lib.hid (hX.out.alloc (.cells (A.cells (Y)) 25))
  replace hK := Lib.hid (hK.out.alloc (A.cells (Y)) 25)
  have hY := Lib.hid (Has.new (A.cells (Y)) 25 w5)
  generalize w5.heap.size = B10 at *
  generalize World.alloc w5 _ = w6 at *
  clear hX
  go_wp2_with (first
    | (with_reducible refine load_has (o := ⟨some 53, _, _, _, _, _⟩) rfl 25 _ rfl _ rfl hS.out Try.underlying25 rfl (A.info25 _) ?_))
  refine (C3.out _).mono ?_; rintro e w7 ⟨rfl, hK3⟩
  replace hS := Lib.hid (hS.out.kept hK3)
  replace hY := Lib.hid (hY.out.kept hK3)
  replace hK := Lib.hid (hK.out.trans hK3)
  clear hK3
  go_upto_region 9 with (first
    | (with_reducible refine store_last (o := ⟨none, Op.store 25 (.tmp 12) _, _, _, _, _⟩) rfl 25 _ _ rfl _ _ rfl rfl rfl (A.info25 _) (by kernel_rfl) (A.one_cells _) ?_))
  replace hS := Lib.hid (hS.out.alloc (.cells (A.cells (P)) 25))
  replace hY := Lib.hid (hY.out.alloc (.cells (A.cells (P)) 25))
  replace hK := Lib.hid (hK.out.alloc (A.cells (P)) 25)
  have hP := Lib.hid (Has.new (A.cells (P)) 25 w7)
  generalize w7.heap.size = B12 at *
  generalize World.alloc w7 _ = w8 at *
  go_wp2_with (first
    | (with_reducible refine load_has (o := ⟨some 59, _, _, _, _, _⟩) rfl 25 _ rfl _ rfl hP.out Try.underlying25 rfl (A.info25 _) ?_))
  refine (C4.out _).mono ?_; rintro e w9 ⟨rfl, hK3⟩
  replace hS := Lib.hid (hS.out.kept hK3)
  replace hY := Lib.hid (hY.out.kept hK3)
  replace hP := Lib.hid (hP.out.kept hK3)
  replace hK := Lib.hid (hK.out.trans hK3)
  clear hK3
  go_upto_region 10 with (first
    | (with_reducible refine store_last (o := ⟨none, Op.store 25 (.tmp 14) _, _, _, _, _⟩) rfl 25 _ _ rfl _ _ rfl rfl rfl (A.info25 _) (by kernel_rfl) (A.one_cells _) ?_))
  replace hS := Lib.hid (hS.out.alloc (.cells (A.cells (Q)) 25))
  replace hY := Lib.hid (hY.out.alloc (.cells (A.cells (Q)) 25))
  replace hP := Lib.hid (hP.out.alloc (.cells (A.cells (Q)) 25))
  replace hK := Lib.hid (hK.out.alloc (A.cells (Q)) 25)
  have hQ := Lib.hid (Has.new (A.cells (Q)) 25 w9)
  generalize w9.heap.size = B14 at *
  generalize World.alloc w9 _ = w10 at *
  clear hP
  go_wp2_with (first
    | (with_reducible refine load_has (o := ⟨some 65, _, _, _, _, _⟩) rfl 25 _ rfl _ rfl hS.out Try.underlying25 rfl (A.info25 _) ?_))
  refine (C5.out _).mono ?_; rintro e w11 ⟨rfl, hK3⟩
  replace hS := Lib.hid (hS.out.kept hK3)
  replace hY := Lib.hid (hY.out.kept hK3)
  replace hQ := Lib.hid (hQ.out.kept hK3)
  replace hK := Lib.hid (hK.out.trans hK3)
  clear hK3
  go_upto_region 11 with (first
    | (with_reducible refine store_last (o := ⟨none, Op.store 25 (.tmp 16) _, _, _, _, _⟩) rfl 25 _ _ rfl _ _ rfl rfl rfl (A.info25 _) (by kernel_rfl) (A.one_cells _) ?_))
  replace hS := Lib.hid (hS.out.alloc (.cells (A.cells (U)) 25))
  replace hY := Lib.hid (hY.out.alloc (.cells (A.cells (U)) 25))
  replace hQ := Lib.hid (hQ.out.alloc (.cells (A.cells (U)) 25))
  replace hK := Lib.hid (hK.out.alloc (A.cells (U)) 25)
  have hU := Lib.hid (Has.new (A.cells (U)) 25 w11)
  generalize w11.heap.size = B16 at *
  generalize World.alloc w11 _ = w12 at *
  go_wp2_with (first
    | (with_reducible refine load_has (o := ⟨some 71, _, _, _, _, _⟩) rfl 25 _ rfl _ rfl hS.out Try.underlying25 rfl (A.info25 _) ?_))
  refine (C6.out _).mono ?_; rintro e w13 ⟨rfl, hK3⟩
  replace hS := Lib.hid (hS.out.kept hK3)
  replace hY := Lib.hid (hY.out.kept hK3)
  replace hQ := Lib.hid (hQ.out.kept hK3)
  replace hU := Lib.hid (hU.out.kept hK3)
  replace hK := Lib.hid (hK.out.trans hK3)
  clear hK3
  go_upto_region 12 with (first
    | (with_reducible refine store_last (o := ⟨none, Op.store 25 (.tmp 18) _, _, _, _, _⟩) rfl 25 _ _ rfl _ _ rfl rfl rfl (A.info25 _) (by kernel_rfl) (A.one_cells _) ?_))
  replace hS := Lib.hid (hS.out.alloc (.cells (A.cells (V)) 25))
  replace hY := Lib.hid (hY.out.alloc (.cells (A.cells (V)) 25))
  replace hQ := Lib.hid (hQ.out.alloc (.cells (A.cells (V)) 25))
  replace hU := Lib.hid (hU.out.alloc (.cells (A.cells (V)) 25))
  replace hK := Lib.hid (hK.out.alloc (A.cells (V)) 25)
  have hV := Lib.hid (Has.new (A.cells (V)) 25 w13)
  generalize w13.heap.size = B18 at *
  generalize World.alloc w13 _ = w14 at *
  clear hS
  have y6 := hY.out.cell 6 _ (A.cell_r6 Y)
  have y5 := hY.out.cell 5 _ (A.cell_r5 Y)
  have q6 := hQ.out.cell 6 _ (A.cell_r6 Q)
  have q5 := hQ.out.cell 5 _ (A.cell_r5 Q)
  have u5 := hU.out.cell 5 _ (A.cell_r5 U)
  have uh := hU.out.cell 16 _ (A.cell_h U)
  have v5 := hV.out.cell 5 _ (A.cell_r5 V)
  have vh := hV.out.cell 16 _ (A.cell_h V)
  rw [eY6] at y6
  rw [eY5] at y5
  rw [eQ6] at q6
  rw [eQ5] at q5
  rw [eU5] at u5
  rw [eUh] at uh
  rw [eV5] at v5
  rw [eVh] at vh
  clear hY hQ hU hV
  go_upto_region 13 with (fail)
  simp only [List.append]
  go_wp2_with fail
  go_ret
  exact yesB (by first | rfl | exact b3) hK.out
theorem A.or64 (x y : Int) (h0 : 0 ≤ x) (h1 : x < 4294967296) (h2 : 0 ≤ y) (h3 : y < 4294967296) : bits BinOp.or IntKind.u64 (x * 4294967296) y = x * 4294967296 + y := by
  rw [u64_or (x * 4294967296) y (by omega) (by omega) h2 (by omega), nat_join 32 _ _ (by omega) (by omega)]
  omega
theorem A.over_one (x : Int) : W.one (W.over x) = if 4294967295 < x then 1 else 0 := by unfold W.one W.over; simp
theorem A.neg_one (x : Int) : W.one (W.neg x) = if x < 0 then 1 else 0 := by unfold W.one W.neg; simp
theorem A.mul_le (x y : Int) (h0 : 0 ≤ x) (h1 : x < 4294967296) (h2 : 0 ≤ y) (h3 : y < 4294967296) : 0 ≤ x * y ∧ x * y < 18446744073709551616 := by
  have e1 : 0 ≤ x * y := Int.mul_nonneg h0 h2
  have e2 : x * y ≤ 4294967295 * 4294967295 := Int.mul_le_mul (by omega) (by omega) h2 (by omega)
  omega
theorem A.wrap_sgn64 (a : Int) (h0 : 0 ≤ a) : wrap64 (wrap32 a) = W.sgn (a % 4294967296) := by
  unfold wrap64 wrap32 W.sgn; split <;> omega
theorem A.wrap_prod (p : Int) : IntKind.u64.wrap (wrap64 p) = p % 18446744073709551616 := by
  rw [IntKind.wrap_u64]; unfold wrap64; omega
theorem A.halves (p : Int) : W.low (p / 4294967296) * 4294967296 + W.low p = p % 18446744073709551616 := by
  unfold W.low; omega
theorem A.add64 (a b : Int) (h0 : 0 ≤ a) (h1 : a < 18446744073709551616) (h2 : 0 ≤ b) (h3 : b < 18446744073709551616) :
    W.low (a / 4294967296 + b / 4294967296 + W.one (W.over (a % 4294967296 + b % 4294967296))) * 4294967296 + W.low (a % 4294967296 + b % 4294967296) = (a + b) % 18446744073709551616 := by
  rw [A.over_one]; unfold W.low; split <;> omega
theorem A.sub64 (a b : Int) (h0 : 0 ≤ a) (h1 : a < 18446744073709551616) (h2 : 0 ≤ b) (h3 : b < 18446744073709551616) :
    W.low (a / 4294967296 - b / 4294967296 - W.one (W.neg (a % 4294967296 - b % 4294967296))) * 4294967296 + W.low (a % 4294967296 - b % 4294967296) = (a - b) % 18446744073709551616 := by
  rw [A.neg_one]; unfold W.low; split <;> omega
theorem walk_Long (s : A.Regs) (a b : Int) (hs : A.Ok s) (h0 : 0 ≤ a) (h1 : a < 18446744073709551616) (h2 : 0 ≤ b) (h3 : b < 18446744073709551616) (w : World) :
    Calls Try.prog 8 #[.agg (A.cells s), .int .u64 a, .int .u64 b] w fun e w' => e = .returned (.bool true) ∧ Below w.heap.size w w' := by
  obtain ⟨S, hSS⟩ : ∃ S, A.set (A.set (A.set (A.set (s) 1 (a % 4294967296)) 2 (a / 4294967296)) 3 (b % 4294967296)) 4 (b / 4294967296) = S := ⟨_, rfl⟩
  have hS : A.Ok S := by
    rw [← hSS]
    exact A.ok_set _ _ _ (A.ok_set _ _ _ (A.ok_set _ _ _ (A.ok_set _ _ _ hs (by omega) (by omega)) (by omega) (by omega)) (by omega) (by omega)) (by omega) (by omega)
  have r1 : S.r 1 = a % 4294967296 := by rw [← hSS]; rfl
  have r2 : S.r 2 = a / 4294967296 := by rw [← hSS]; rfl
  have r3 : S.r 3 = b % 4294967296 := by rw [← hSS]; rfl
  have r4 : S.r 4 = b / 4294967296 := by rw [← hSS]; rfl
  have m1 : I.May ⟨1, 8, 5, 1, 3, 0, false⟩ := by unfold I.May; simp
  have m2 : I.May ⟨1, 8, 6, 2, 4, 0, true⟩ := by unfold I.May; simp
  have m3 : I.May ⟨1, 9, 5, 1, 3, 0, false⟩ := by unfold I.May; simp
  have m4 : I.May ⟨1, 9, 6, 2, 4, 0, true⟩ := by unfold I.May; simp
  have m5 : I.May ⟨1, 10, 5, 1, 3, 0, true⟩ := by unfold I.May; simp
  have m6 : I.May ⟨1, 10, 5, 1, 3, 0, false⟩ := by unfold I.May; simp
  have w1 : A.res S ⟨1, 8, 5, 1, 3, 0, false⟩ = _ := (A.res_1 S 8 5 1 3 0 false).trans (A.work_8 S (S.r 1) (S.r 3) false)
  have w3 : A.res S ⟨1, 9, 5, 1, 3, 0, false⟩ = _ := (A.res_1 S 9 5 1 3 0 false).trans (A.work_9 S (S.r 1) (S.r 3) false)
  have w5 : A.res S ⟨1, 10, 5, 1, 3, 0, true⟩ = _ := (A.res_1 S 10 5 1 3 0 true).trans (A.work_10 S (S.r 1) (S.r 3) true)
  have w6 : A.res S ⟨1, 10, 5, 1, 3, 0, false⟩ = _ := (A.res_1 S 10 5 1 3 0 false).trans (A.work_10 S (S.r 1) (S.r 3) false)
  have oX := A.done_ok S _ hS m1
  have oP := A.done_ok S _ hS m3
  have C1 := do_yes S 1 8 5 1 3 0 false hS m1 (Or.inl rfl) (fun h => absurd h.2.1 (by simp))
  have C3 := do_yes S 1 9 5 1 3 0 false hS m3 (Or.inl rfl) (fun h => absurd h.2.1 (by simp))
  have C5 := do_yes S 1 10 5 1 3 0 true hS m5 (Or.inl rfl) (fun h => absurd h.2.1 (by simp))
  have C6 := do_yes S 1 10 5 1 3 0 false hS m6 (Or.inl rfl) (fun h => absurd h.2.1 (by simp))
  have C2 := do_yes _ 1 8 6 2 4 0 true oX m2 (Or.inl rfl) (fun h => absurd h.2.1 (by simp))
  have C4 := do_yes _ 1 9 6 2 4 0 true oP m4 (Or.inl rfl) (fun h => absurd h.2.1 (by simp))
  have oY := A.done_ok _ _ oX m2
  have oQ := A.done_ok _ _ oP m4
  have oU := A.done_ok _ _ hS m5
  have oV := A.done_ok _ _ hS m6
  obtain ⟨X, hX⟩ : ∃ X, A.done S ⟨1, 8, 5, 1, 3, 0, false⟩ = X := ⟨_, rfl⟩
  obtain ⟨P, hP⟩ : ∃ P, A.done S ⟨1, 9, 5, 1, 3, 0, false⟩ = P := ⟨_, rfl⟩
  have x5 : X.r 5 = W.low (a % 4294967296 + b % 4294967296) := by rw [← hX, A.done_r, if_pos (by decide), w1, r1, r3]; simp [W.one]
  have x2 : X.r 2 = a / 4294967296 := by rw [← hX, A.done_r, if_neg (by decide), w1]; exact r2
  have x4 : X.r 4 = b / 4294967296 := by rw [← hX, A.done_r, if_neg (by decide), w1]; exact r4
  have xc : X.c = W.over (a % 4294967296 + b % 4294967296) := by rw [← hX, A.done_c, w1, r1, r3]; simp [W.one, A.setC, A.setV]
  have p5 : P.r 5 = W.low (a % 4294967296 - b % 4294967296) := by rw [← hP, A.done_r, if_pos (by decide), w3, r1, r3]; simp [W.one]
  have p2 : P.r 2 = a / 4294967296 := by rw [← hP, A.done_r, if_neg (by decide), w3]; exact r2
  have p4 : P.r 4 = b / 4294967296 := by rw [← hP, A.done_r, if_neg (by decide), w3]; exact r4
  have pc : P.c = W.neg (a % 4294967296 - b % 4294967296) := by rw [← hP, A.done_c, w3, r1, r3]; simp [W.one, A.setC, A.setV]
  rw [hX] at C1 C2 oX oY
  rw [hP] at C3 C4 oP oQ
  clear hX hP
  have w2 : A.res X ⟨1, 8, 6, 2, 4, 0, true⟩ = _ := (A.res_1 X 8 6 2 4 0 true).trans (A.work_8 X (X.r 2) (X.r 4) true)
  have w4 : A.res P ⟨1, 9, 6, 2, 4, 0, true⟩ = _ := (A.res_1 P 9 6 2 4 0 true).trans (A.work_9 P (P.r 2) (P.r 4) true)
  have y6 : (A.done X ⟨1, 8, 6, 2, 4, 0, true⟩).r 6 = W.low (a / 4294967296 + b / 4294967296 + W.one (W.over (a % 4294967296 + b % 4294967296))) := by
    rw [A.done_r, if_pos (by decide), w2, x2, x4, xc, Bool.true_and]
  have y5 : (A.done X ⟨1, 8, 6, 2, 4, 0, true⟩).r 5 = W.low (a % 4294967296 + b % 4294967296) := by
    rw [A.done_r, if_neg (by decide), w2]; exact x5
  have q6 : (A.done P ⟨1, 9, 6, 2, 4, 0, true⟩).r 6 = W.low (a / 4294967296 - b / 4294967296 - W.one (W.neg (a % 4294967296 - b % 4294967296))) := by
    rw [A.done_r, if_pos (by decide), w4, p2, p4, pc, Bool.true_and]
  have q5 : (A.done P ⟨1, 9, 6, 2, 4, 0, true⟩).r 5 = W.low (a % 4294967296 - b % 4294967296) := by
    rw [A.done_r, if_neg (by decide), w4]; exact p5
  have u5 : (A.done S ⟨1, 10, 5, 1, 3, 0, true⟩).r 5 = W.low (a % 4294967296 * (b % 4294967296)) := by rw [A.done_r, if_pos (by decide), w5, r1, r3]; rfl
  have uh : (A.done S ⟨1, 10, 5, 1, 3, 0, true⟩).h = W.low (a % 4294967296 * (b % 4294967296) / 4294967296) := by rw [A.done_h, w5, r1, r3]; rfl
  have v5 : (A.done S ⟨1, 10, 5, 1, 3, 0, false⟩).r 5 = W.low (W.sgn (a % 4294967296) * W.sgn (b % 4294967296)) := by rw [A.done_r, if_pos (by decide), w6, r1, r3]; rfl
  have vh : (A.done S ⟨1, 10, 5, 1, 3, 0, false⟩).h = W.low (W.sgn (a % 4294967296) * W.sgn (b % 4294967296) / 4294967296) := by rw [A.done_h, w6, r1, r3]; rfl
  have t0 : bits BinOp.or IntKind.u64 (W.low (a / 4294967296 + b / 4294967296 + W.one (W.over (a % 4294967296 + b % 4294967296))) * 4294967296) (W.low (a % 4294967296 + b % 4294967296)) = IntKind.u64.wrap (a + b) := by
    rw [A.or64 _ _ (W.low_lo _) (W.low_hi _) (W.low_lo _) (W.low_hi _), A.add64 a b h0 h1 h2 h3, IntKind.wrap_u64]
  have t1 : bits BinOp.or IntKind.u64 (W.low (a / 4294967296 - b / 4294967296 - W.one (W.neg (a % 4294967296 - b % 4294967296))) * 4294967296) (W.low (a % 4294967296 - b % 4294967296)) = IntKind.u64.wrap (a - b) := by
    rw [A.or64 _ _ (W.low_lo _) (W.low_hi _) (W.low_lo _) (W.low_hi _), A.sub64 a b h0 h1 h2 h3, IntKind.wrap_u64]
  have t2 : bits BinOp.or IntKind.u64 (W.low (a % 4294967296 * (b % 4294967296) / 4294967296) * 4294967296) (W.low (a % 4294967296 * (b % 4294967296))) = IntKind.u64.wrap (a % 4294967296 * (b % 4294967296)) := by
    rw [A.or64 _ _ (W.low_lo _) (W.low_hi _) (W.low_lo _) (W.low_hi _), A.halves, IntKind.wrap_u64]
  have t3 : bits BinOp.or IntKind.u64 (W.low (W.sgn (a % 4294967296) * W.sgn (b % 4294967296) / 4294967296) * 4294967296) (W.low (W.sgn (a % 4294967296) * W.sgn (b % 4294967296))) = IntKind.u64.wrap (wrap64 (wrap64 (wrap32 a) * wrap64 (wrap32 b))) := by
    rw [A.or64 _ _ (W.low_lo _) (W.low_hi _) (W.low_lo _) (W.low_hi _), A.halves, A.wrap_prod, A.wrap_sgn64 a h0, A.wrap_sgn64 b h2]
  exact walk_Long_at s S X _ P _ _ _ a b _ _ _ _ _ _ _ _ h0 h1 h2 h3 hSS y6 y5 q6 q5 u5 uh v5 vh (W.low_lo _) (W.low_hi _) (W.low_lo _) (W.low_hi _) (W.low_lo _) (W.low_hi _) (W.low_lo _) (W.low_hi _) (W.low_lo _) (W.low_hi _) (W.low_lo _) (W.low_hi _) (W.low_lo _) (W.low_hi _) (W.low_lo _) (W.low_hi _)
    t0 (beq_iff_eq.2 t0) t1 (beq_iff_eq.2 t1) t2 (beq_iff_eq.2 t2) t3 (beq_iff_eq.2 t3) w (Lib.hid C1) (Lib.hid C2) (Lib.hid C3) (Lib.hid C4) (Lib.hid C5) (Lib.hid C6)
end Go.Proofs.Ytghjdpmijnlhjaa
