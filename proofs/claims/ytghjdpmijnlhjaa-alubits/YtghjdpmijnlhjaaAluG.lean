/-
  The walk of the law AluBits.
-/
import Derived.Test.YtghjdpmijnlhjaaAluE
namespace Go.Proofs.Ytghjdpmijnlhjaa
open Go.RowKit
set_option linter.unusedVariables false
set_option linter.unusedSimpArgs false
theorem A.built4 : Try.prog.built 39 [] = some #[.int .u32 0, .int .u32 0, .int .u32 0, .int .u32 0] := by kernel_rfl
set_option maxRecDepth 100000 in
set_option maxHeartbeats 2000000 in
theorem walk_Bits_at (s S X0 X1 X2 X3 H F : A.Regs) (a b o0 o1 o2 o3 X : Int) (h0 : 0 ≤ a) (h1 : a < 4294967296) (h2 : 0 ≤ b) (h3 : b < 4294967296) (X0' : 0 ≤ X) (X1' : X < 4294967296)
    (hSS : A.set (A.set (s) 1 (a)) 2 (b) = S) (e0 : X0.r 3 = o0) (e1 : X1.r 3 = o1) (e2 : X2.r 3 = o2) (e3 : X3.r 3 = o3) (eH : H.r 4 = S.h) (eF : F.r 5 = X)
    (en : S.n = (X / 2147483648 == 1)) (ez : S.z = (bits BinOp.and IntKind.u32 (X / 1073741824) 1 == 1)) (ec : S.c = (bits BinOp.and IntKind.u32 (X / 536870912) 1 == 1)) (ev : S.v = (bits BinOp.and IntKind.u32 (X / 268435456) 1 == 1)) (tx : X * 16 % 4294967296 = 0) (bx : (X * 16 % 4294967296 == 0) = true) (l0 : 0 ≤ o0) (g0 : o0 < 4294967296) (l1 : 0 ≤ o1) (g1 : o1 < 4294967296) (l2 : 0 ≤ o2) (g2 : o2 < 4294967296) (l3 : 0 ≤ o3) (g3 : o3 < 4294967296)
    (t0 : bits BinOp.or IntKind.u32 o0 o1 = a) (b0 : (bits BinOp.or IntKind.u32 o0 o1 == a) = true) (t1 : bits BinOp.and IntKind.u32 o0 o1 = 0) (b1 : (bits BinOp.and IntKind.u32 o0 o1 == 0) = true) (t2 : bits BinOp.or IntKind.u32 o0 o3 = o2) (t3 : bits BinOp.and IntKind.u32 o0 o3 = 0) (b3 : (bits BinOp.and IntKind.u32 o0 o3 == 0) = true) (t4 : bits BinOp.xor IntKind.u32 a b = o3) (w : World)
    (C0 : Hid (∀ w, Calls Try.prog 11 #[.agg (A.cells (S)), .agg #[.int .i64 1, .int .i64 4, .int .i64 3, .int .i64 1, .int .i64 2, .int .i64 0, .bool false]] w fun e w' => e = .returned (.tuple #[.agg (A.cells (X0)), .int .i64 0]) ∧ Kept w w'))
    (C1 : Hid (∀ w, Calls Try.prog 11 #[.agg (A.cells (S)), .agg #[.int .i64 1, .int .i64 5, .int .i64 3, .int .i64 1, .int .i64 2, .int .i64 0, .bool false]] w fun e w' => e = .returned (.tuple #[.agg (A.cells (X1)), .int .i64 0]) ∧ Kept w w'))
    (C2 : Hid (∀ w, Calls Try.prog 11 #[.agg (A.cells (S)), .agg #[.int .i64 1, .int .i64 6, .int .i64 3, .int .i64 1, .int .i64 2, .int .i64 0, .bool false]] w fun e w' => e = .returned (.tuple #[.agg (A.cells (X2)), .int .i64 0]) ∧ Kept w w'))
    (C3 : Hid (∀ w, Calls Try.prog 11 #[.agg (A.cells (S)), .agg #[.int .i64 1, .int .i64 7, .int .i64 3, .int .i64 1, .int .i64 2, .int .i64 0, .bool false]] w fun e w' => e = .returned (.tuple #[.agg (A.cells (X3)), .int .i64 0]) ∧ Kept w w'))
    (C5 : Hid (∀ w, Calls Try.prog 11 #[.agg (A.cells (S)), .agg #[.int .i64 3, .int .i64 0, .int .i64 4, .int .i64 0, .int .i64 0, .int .i64 0, .bool false]] w fun e w' => e = .returned (.tuple #[.agg (A.cells (H)), .int .i64 0]) ∧ Kept w w'))
    (C6 : Hid (∀ w, Calls Try.prog 11 #[.agg (A.cells (S)), .agg #[.int .i64 4, .int .i64 0, .int .i64 5, .int .i64 0, .int .i64 0, .int .i64 0, .bool false]] w fun e w' => e = .returned (.tuple #[.agg (A.cells (F)), .int .i64 0]) ∧ Kept w w')) :
    Calls Try.prog 7 #[.agg (A.cells s), .int .u32 a, .int .u32 b] w fun e w' => e = .returned (.bool true) ∧ Below w.heap.size w w' := by
  go_enter Try.func7, Try.ntmps7
  go_wp2_with fail
  refine (shown_any _).mono ?_; rintro e w1 ⟨rfl, hK1⟩
  have hS := (Has.new (A.cells s) 25 w).kept hK1
  have hK := ((Kept.refl w).alloc _ _).trans hK1
  clear hK1
  generalize hBe : w.heap.size = B at hS ⊢
  have hB : w.heap.size ≤ B := by omega
  clear hBe
  replace hS := Lib.hid hS
  replace hK := Lib.hid hK
  have q1 := hS.out.cell 1 _ (A.cell_r1 s)
  have f1 := hS.out.free 1
  have q2 := hS.out.cell 2 _ (A.cell_r2 s)
  have f2 := hS.out.free 2
  go_upto_region 4 with (fail)
  clear q1 f1 q2 f2
  replace hS := ((hS.out).set 1 (.int .u32 (a))).set 2 (.int .u32 (b))
  rw [A.set_r1, A.set_r2] at hS
  replace hK := ((hK.out).setCell (p := ⟨B, 1, none⟩) (by show w.heap.size ≤ B; exact hB) (.int .u32 (a))).setCell (p := ⟨B, 2, none⟩) (by show w.heap.size ≤ B; exact hB) (.int .u32 (b))
  generalize World.setCell _ _ _ = w2 at *
  replace hS := Lib.hid hS
  replace hK := Lib.hid hK
  rw [hSS] at hS
  have hl0 : B < w2.heap.size := hS.out.lt
  go_upto_region 5 with (first
    | ((with_reducible refine build_has (o := ⟨some 25, _, _, _, _, _⟩) rfl 39 _ rfl #[.int .u32 0, .int .u32 0, .int .u32 0, .int .u32 0] ?hf25 ?_); (case hf25 => (rw [show ((#[] : Array (Nat × Operand)).map (fun (x : Nat × Operand) => (x.1, Act.eval _ x.2))).toList = [] by simp]; exact A.built4)))
    | (with_reducible refine store_last (o := ⟨none, Op.store 39 (.tmp 8) _, _, _, _, _⟩) rfl 39 _ _ rfl _ #[.int .u32 0, .int .u32 0, .int .u32 0, .int .u32 0] rfl rfl rfl (by kernel_rfl) (by kernel_rfl) (by decide) ?_))
  have hO := Lib.hid (Has.new #[.int .u32 0, .int .u32 0, .int .u32 0, .int .u32 0] 39 w2)
  replace hS := Lib.hid (hS.out.alloc (.cells #[.int .u32 0, .int .u32 0, .int .u32 0, .int .u32 0] 39))
  replace hK := Lib.hid (hK.out.alloc #[.int .u32 0, .int .u32 0, .int .u32 0, .int .u32 0] 39)
  have hl := hS.out.lt
  have hl8 : B < w2.heap.size := by
    have := hl0
    exact this
  clear hl
  generalize w2.heap.size = B8 at *
  generalize World.alloc w2 _ = w3 at *
  go_wp2_with fail
  go_loopw [9] (fun i wr => (i = .int .i64 0 ∧ (Hid (Has B (A.cells S) 25 wr) ∧ Hid (Has B8 #[.int .u32 0, .int .u32 0, .int .u32 0, .int .u32 0] 39 wr) ∧ Hid (Kept w wr))) ∨ (i = .int .i64 1 ∧ (Hid (Has B (A.cells S) 25 wr) ∧ Hid (Has B8 #[.int .u32 o0, .int .u32 0, .int .u32 0, .int .u32 0] 39 wr) ∧ Hid (Kept w wr))) ∨ (i = .int .i64 2 ∧ (Hid (Has B (A.cells S) 25 wr) ∧ Hid (Has B8 #[.int .u32 o0, .int .u32 o1, .int .u32 0, .int .u32 0] 39 wr) ∧ Hid (Kept w wr))) ∨ (i = .int .i64 3 ∧ (Hid (Has B (A.cells S) 25 wr) ∧ Hid (Has B8 #[.int .u32 o0, .int .u32 o1, .int .u32 o2, .int .u32 0] 39 wr) ∧ Hid (Kept w wr))) ∨ (i = .int .i64 4 ∧ (Hid (Has B (A.cells S) 25 wr) ∧ Hid (Has B8 #[.int .u32 o0, .int .u32 o1, .int .u32 o2, .int .u32 o3] 39 wr) ∧ Hid (Kept w wr)))) (fun i _ => 4 - (intOf i).toNat)
  case atStart => exact Or.inl ⟨rfl, hS, hO, hK⟩
  case round =>
    clear hS hO hK
    rcases hrel with ⟨rfl, hS, hO, hK⟩ | ⟨rfl, hS, hO, hK⟩ | ⟨rfl, hS, hO, hK⟩ | ⟨rfl, hS, hO, hK⟩ | ⟨rfl, hS, hO, hK⟩
    · go_wp2_with (first
        | (with_reducible refine load_has (o := ⟨some 31, _, _, _, _, _⟩) rfl 25 _ rfl _ rfl hS.out Try.underlying25 rfl (A.info25 _) ?_))
      refine (C0.out _).mono ?_; rintro e w11 ⟨rfl, hK3⟩
      replace hS := Lib.hid (hS.out.kept hK3)
      replace hO := Lib.hid (hO.out.kept hK3)
      replace hK := Lib.hid (hK.out.trans hK3)
      clear hK3
      go_upto_region 9 with (first
        | (with_reducible refine store_last (o := ⟨none, Op.store 25 (.tmp 10) _, _, _, _, _⟩) rfl 25 _ _ rfl _ _ rfl rfl rfl (A.info25 _) (by kernel_rfl) (A.one_cells _) ?_))
      replace hS := Lib.hid (hS.out.alloc (.cells (A.cells (X0)) 25))
      replace hO := Lib.hid (hO.out.alloc (.cells (A.cells (X0)) 25))
      replace hK := Lib.hid (hK.out.alloc (A.cells (X0)) 25)
      have hX := Lib.hid (Has.new (A.cells (X0)) 25 w11)
      generalize w11.heap.size = B10 at *
      generalize World.alloc w11 _ = w12 at *
      have q3 := hX.out.cell 3 _ (A.cell_r3 X0)
      rw [e0] at q3
      have qo := hO.out.cell 0 _ rfl
      have fo := hO.out.free 0
      go_wp2_with fail
      clear q3 qo fo
      replace hO := Lib.hid (hO.out.set 0 (.int .u32 o0))
      replace hS := Lib.hid (hS.out.other (p := ⟨B8, 0, none⟩) (Nat.ne_of_lt hl8) (.int .u32 o0))
      replace hK := Lib.hid (hK.out.setCell (p := ⟨B8, 0, none⟩) (by show w.heap.size ≤ B8; omega) (.int .u32 o0))
      go_roundw
      case rel => exact Or.inr (Or.inl ⟨rfl, hS, hO, hK⟩)
      case measure => simp [intOf]
    · go_wp2_with (first
        | (with_reducible refine load_has (o := ⟨some 31, _, _, _, _, _⟩) rfl 25 _ rfl _ rfl hS.out Try.underlying25 rfl (A.info25 _) ?_))
      refine (C1.out _).mono ?_; rintro e w11 ⟨rfl, hK3⟩
      replace hS := Lib.hid (hS.out.kept hK3)
      replace hO := Lib.hid (hO.out.kept hK3)
      replace hK := Lib.hid (hK.out.trans hK3)
      clear hK3
      go_upto_region 9 with (first
        | (with_reducible refine store_last (o := ⟨none, Op.store 25 (.tmp 10) _, _, _, _, _⟩) rfl 25 _ _ rfl _ _ rfl rfl rfl (A.info25 _) (by kernel_rfl) (A.one_cells _) ?_))
      replace hS := Lib.hid (hS.out.alloc (.cells (A.cells (X1)) 25))
      replace hO := Lib.hid (hO.out.alloc (.cells (A.cells (X1)) 25))
      replace hK := Lib.hid (hK.out.alloc (A.cells (X1)) 25)
      have hX := Lib.hid (Has.new (A.cells (X1)) 25 w11)
      generalize w11.heap.size = B10 at *
      generalize World.alloc w11 _ = w12 at *
      have q3 := hX.out.cell 3 _ (A.cell_r3 X1)
      rw [e1] at q3
      have qo := hO.out.cell 1 _ rfl
      have fo := hO.out.free 1
      go_wp2_with fail
      clear q3 qo fo
      replace hO := Lib.hid (hO.out.set 1 (.int .u32 o1))
      replace hS := Lib.hid (hS.out.other (p := ⟨B8, 1, none⟩) (Nat.ne_of_lt hl8) (.int .u32 o1))
      replace hK := Lib.hid (hK.out.setCell (p := ⟨B8, 1, none⟩) (by show w.heap.size ≤ B8; omega) (.int .u32 o1))
      go_roundw
      case rel => exact Or.inr (Or.inr (Or.inl ⟨rfl, hS, hO, hK⟩))
      case measure => simp [intOf]
    · go_wp2_with (first
        | (with_reducible refine load_has (o := ⟨some 31, _, _, _, _, _⟩) rfl 25 _ rfl _ rfl hS.out Try.underlying25 rfl (A.info25 _) ?_))
      refine (C2.out _).mono ?_; rintro e w11 ⟨rfl, hK3⟩
      replace hS := Lib.hid (hS.out.kept hK3)
      replace hO := Lib.hid (hO.out.kept hK3)
      replace hK := Lib.hid (hK.out.trans hK3)
      clear hK3
      go_upto_region 9 with (first
        | (with_reducible refine store_last (o := ⟨none, Op.store 25 (.tmp 10) _, _, _, _, _⟩) rfl 25 _ _ rfl _ _ rfl rfl rfl (A.info25 _) (by kernel_rfl) (A.one_cells _) ?_))
      replace hS := Lib.hid (hS.out.alloc (.cells (A.cells (X2)) 25))
      replace hO := Lib.hid (hO.out.alloc (.cells (A.cells (X2)) 25))
      replace hK := Lib.hid (hK.out.alloc (A.cells (X2)) 25)
      have hX := Lib.hid (Has.new (A.cells (X2)) 25 w11)
      generalize w11.heap.size = B10 at *
      generalize World.alloc w11 _ = w12 at *
      have q3 := hX.out.cell 3 _ (A.cell_r3 X2)
      rw [e2] at q3
      have qo := hO.out.cell 2 _ rfl
      have fo := hO.out.free 2
      go_wp2_with fail
      clear q3 qo fo
      replace hO := Lib.hid (hO.out.set 2 (.int .u32 o2))
      replace hS := Lib.hid (hS.out.other (p := ⟨B8, 2, none⟩) (Nat.ne_of_lt hl8) (.int .u32 o2))
      replace hK := Lib.hid (hK.out.setCell (p := ⟨B8, 2, none⟩) (by show w.heap.size ≤ B8; omega) (.int .u32 o2))
      go_roundw
      case rel => exact Or.inr (Or.inr (Or.inr (Or.inl ⟨rfl, hS, hO, hK⟩)))
      case measure => simp [intOf]
    · go_wp2_with (first
        | (with_reducible refine load_has (o := ⟨some 31, _, _, _, _, _⟩) rfl 25 _ rfl _ rfl hS.out Try.underlying25 rfl (A.info25 _) ?_))
      refine (C3.out _).mono ?_; rintro e w11 ⟨rfl, hK3⟩
      replace hS := Lib.hid (hS.out.kept hK3)
      replace hO := Lib.hid (hO.out.kept hK3)
      replace hK := Lib.hid (hK.out.trans hK3)
      clear hK3
      go_upto_region 9 with (first
        | (with_reducible refine store_last (o := ⟨none, Op.store 25 (.tmp 10) _, _, _, _, _⟩) rfl 25 _ _ rfl _ _ rfl rfl rfl (A.info25 _) (by kernel_rfl) (A.one_cells _) ?_))
      replace hS := Lib.hid (hS.out.alloc (.cells (A.cells (X3)) 25))
      replace hO := Lib.hid (hO.out.alloc (.cells (A.cells (X3)) 25))
      replace hK := Lib.hid (hK.out.alloc (A.cells (X3)) 25)
      have hX := Lib.hid (Has.new (A.cells (X3)) 25 w11)
      generalize w11.heap.size = B10 at *
      generalize World.alloc w11 _ = w12 at *
      have q3 := hX.out.cell 3 _ (A.cell_r3 X3)
      rw [e3] at q3
      have qo := hO.out.cell 3 _ rfl
      have fo := hO.out.free 3
      go_wp2_with fail
      clear q3 qo fo
      replace hO := Lib.hid (hO.out.set 3 (.int .u32 o3))
      replace hS := Lib.hid (hS.out.other (p := ⟨B8, 3, none⟩) (Nat.ne_of_lt hl8) (.int .u32 o3))
      replace hK := Lib.hid (hK.out.setCell (p := ⟨B8, 3, none⟩) (by show w.heap.size ≤ B8; omega) (.int .u32 o3))
      go_roundw
      case rel => exact Or.inr (Or.inr (Or.inr (Or.inr ⟨rfl, hS, hO, hK⟩)))
      case measure => simp [intOf]
    · go_wp2_with (first
        | (with_reducible refine load_has (o := ⟨some 46, _, _, _, _, _⟩) rfl 25 _ rfl _ rfl hS.out Try.underlying25 rfl (A.info25 _) ?_))
      refine (C5.out _).mono ?_; rintro e w21 ⟨rfl, hK3⟩
      replace hS := Lib.hid (hS.out.kept hK3)
      replace hO := Lib.hid (hO.out.kept hK3)
      replace hK := Lib.hid (hK.out.trans hK3)
      clear hK3
      go_upto_region 13 with (first
        | (with_reducible refine store_last (o := ⟨none, Op.store 25 (.tmp 12) _, _, _, _, _⟩) rfl 25 _ _ rfl _ _ rfl rfl rfl (A.info25 _) (by kernel_rfl) (A.one_cells _) ?_))
      replace hS := Lib.hid (hS.out.alloc (.cells (A.cells (H)) 25))
      replace hO := Lib.hid (hO.out.alloc (.cells (A.cells (H)) 25))
      replace hK := Lib.hid (hK.out.alloc (A.cells (H)) 25)
      have hH := Lib.hid (Has.new (A.cells (H)) 25 w21)
      generalize w21.heap.size = B12 at *
      generalize World.alloc w21 _ = w22 at *
      go_wp2_with (first
        | (with_reducible refine load_has (o := ⟨some 52, _, _, _, _, _⟩) rfl 25 _ rfl _ rfl hS.out Try.underlying25 rfl (A.info25 _) ?_))
      refine (C6.out _).mono ?_; rintro e w23 ⟨rfl, hK3⟩
      replace hS := Lib.hid (hS.out.kept hK3)
      replace hO := Lib.hid (hO.out.kept hK3)
      replace hH := Lib.hid (hH.out.kept hK3)
      replace hK := Lib.hid (hK.out.trans hK3)
      clear hK3
      go_upto_region 14 with (first
        | (with_reducible refine store_last (o := ⟨none, Op.store 25 (.tmp 14) _, _, _, _, _⟩) rfl 25 _ _ rfl _ _ rfl rfl rfl (A.info25 _) (by kernel_rfl) (A.one_cells _) ?_))
      replace hS := Lib.hid (hS.out.alloc (.cells (A.cells (F)) 25))
      replace hO := Lib.hid (hO.out.alloc (.cells (A.cells (F)) 25))
      replace hH := Lib.hid (hH.out.alloc (.cells (A.cells (F)) 25))
      replace hK := Lib.hid (hK.out.alloc (A.cells (F)) 25)
      have hF := Lib.hid (Has.new (A.cells (F)) 25 w23)
      generalize w23.heap.size = B14 at *
      generalize World.alloc w23 _ = w24 at *
      have f5 := hF.out.cell 5 _ (A.cell_r5 F)
      rw [eF] at f5
      have sn := hS.out.cell 17 _ (A.cell_n S)
      have sz := hS.out.cell 18 _ (A.cell_z S)
      have sc := hS.out.cell 19 _ (A.cell_c S)
      have sv := hS.out.cell 20 _ (A.cell_v S)
      rw [en] at sn
      rw [ez] at sz
      rw [ec] at sc
      rw [ev] at sv
      go_upto_region 16 with (fail)
      clear f5 sn sz sc sv
      have sh := hS.out.cell 16 _ (A.cell_h S)
      have h4 := hH.out.cell 4 _ (A.cell_r4 H)
      rw [eH] at h4
      have p0 := hO.out.cell 0 _ rfl
      have p1 := hO.out.cell 1 _ rfl
      have p2 := hO.out.cell 2 _ rfl
      have p3 := hO.out.cell 3 _ rfl
      clear hS hO hH hF
      go_wp2_with fail
      go_ret
      exact yesB rfl hK.out
theorem A.bit_and_or (a b : Nat) (hb : b < 2 ^ 32) (ha : a < 2 ^ 32) : (a &&& b) ||| (a &&& (4294967295 - b)) = a := by
  apply Nat.eq_of_testBit_eq; intro i
  rw [show 4294967295 - b = 2 ^ 32 - (b + 1) by omega]
  simp only [Nat.testBit_or, Nat.testBit_and, Nat.testBit_two_pow_sub_succ hb]
  by_cases hi : i < 32
  · cases a.testBit i <;> cases b.testBit i <;> simp [hi]
  · rw [Nat.testBit_lt_two_pow (x := a) (Nat.lt_of_lt_of_le ha (Nat.pow_le_pow_right (by omega) (by omega)))]
    simp
theorem A.bit_and_and (a b : Nat) (hb : b < 2 ^ 32) : (a &&& b) &&& (a &&& (4294967295 - b)) = 0 := by
  apply Nat.eq_of_testBit_eq; intro i
  rw [show 4294967295 - b = 2 ^ 32 - (b + 1) by omega]
  simp only [Nat.testBit_and, Nat.testBit_two_pow_sub_succ hb, Nat.zero_testBit]
  cases a.testBit i <;> cases b.testBit i <;> simp
theorem A.bit_or_xor (a b : Nat) : a ||| b = (a &&& b) ||| (a ^^^ b) := by
  apply Nat.eq_of_testBit_eq; intro i
  simp only [Nat.testBit_or, Nat.testBit_and, Nat.testBit_xor]
  cases a.testBit i <;> cases b.testBit i <;> rfl
theorem A.bit_and_xor (a b : Nat) : (a &&& b) &&& (a ^^^ b) = 0 := by
  apply Nat.eq_of_testBit_eq; intro i
  simp only [Nat.testBit_and, Nat.testBit_xor, Nat.zero_testBit]
  cases a.testBit i <;> cases b.testBit i <;> rfl
theorem A.flag_bits (n z c v : Bool) (X : Int) (hX : X = (if n then 2147483648 else 0) + (if z then 1073741824 else 0) + (if c then 536870912 else 0) + (if v then 268435456 else 0)) :
    n = (X / 2147483648 == 1) ∧ z = (bits BinOp.and IntKind.u32 (X / 1073741824) 1 == 1) ∧ c = (bits BinOp.and IntKind.u32 (X / 536870912) 1 == 1) ∧ v = (bits BinOp.and IntKind.u32 (X / 268435456) 1 == 1) ∧ X * 16 % 4294967296 = 0 := by
  subst hX
  cases n <;> cases z <;> cases c <;> cases v <;> decide
theorem walk_Bits (s : A.Regs) (a b : Int) (hs : A.Ok s) (h0 : 0 ≤ a) (h1 : a < 4294967296) (h2 : 0 ≤ b) (h3 : b < 4294967296) (w : World) :
    Calls Try.prog 7 #[.agg (A.cells s), .int .u32 a, .int .u32 b] w fun e w' => e = .returned (.bool true) ∧ Below w.heap.size w w' := by
  obtain ⟨S, hSS⟩ : ∃ S, A.set (A.set (s) 1 (a)) 2 (b) = S := ⟨_, rfl⟩
  have hS : A.Ok S := by rw [← hSS]; exact A.ok_set _ _ _ (A.ok_set _ _ _ hs h0 h1) h2 h3
  have r1 : S.r 1 = a := by rw [← hSS]; rfl
  have r2 : S.r 2 = b := by rw [← hSS]; rfl
  have m (k : Int) (k0 : 4 ≤ k) (k1 : k ≤ 7) : I.May ⟨1, k, 3, 1, 2, 0, false⟩ := by unfold I.May; simp; omega
  have m5 : I.May ⟨3, 0, 4, 0, 0, 0, false⟩ := by unfold I.May; simp
  have m6 : I.May ⟨4, 0, 5, 0, 0, 0, false⟩ := by unfold I.May; simp
  have D (k : Int) (k0 : 4 ≤ k) (k1 : k ≤ 7) := do_yes S 1 k 3 1 2 0 false hS (m k k0 k1) (Or.inl rfl) (fun h => by have := h.2.1; simp only at this; omega)
  have C5 := do_yes S 3 0 4 0 0 0 false hS m5 (Or.inr (Or.inr (Or.inl rfl))) (fun h => by have := h.2.1; simp only at this; omega)
  have C6 := do_yes S 4 0 5 0 0 0 false hS m6 (Or.inr (Or.inr (Or.inr rfl))) (fun h => by have := h.2.1; simp only at this; omega)
  have e0 : (A.done S ⟨1, 4, 3, 1, 2, 0, false⟩).r 3 = bits BinOp.and IntKind.u32 a b := by
    rw [A.done_r, if_pos (by decide), A.res_1, show Int.toNat 4 = 4 from rfl, A.work_4, show Int.toNat 1 = 1 from rfl, show Int.toNat 2 = 2 from rfl, r1, r2]
  have e1 : (A.done S ⟨1, 5, 3, 1, 2, 0, false⟩).r 3 = bits BinOp.andNot IntKind.u32 a b := by
    rw [A.done_r, if_pos (by decide), A.res_1, show Int.toNat 5 = 5 from rfl, A.work_5, show Int.toNat 1 = 1 from rfl, show Int.toNat 2 = 2 from rfl, r1, r2]
  have e2 : (A.done S ⟨1, 6, 3, 1, 2, 0, false⟩).r 3 = bits BinOp.or IntKind.u32 a b := by
    rw [A.done_r, if_pos (by decide), A.res_1, show Int.toNat 6 = 6 from rfl, A.work_6, show Int.toNat 1 = 1 from rfl, show Int.toNat 2 = 2 from rfl, r1, r2]
  have e3 : (A.done S ⟨1, 7, 3, 1, 2, 0, false⟩).r 3 = bits BinOp.xor IntKind.u32 a b := by
    rw [A.done_r, if_pos (by decide), A.res_1, show Int.toNat 7 = 7 from rfl, A.work_7, show Int.toNat 1 = 1 from rfl, show Int.toNat 2 = 2 from rfl, r1, r2]
  have eH : (A.done S ⟨3, 0, 4, 0, 0, 0, false⟩).r 4 = S.h := by rw [A.done_r, if_pos (by decide), A.res_3]
  have eF : (A.done S ⟨4, 0, 5, 0, 0, 0, false⟩).r 5 = A.flg S := by rw [A.done_r, if_pos (by decide), A.res_4]
  obtain ⟨en, ez, ec, ev, tx⟩ := A.flag_bits S.n S.z S.c S.v (A.flg S) rfl
  have hb0 := A.bits_lo .and a b (by simp) h0 h1 h2 h3
  have hb1 := A.bits_lo .andNot a b (by simp) h0 h1 h2 h3
  have hb2 := A.bits_lo .or a b (by simp) h0 h1 h2 h3
  have hb3 := A.bits_lo .xor a b (by simp) h0 h1 h2 h3
  have n0 := u32_and a b h0 h1 h2 h3
  have n1 := u32_andNot a b h0 h1 h2 h3
  have n2 := u32_or a b h0 h1 h2 h3
  have n3 := u32_xor a b h0 h1 h2 h3
  have la : a.toNat < 2 ^ 32 := by omega
  have lb : b.toNat < 2 ^ 32 := by omega
  have t0 : bits BinOp.or IntKind.u32 (bits BinOp.and IntKind.u32 a b) (bits BinOp.andNot IntKind.u32 a b) = a := by
    rw [u32_or _ _ hb0.1 hb0.2 hb1.1 hb1.2, n0, n1, Int.toNat_natCast, Int.toNat_natCast, A.bit_and_or _ _ lb la]; omega
  have t1 : bits BinOp.and IntKind.u32 (bits BinOp.and IntKind.u32 a b) (bits BinOp.andNot IntKind.u32 a b) = 0 := by
    rw [u32_and _ _ hb0.1 hb0.2 hb1.1 hb1.2, n0, n1, Int.toNat_natCast, Int.toNat_natCast, A.bit_and_and _ _ lb]; rfl
  have t2 : bits BinOp.or IntKind.u32 a b = bits BinOp.or IntKind.u32 (bits BinOp.and IntKind.u32 a b) (bits BinOp.xor IntKind.u32 a b) := by
    rw [u32_or (bits BinOp.and IntKind.u32 a b) _ hb0.1 hb0.2 hb3.1 hb3.2, n0, n3, Int.toNat_natCast, Int.toNat_natCast, ← A.bit_or_xor, n2]
  have t3 : bits BinOp.and IntKind.u32 (bits BinOp.and IntKind.u32 a b) (bits BinOp.xor IntKind.u32 a b) = 0 := by
    rw [u32_and _ _ hb0.1 hb0.2 hb3.1 hb3.2, n0, n3, Int.toNat_natCast, Int.toNat_natCast, A.bit_and_xor]; rfl
  exact walk_Bits_at s S _ _ _ _ _ _ a b _ _ _ _ _ h0 h1 h2 h3 (A.fl_lo S 4) (A.fl_hi S 4) hSS e0 e1 e2 e3 eH eF en ez ec ev tx (beq_iff_eq.2 tx) hb0.1 hb0.2 hb1.1 hb1.2 hb2.1 hb2.2 hb3.1 hb3.2
    t0 (beq_iff_eq.2 t0) t1 (beq_iff_eq.2 t1) t2.symm t3 (beq_iff_eq.2 t3) rfl w (Lib.hid (D 4 (by omega) (by omega))) (Lib.hid (D 5 (by omega) (by omega))) (Lib.hid (D 6 (by omega) (by omega))) (Lib.hid (D 7 (by omega) (by omega))) (Lib.hid C5) (Lib.hid C6)
end Go.Proofs.Ytghjdpmijnlhjaa
