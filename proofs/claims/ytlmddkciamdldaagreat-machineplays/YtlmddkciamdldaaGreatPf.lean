import Derived.Test.YtlmddkciamdldaaGreatPe
/-
  The contract of the document's Do, of two registers, the rest.
-/
namespace Go.Proofs.YtlmddkciamdldaaGreat
open Go.RowKit
set_option linter.unusedVariables false
set_option linter.unusedSimpArgs false
set_option maxRecDepth 100000
set_option maxRecDepth 100000 in
set_option maxHeartbeats 2000000 in
theorem rdo_1_8t (s : A.Regs) (a b c i bv cv X : Int) (C V : Bool) (ha0 : 0 ≤ a) (ha1 : a < 16) (hb0 : 0 ≤ b) (hb1 : b < 16) (hc0 : 0 ≤ c) (hc1 : c < 16) (b0 : 0 ≤ bv) (b1 : bv < 4294967296) (n0 : 0 ≤ cv) (n1 : cv < 4294967296) (hbv : s.r b.toNat = bv) (hcv : s.r c.toNat = cv) (hx0 : 0 ≤ X) (hx1 : X < 4294967296) (w : World)
    (HM : Hid (∀ w, Calls Tryz.prog 41 #[.agg #[.int .i64 1, .int .i64 8, .int .i64 a, .int .i64 b, .int .i64 c, .int .i64 i, .bool true]] w fun e w' => e = .returned (.bool true) ∧ Kept w w'))
    (HC : Hid (∀ w, Calls Tryz.prog 55 #[.int .u32 bv, .int .u32 cv, .bool s.c] w fun e w' => e = .returned (.tuple #[.int .u32 X, .bool C, .bool V]) ∧ w = w')) :
    Calls Tryz.prog 33 #[.agg (A.cells s), .agg #[.int .i64 1, .int .i64 8, .int .i64 a, .int .i64 b, .int .i64 c, .int .i64 i, .bool true]] w fun e w' => e = .returned (.tuple #[.agg (A.cells (A.show' (A.set (A.setV (A.setC s C) V) a.toNat X) X)), .int .i64 0]) ∧ Kept w w' := by
  go_enter Tryz.func33, Tryz.ntmps33
  go_wp2_with fail
  refine (HM.out _).mono ?_; rintro e w2 ⟨rfl, hK2⟩
  have hX : Has (w.heap.size + 2) (A.cells A.none') 26 w2 := (Has.new2 _ _ _ _ _).kept hK2
  have hR : Has w.heap.size (A.cells s) 26 w2 := (((Has.new _ _ _).alloc _).alloc _).kept hK2
  have hI := ((Has.new1 _ _ _ _).alloc _).kept hK2
  have hK := ((((Kept.refl w).alloc _ _).alloc _ _).alloc _ _).trans hK2
  have hl := hX.lt
  clear hK2
  have q0 := hI.cell 0 _ rfl
  have q3 := hI.cell 3 _ rfl
  have q4 := hI.cell 4 _ rfl
  have q5 := hI.cell 5 _ rfl
  have qb := hR.cell b.toNat _ (A.cell_r s b.toNat (by omega))
  have qc := hR.cell c.toNat _ (A.cell_r s c.toNat (by omega))
  rw [hbv] at qb
  rw [hcv] at qc
  replace hX := Lib.hid hX
  replace hR := Lib.hid hR
  replace hI := Lib.hid hI
  replace hK := Lib.hid hK
  go_upto_region 14 with (first
    | (with_reducible refine load_has (o := ⟨some 48, _, _, _, _, _⟩) rfl 26 _ rfl _ rfl hR.out Tryz.underlying26 rfl (A.info25 _) ?_)
    | (with_reducible refine store_last (o := ⟨none, Op.store 26 (.tmp 9) _, _, _, _, _⟩) rfl 26 _ _ rfl _ _ rfl rfl rfl (A.info25 _) (by kernel_rfl) (A.one_cells _) ?_))
  clear q0 q3 q4 q5 qb qc
  replace hX := hX.out.alloc (.cells (A.cells s) 26)
  replace hR := hR.out.alloc (.cells (A.cells s) 26)
  replace hI := hI.out.alloc (.cells (A.cells s) 26)
  replace hK := hK.out.alloc (A.cells s) 26
  have hT := Has.new (A.cells s) 26 w2
  generalize w2.heap.size = B9 at *
  generalize w2.alloc _ = w3 at *
  have q0 := hI.cell 0 _ rfl
  have q1 := hI.cell 1 _ rfl
  have q6 := hI.cell 6 _ rfl
  have qh := hR.cell 16 _ (A.cell_h s)
  have qq := hR.cell 19 _ (A.cell_c s)
  have t16 := hT.cell 16 _ (A.cell_h s)
  have t19 := hT.cell 19 _ (A.cell_c s)
  have t20 := hT.cell 20 _ (A.cell_v s)
  have f16 := hT.free 16
  have f19 := hT.free 19
  have f20 := hT.free 20
  replace hX := Lib.hid hX
  replace hR := Lib.hid hR
  replace hI := Lib.hid hI
  replace hK := Lib.hid hK
  replace hT := Lib.hid hT
  go_upto_region 38 with (go_at_call 55; refine (HC.out _).mono ?_; rintro e w4 ⟨rfl, rfl⟩)
  clear q0 q1 q6 qh qq t16 t19 t20 f16 f19 f20
  replace hT := Lib.hid (hT.out.set 19 (.bool C))
  rw [A.set_c] at hT
  replace hX := Lib.hid (hX.out.other (p := ⟨B9, 19, none⟩) (Nat.ne_of_lt hl) (.bool C))
  replace hI := Lib.hid (hI.out.other (p := ⟨B9, 19, none⟩) (Nat.ne_of_lt (by show w.heap.size + 1 < B9; omega)) (.bool C))
  replace hK := Lib.hid (hK.out.setCell (p := ⟨B9, 19, none⟩) (by show w.heap.size ≤ B9; omega) (.bool C))
  replace hT := Lib.hid (hT.out.set 20 (.bool V))
  rw [A.set_v] at hT
  replace hX := Lib.hid (hX.out.other (p := ⟨B9, 20, none⟩) (Nat.ne_of_lt hl) (.bool V))
  replace hI := Lib.hid (hI.out.other (p := ⟨B9, 20, none⟩) (Nat.ne_of_lt (by show w.heap.size + 1 < B9; omega)) (.bool V))
  replace hK := Lib.hid (hK.out.setCell (p := ⟨B9, 20, none⟩) (by show w.heap.size ≤ B9; omega) (.bool V))
  generalize World.setCell _ _ _ = w4 at *
  have q2 := hI.out.cell 2 _ rfl
  have ta := hT.out.cell a.toNat _ (A.cell_r (A.setV (A.setC s C) V) a.toNat (by omega))
  have fa := hT.out.free a.toNat
  go_upto_region 39 with (fail)
  clear q2 ta fa
  replace hT := Lib.hid (hT.out.set a.toNat (.int .u32 X))
  rw [A.set_r (A.setV (A.setC s C) V) a.toNat (by omega) X] at hT
  replace hX := Lib.hid (hX.out.other (p := ⟨B9, a.toNat, none⟩) (Nat.ne_of_lt hl) (.int .u32 X))
  replace hK := Lib.hid (hK.out.setCell (p := ⟨B9, a.toNat, none⟩) (by show w.heap.size ≤ B9; omega) (.int .u32 X))
  clear hI hR
  generalize World.setCell _ _ _ = w5 at *
  go_wp2_with (first
    | (with_reducible refine load_has (o := ⟨some 194, _, _, _, _, _⟩) rfl 26 _ rfl _ rfl hT.out Tryz.underlying26 rfl (A.info25 _) ?_)
    | (with_reducible refine store_has (o := ⟨none, Op.store 26 (.tmp 4) _, _, _, _, _⟩) rfl 26 _ _ rfl _ _ rfl rfl hX.out (A.info25 _) (by kernel_rfl) (A.one_cells _) ?_)
    | (go_at_call 49; (refine (rshow_any _ X hx0 hx1 _).mono ?_; rintro e w7 ⟨rfl, hK7⟩); (replace hX := Lib.hid (hX.out.kept hK7)); (replace hK := Lib.hid (hK.out.trans hK7)); clear hK7))
  exact bodyPost_ret (results_has2 rfl (w.heap.size + 2) rfl (hX.out.row _) Tryz.underlying26 rfl (A.info25 _)) rfl ⟨rfl, hK.out.row (by omega) _⟩
set_option maxRecDepth 100000 in
set_option maxHeartbeats 2000000 in
theorem rdo_1_8f (s : A.Regs) (a b c i bv cv X : Int) (C V : Bool) (ha0 : 0 ≤ a) (ha1 : a < 16) (hb0 : 0 ≤ b) (hb1 : b < 16) (hc0 : 0 ≤ c) (hc1 : c < 16) (b0 : 0 ≤ bv) (b1 : bv < 4294967296) (n0 : 0 ≤ cv) (n1 : cv < 4294967296) (hbv : s.r b.toNat = bv) (hcv : s.r c.toNat = cv) (hx0 : 0 ≤ X) (hx1 : X < 4294967296) (w : World)
    (HM : Hid (∀ w, Calls Tryz.prog 41 #[.agg #[.int .i64 1, .int .i64 8, .int .i64 a, .int .i64 b, .int .i64 c, .int .i64 i, .bool false]] w fun e w' => e = .returned (.bool true) ∧ Kept w w'))
    (HC : Hid (∀ w, Calls Tryz.prog 55 #[.int .u32 bv, .int .u32 cv, .bool false] w fun e w' => e = .returned (.tuple #[.int .u32 X, .bool C, .bool V]) ∧ w = w')) :
    Calls Tryz.prog 33 #[.agg (A.cells s), .agg #[.int .i64 1, .int .i64 8, .int .i64 a, .int .i64 b, .int .i64 c, .int .i64 i, .bool false]] w fun e w' => e = .returned (.tuple #[.agg (A.cells (A.show' (A.set (A.setV (A.setC s C) V) a.toNat X) X)), .int .i64 0]) ∧ Kept w w' := by
  go_enter Tryz.func33, Tryz.ntmps33
  go_wp2_with fail
  refine (HM.out _).mono ?_; rintro e w2 ⟨rfl, hK2⟩
  have hX : Has (w.heap.size + 2) (A.cells A.none') 26 w2 := (Has.new2 _ _ _ _ _).kept hK2
  have hR : Has w.heap.size (A.cells s) 26 w2 := (((Has.new _ _ _).alloc _).alloc _).kept hK2
  have hI := ((Has.new1 _ _ _ _).alloc _).kept hK2
  have hK := ((((Kept.refl w).alloc _ _).alloc _ _).alloc _ _).trans hK2
  have hl := hX.lt
  clear hK2
  have q0 := hI.cell 0 _ rfl
  have q3 := hI.cell 3 _ rfl
  have q4 := hI.cell 4 _ rfl
  have q5 := hI.cell 5 _ rfl
  have qb := hR.cell b.toNat _ (A.cell_r s b.toNat (by omega))
  have qc := hR.cell c.toNat _ (A.cell_r s c.toNat (by omega))
  rw [hbv] at qb
  rw [hcv] at qc
  replace hX := Lib.hid hX
  replace hR := Lib.hid hR
  replace hI := Lib.hid hI
  replace hK := Lib.hid hK
  go_upto_region 14 with (first
    | (with_reducible refine load_has (o := ⟨some 48, _, _, _, _, _⟩) rfl 26 _ rfl _ rfl hR.out Tryz.underlying26 rfl (A.info25 _) ?_)
    | (with_reducible refine store_last (o := ⟨none, Op.store 26 (.tmp 9) _, _, _, _, _⟩) rfl 26 _ _ rfl _ _ rfl rfl rfl (A.info25 _) (by kernel_rfl) (A.one_cells _) ?_))
  clear q0 q3 q4 q5 qb qc
  replace hX := hX.out.alloc (.cells (A.cells s) 26)
  replace hR := hR.out.alloc (.cells (A.cells s) 26)
  replace hI := hI.out.alloc (.cells (A.cells s) 26)
  replace hK := hK.out.alloc (A.cells s) 26
  have hT := Has.new (A.cells s) 26 w2
  generalize w2.heap.size = B9 at *
  generalize w2.alloc _ = w3 at *
  have q0 := hI.cell 0 _ rfl
  have q1 := hI.cell 1 _ rfl
  have q6 := hI.cell 6 _ rfl
  have qh := hR.cell 16 _ (A.cell_h s)
  have qq := hR.cell 19 _ (A.cell_c s)
  have t16 := hT.cell 16 _ (A.cell_h s)
  have t19 := hT.cell 19 _ (A.cell_c s)
  have t20 := hT.cell 20 _ (A.cell_v s)
  have f16 := hT.free 16
  have f19 := hT.free 19
  have f20 := hT.free 20
  replace hX := Lib.hid hX
  replace hR := Lib.hid hR
  replace hI := Lib.hid hI
  replace hK := Lib.hid hK
  replace hT := Lib.hid hT
  go_upto_region 38 with (go_at_call 55; refine (HC.out _).mono ?_; rintro e w4 ⟨rfl, rfl⟩)
  clear q0 q1 q6 qh qq t16 t19 t20 f16 f19 f20
  replace hT := Lib.hid (hT.out.set 19 (.bool C))
  rw [A.set_c] at hT
  replace hX := Lib.hid (hX.out.other (p := ⟨B9, 19, none⟩) (Nat.ne_of_lt hl) (.bool C))
  replace hI := Lib.hid (hI.out.other (p := ⟨B9, 19, none⟩) (Nat.ne_of_lt (by show w.heap.size + 1 < B9; omega)) (.bool C))
  replace hK := Lib.hid (hK.out.setCell (p := ⟨B9, 19, none⟩) (by show w.heap.size ≤ B9; omega) (.bool C))
  replace hT := Lib.hid (hT.out.set 20 (.bool V))
  rw [A.set_v] at hT
  replace hX := Lib.hid (hX.out.other (p := ⟨B9, 20, none⟩) (Nat.ne_of_lt hl) (.bool V))
  replace hI := Lib.hid (hI.out.other (p := ⟨B9, 20, none⟩) (Nat.ne_of_lt (by show w.heap.size + 1 < B9; omega)) (.bool V))
  replace hK := Lib.hid (hK.out.setCell (p := ⟨B9, 20, none⟩) (by show w.heap.size ≤ B9; omega) (.bool V))
  generalize World.setCell _ _ _ = w4 at *
  have q2 := hI.out.cell 2 _ rfl
  have ta := hT.out.cell a.toNat _ (A.cell_r (A.setV (A.setC s C) V) a.toNat (by omega))
  have fa := hT.out.free a.toNat
  go_upto_region 39 with (fail)
  clear q2 ta fa
  replace hT := Lib.hid (hT.out.set a.toNat (.int .u32 X))
  rw [A.set_r (A.setV (A.setC s C) V) a.toNat (by omega) X] at hT
  replace hX := Lib.hid (hX.out.other (p := ⟨B9, a.toNat, none⟩) (Nat.ne_of_lt hl) (.int .u32 X))
  replace hK := Lib.hid (hK.out.setCell (p := ⟨B9, a.toNat, none⟩) (by show w.heap.size ≤ B9; omega) (.int .u32 X))
  clear hI hR
  generalize World.setCell _ _ _ = w5 at *
  go_wp2_with (first
    | (with_reducible refine load_has (o := ⟨some 194, _, _, _, _, _⟩) rfl 26 _ rfl _ rfl hT.out Tryz.underlying26 rfl (A.info25 _) ?_)
    | (with_reducible refine store_has (o := ⟨none, Op.store 26 (.tmp 4) _, _, _, _, _⟩) rfl 26 _ _ rfl _ _ rfl rfl hX.out (A.info25 _) (by kernel_rfl) (A.one_cells _) ?_)
    | (go_at_call 49; (refine (rshow_any _ X hx0 hx1 _).mono ?_; rintro e w7 ⟨rfl, hK7⟩); (replace hX := Lib.hid (hX.out.kept hK7)); (replace hK := Lib.hid (hK.out.trans hK7)); clear hK7))
  exact bodyPost_ret (results_has2 rfl (w.heap.size + 2) rfl (hX.out.row _) Tryz.underlying26 rfl (A.info25 _)) rfl ⟨rfl, hK.out.row (by omega) _⟩
set_option maxRecDepth 100000 in
set_option maxHeartbeats 2000000 in
theorem rdo_1_9t (s : A.Regs) (a b c i bv cv X : Int) (C V : Bool) (ha0 : 0 ≤ a) (ha1 : a < 16) (hb0 : 0 ≤ b) (hb1 : b < 16) (hc0 : 0 ≤ c) (hc1 : c < 16) (b0 : 0 ≤ bv) (b1 : bv < 4294967296) (n0 : 0 ≤ cv) (n1 : cv < 4294967296) (hbv : s.r b.toNat = bv) (hcv : s.r c.toNat = cv) (hx0 : 0 ≤ X) (hx1 : X < 4294967296) (w : World)
    (HM : Hid (∀ w, Calls Tryz.prog 41 #[.agg #[.int .i64 1, .int .i64 9, .int .i64 a, .int .i64 b, .int .i64 c, .int .i64 i, .bool true]] w fun e w' => e = .returned (.bool true) ∧ Kept w w'))
    (HC : Hid (∀ w, Calls Tryz.prog 56 #[.int .u32 bv, .int .u32 cv, .bool s.c] w fun e w' => e = .returned (.tuple #[.int .u32 X, .bool C, .bool V]) ∧ w = w')) :
    Calls Tryz.prog 33 #[.agg (A.cells s), .agg #[.int .i64 1, .int .i64 9, .int .i64 a, .int .i64 b, .int .i64 c, .int .i64 i, .bool true]] w fun e w' => e = .returned (.tuple #[.agg (A.cells (A.show' (A.set (A.setV (A.setC s C) V) a.toNat X) X)), .int .i64 0]) ∧ Kept w w' := by
  go_enter Tryz.func33, Tryz.ntmps33
  go_wp2_with fail
  refine (HM.out _).mono ?_; rintro e w2 ⟨rfl, hK2⟩
  have hX : Has (w.heap.size + 2) (A.cells A.none') 26 w2 := (Has.new2 _ _ _ _ _).kept hK2
  have hR : Has w.heap.size (A.cells s) 26 w2 := (((Has.new _ _ _).alloc _).alloc _).kept hK2
  have hI := ((Has.new1 _ _ _ _).alloc _).kept hK2
  have hK := ((((Kept.refl w).alloc _ _).alloc _ _).alloc _ _).trans hK2
  have hl := hX.lt
  clear hK2
  have q0 := hI.cell 0 _ rfl
  have q3 := hI.cell 3 _ rfl
  have q4 := hI.cell 4 _ rfl
  have q5 := hI.cell 5 _ rfl
  have qb := hR.cell b.toNat _ (A.cell_r s b.toNat (by omega))
  have qc := hR.cell c.toNat _ (A.cell_r s c.toNat (by omega))
  rw [hbv] at qb
  rw [hcv] at qc
  replace hX := Lib.hid hX
  replace hR := Lib.hid hR
  replace hI := Lib.hid hI
  replace hK := Lib.hid hK
  go_upto_region 14 with (first
    | (with_reducible refine load_has (o := ⟨some 48, _, _, _, _, _⟩) rfl 26 _ rfl _ rfl hR.out Tryz.underlying26 rfl (A.info25 _) ?_)
    | (with_reducible refine store_last (o := ⟨none, Op.store 26 (.tmp 9) _, _, _, _, _⟩) rfl 26 _ _ rfl _ _ rfl rfl rfl (A.info25 _) (by kernel_rfl) (A.one_cells _) ?_))
  clear q0 q3 q4 q5 qb qc
  replace hX := hX.out.alloc (.cells (A.cells s) 26)
  replace hR := hR.out.alloc (.cells (A.cells s) 26)
  replace hI := hI.out.alloc (.cells (A.cells s) 26)
  replace hK := hK.out.alloc (A.cells s) 26
  have hT := Has.new (A.cells s) 26 w2
  generalize w2.heap.size = B9 at *
  generalize w2.alloc _ = w3 at *
  have q0 := hI.cell 0 _ rfl
  have q1 := hI.cell 1 _ rfl
  have q6 := hI.cell 6 _ rfl
  have qh := hR.cell 16 _ (A.cell_h s)
  have qq := hR.cell 19 _ (A.cell_c s)
  have t16 := hT.cell 16 _ (A.cell_h s)
  have t19 := hT.cell 19 _ (A.cell_c s)
  have t20 := hT.cell 20 _ (A.cell_v s)
  have f16 := hT.free 16
  have f19 := hT.free 19
  have f20 := hT.free 20
  replace hX := Lib.hid hX
  replace hR := Lib.hid hR
  replace hI := Lib.hid hI
  replace hK := Lib.hid hK
  replace hT := Lib.hid hT
  go_upto_region 38 with (go_at_call 56; refine (HC.out _).mono ?_; rintro e w4 ⟨rfl, rfl⟩)
  clear q0 q1 q6 qh qq t16 t19 t20 f16 f19 f20
  replace hT := Lib.hid (hT.out.set 19 (.bool C))
  rw [A.set_c] at hT
  replace hX := Lib.hid (hX.out.other (p := ⟨B9, 19, none⟩) (Nat.ne_of_lt hl) (.bool C))
  replace hI := Lib.hid (hI.out.other (p := ⟨B9, 19, none⟩) (Nat.ne_of_lt (by show w.heap.size + 1 < B9; omega)) (.bool C))
  replace hK := Lib.hid (hK.out.setCell (p := ⟨B9, 19, none⟩) (by show w.heap.size ≤ B9; omega) (.bool C))
  replace hT := Lib.hid (hT.out.set 20 (.bool V))
  rw [A.set_v] at hT
  replace hX := Lib.hid (hX.out.other (p := ⟨B9, 20, none⟩) (Nat.ne_of_lt hl) (.bool V))
  replace hI := Lib.hid (hI.out.other (p := ⟨B9, 20, none⟩) (Nat.ne_of_lt (by show w.heap.size + 1 < B9; omega)) (.bool V))
  replace hK := Lib.hid (hK.out.setCell (p := ⟨B9, 20, none⟩) (by show w.heap.size ≤ B9; omega) (.bool V))
  generalize World.setCell _ _ _ = w4 at *
  have q2 := hI.out.cell 2 _ rfl
  have ta := hT.out.cell a.toNat _ (A.cell_r (A.setV (A.setC s C) V) a.toNat (by omega))
  have fa := hT.out.free a.toNat
  go_upto_region 39 with (fail)
  clear q2 ta fa
  replace hT := Lib.hid (hT.out.set a.toNat (.int .u32 X))
  rw [A.set_r (A.setV (A.setC s C) V) a.toNat (by omega) X] at hT
  replace hX := Lib.hid (hX.out.other (p := ⟨B9, a.toNat, none⟩) (Nat.ne_of_lt hl) (.int .u32 X))
  replace hK := Lib.hid (hK.out.setCell (p := ⟨B9, a.toNat, none⟩) (by show w.heap.size ≤ B9; omega) (.int .u32 X))
  clear hI hR
  generalize World.setCell _ _ _ = w5 at *
  go_wp2_with (first
    | (with_reducible refine load_has (o := ⟨some 194, _, _, _, _, _⟩) rfl 26 _ rfl _ rfl hT.out Tryz.underlying26 rfl (A.info25 _) ?_)
    | (with_reducible refine store_has (o := ⟨none, Op.store 26 (.tmp 4) _, _, _, _, _⟩) rfl 26 _ _ rfl _ _ rfl rfl hX.out (A.info25 _) (by kernel_rfl) (A.one_cells _) ?_)
    | (go_at_call 49; (refine (rshow_any _ X hx0 hx1 _).mono ?_; rintro e w7 ⟨rfl, hK7⟩); (replace hX := Lib.hid (hX.out.kept hK7)); (replace hK := Lib.hid (hK.out.trans hK7)); clear hK7))
  exact bodyPost_ret (results_has2 rfl (w.heap.size + 2) rfl (hX.out.row _) Tryz.underlying26 rfl (A.info25 _)) rfl ⟨rfl, hK.out.row (by omega) _⟩
set_option maxRecDepth 100000 in
set_option maxHeartbeats 2000000 in
theorem rdo_1_9f (s : A.Regs) (a b c i bv cv X : Int) (C V : Bool) (ha0 : 0 ≤ a) (ha1 : a < 16) (hb0 : 0 ≤ b) (hb1 : b < 16) (hc0 : 0 ≤ c) (hc1 : c < 16) (b0 : 0 ≤ bv) (b1 : bv < 4294967296) (n0 : 0 ≤ cv) (n1 : cv < 4294967296) (hbv : s.r b.toNat = bv) (hcv : s.r c.toNat = cv) (hx0 : 0 ≤ X) (hx1 : X < 4294967296) (w : World)
    (HM : Hid (∀ w, Calls Tryz.prog 41 #[.agg #[.int .i64 1, .int .i64 9, .int .i64 a, .int .i64 b, .int .i64 c, .int .i64 i, .bool false]] w fun e w' => e = .returned (.bool true) ∧ Kept w w'))
    (HC : Hid (∀ w, Calls Tryz.prog 56 #[.int .u32 bv, .int .u32 cv, .bool false] w fun e w' => e = .returned (.tuple #[.int .u32 X, .bool C, .bool V]) ∧ w = w')) :
    Calls Tryz.prog 33 #[.agg (A.cells s), .agg #[.int .i64 1, .int .i64 9, .int .i64 a, .int .i64 b, .int .i64 c, .int .i64 i, .bool false]] w fun e w' => e = .returned (.tuple #[.agg (A.cells (A.show' (A.set (A.setV (A.setC s C) V) a.toNat X) X)), .int .i64 0]) ∧ Kept w w' := by
  go_enter Tryz.func33, Tryz.ntmps33
  go_wp2_with fail
  refine (HM.out _).mono ?_; rintro e w2 ⟨rfl, hK2⟩
  have hX : Has (w.heap.size + 2) (A.cells A.none') 26 w2 := (Has.new2 _ _ _ _ _).kept hK2
  have hR : Has w.heap.size (A.cells s) 26 w2 := (((Has.new _ _ _).alloc _).alloc _).kept hK2
  have hI := ((Has.new1 _ _ _ _).alloc _).kept hK2
  have hK := ((((Kept.refl w).alloc _ _).alloc _ _).alloc _ _).trans hK2
  have hl := hX.lt
  clear hK2
  have q0 := hI.cell 0 _ rfl
  have q3 := hI.cell 3 _ rfl
  have q4 := hI.cell 4 _ rfl
  have q5 := hI.cell 5 _ rfl
  have qb := hR.cell b.toNat _ (A.cell_r s b.toNat (by omega))
  have qc := hR.cell c.toNat _ (A.cell_r s c.toNat (by omega))
  rw [hbv] at qb
  rw [hcv] at qc
  replace hX := Lib.hid hX
  replace hR := Lib.hid hR
  replace hI := Lib.hid hI
  replace hK := Lib.hid hK
  go_upto_region 14 with (first
    | (with_reducible refine load_has (o := ⟨some 48, _, _, _, _, _⟩) rfl 26 _ rfl _ rfl hR.out Tryz.underlying26 rfl (A.info25 _) ?_)
    | (with_reducible refine store_last (o := ⟨none, Op.store 26 (.tmp 9) _, _, _, _, _⟩) rfl 26 _ _ rfl _ _ rfl rfl rfl (A.info25 _) (by kernel_rfl) (A.one_cells _) ?_))
  clear q0 q3 q4 q5 qb qc
  replace hX := hX.out.alloc (.cells (A.cells s) 26)
  replace hR := hR.out.alloc (.cells (A.cells s) 26)
  replace hI := hI.out.alloc (.cells (A.cells s) 26)
  replace hK := hK.out.alloc (A.cells s) 26
  have hT := Has.new (A.cells s) 26 w2
  generalize w2.heap.size = B9 at *
  generalize w2.alloc _ = w3 at *
  have q0 := hI.cell 0 _ rfl
  have q1 := hI.cell 1 _ rfl
  have q6 := hI.cell 6 _ rfl
  have qh := hR.cell 16 _ (A.cell_h s)
  have qq := hR.cell 19 _ (A.cell_c s)
  have t16 := hT.cell 16 _ (A.cell_h s)
  have t19 := hT.cell 19 _ (A.cell_c s)
  have t20 := hT.cell 20 _ (A.cell_v s)
  have f16 := hT.free 16
  have f19 := hT.free 19
  have f20 := hT.free 20
  replace hX := Lib.hid hX
  replace hR := Lib.hid hR
  replace hI := Lib.hid hI
  replace hK := Lib.hid hK
  replace hT := Lib.hid hT
  go_upto_region 38 with (go_at_call 56; refine (HC.out _).mono ?_; rintro e w4 ⟨rfl, rfl⟩)
  clear q0 q1 q6 qh qq t16 t19 t20 f16 f19 f20
  replace hT := Lib.hid (hT.out.set 19 (.bool C))
  rw [A.set_c] at hT
  replace hX := Lib.hid (hX.out.other (p := ⟨B9, 19, none⟩) (Nat.ne_of_lt hl) (.bool C))
  replace hI := Lib.hid (hI.out.other (p := ⟨B9, 19, none⟩) (Nat.ne_of_lt (by show w.heap.size + 1 < B9; omega)) (.bool C))
  replace hK := Lib.hid (hK.out.setCell (p := ⟨B9, 19, none⟩) (by show w.heap.size ≤ B9; omega) (.bool C))
  replace hT := Lib.hid (hT.out.set 20 (.bool V))
  rw [A.set_v] at hT
  replace hX := Lib.hid (hX.out.other (p := ⟨B9, 20, none⟩) (Nat.ne_of_lt hl) (.bool V))
  replace hI := Lib.hid (hI.out.other (p := ⟨B9, 20, none⟩) (Nat.ne_of_lt (by show w.heap.size + 1 < B9; omega)) (.bool V))
  replace hK := Lib.hid (hK.out.setCell (p := ⟨B9, 20, none⟩) (by show w.heap.size ≤ B9; omega) (.bool V))
  generalize World.setCell _ _ _ = w4 at *
  have q2 := hI.out.cell 2 _ rfl
  have ta := hT.out.cell a.toNat _ (A.cell_r (A.setV (A.setC s C) V) a.toNat (by omega))
  have fa := hT.out.free a.toNat
  go_upto_region 39 with (fail)
  clear q2 ta fa
  replace hT := Lib.hid (hT.out.set a.toNat (.int .u32 X))
  rw [A.set_r (A.setV (A.setC s C) V) a.toNat (by omega) X] at hT
  replace hX := Lib.hid (hX.out.other (p := ⟨B9, a.toNat, none⟩) (Nat.ne_of_lt hl) (.int .u32 X))
  replace hK := Lib.hid (hK.out.setCell (p := ⟨B9, a.toNat, none⟩) (by show w.heap.size ≤ B9; omega) (.int .u32 X))
  clear hI hR
  generalize World.setCell _ _ _ = w5 at *
  go_wp2_with (first
    | (with_reducible refine load_has (o := ⟨some 194, _, _, _, _, _⟩) rfl 26 _ rfl _ rfl hT.out Tryz.underlying26 rfl (A.info25 _) ?_)
    | (with_reducible refine store_has (o := ⟨none, Op.store 26 (.tmp 4) _, _, _, _, _⟩) rfl 26 _ _ rfl _ _ rfl rfl hX.out (A.info25 _) (by kernel_rfl) (A.one_cells _) ?_)
    | (go_at_call 49; (refine (rshow_any _ X hx0 hx1 _).mono ?_; rintro e w7 ⟨rfl, hK7⟩); (replace hX := Lib.hid (hX.out.kept hK7)); (replace hK := Lib.hid (hK.out.trans hK7)); clear hK7))
  exact bodyPost_ret (results_has2 rfl (w.heap.size + 2) rfl (hX.out.row _) Tryz.underlying26 rfl (A.info25 _)) rfl ⟨rfl, hK.out.row (by omega) _⟩
set_option maxRecDepth 100000 in
set_option maxHeartbeats 2000000 in
theorem rdo_1_10 (s : A.Regs) (a b c i bv cv X : Int) (u : Bool) (H : Int) (ha0 : 0 ≤ a) (ha1 : a < 16) (hb0 : 0 ≤ b) (hb1 : b < 16) (hc0 : 0 ≤ c) (hc1 : c < 16) (b0 : 0 ≤ bv) (b1 : bv < 4294967296) (n0 : 0 ≤ cv) (n1 : cv < 4294967296) (hbv : s.r b.toNat = bv) (hcv : s.r c.toNat = cv) (hx0 : 0 ≤ X) (hx1 : X < 4294967296) (w : World)
    (HM : Hid (∀ w, Calls Tryz.prog 41 #[.agg #[.int .i64 1, .int .i64 10, .int .i64 a, .int .i64 b, .int .i64 c, .int .i64 i, .bool u]] w fun e w' => e = .returned (.bool true) ∧ Kept w w'))
    (HC : Hid (∀ w, Calls Tryz.prog 57 #[.int .u32 bv, .int .u32 cv, .bool u] w fun e w' => e = .returned (.tuple #[.int .u32 X, .int .u32 H]) ∧ w = w')) :
    Calls Tryz.prog 33 #[.agg (A.cells s), .agg #[.int .i64 1, .int .i64 10, .int .i64 a, .int .i64 b, .int .i64 c, .int .i64 i, .bool u]] w fun e w' => e = .returned (.tuple #[.agg (A.cells (A.show' (A.set (A.setH s H) a.toNat X) X)), .int .i64 0]) ∧ Kept w w' := by
  go_enter Tryz.func33, Tryz.ntmps33
  go_wp2_with fail
  refine (HM.out _).mono ?_; rintro e w2 ⟨rfl, hK2⟩
  have hX : Has (w.heap.size + 2) (A.cells A.none') 26 w2 := (Has.new2 _ _ _ _ _).kept hK2
  have hR : Has w.heap.size (A.cells s) 26 w2 := (((Has.new _ _ _).alloc _).alloc _).kept hK2
  have hI := ((Has.new1 _ _ _ _).alloc _).kept hK2
  have hK := ((((Kept.refl w).alloc _ _).alloc _ _).alloc _ _).trans hK2
  have hl := hX.lt
  clear hK2
  have q0 := hI.cell 0 _ rfl
  have q3 := hI.cell 3 _ rfl
  have q4 := hI.cell 4 _ rfl
  have q5 := hI.cell 5 _ rfl
  have qb := hR.cell b.toNat _ (A.cell_r s b.toNat (by omega))
  have qc := hR.cell c.toNat _ (A.cell_r s c.toNat (by omega))
  rw [hbv] at qb
  rw [hcv] at qc
  replace hX := Lib.hid hX
  replace hR := Lib.hid hR
  replace hI := Lib.hid hI
  replace hK := Lib.hid hK
  go_upto_region 14 with (first
    | (with_reducible refine load_has (o := ⟨some 48, _, _, _, _, _⟩) rfl 26 _ rfl _ rfl hR.out Tryz.underlying26 rfl (A.info25 _) ?_)
    | (with_reducible refine store_last (o := ⟨none, Op.store 26 (.tmp 9) _, _, _, _, _⟩) rfl 26 _ _ rfl _ _ rfl rfl rfl (A.info25 _) (by kernel_rfl) (A.one_cells _) ?_))
  clear q0 q3 q4 q5 qb qc
  replace hX := hX.out.alloc (.cells (A.cells s) 26)
  replace hR := hR.out.alloc (.cells (A.cells s) 26)
  replace hI := hI.out.alloc (.cells (A.cells s) 26)
  replace hK := hK.out.alloc (A.cells s) 26
  have hT := Has.new (A.cells s) 26 w2
  generalize w2.heap.size = B9 at *
  generalize w2.alloc _ = w3 at *
  have q0 := hI.cell 0 _ rfl
  have q1 := hI.cell 1 _ rfl
  have q6 := hI.cell 6 _ rfl
  have qh := hR.cell 16 _ (A.cell_h s)
  have qq := hR.cell 19 _ (A.cell_c s)
  have t16 := hT.cell 16 _ (A.cell_h s)
  have t19 := hT.cell 19 _ (A.cell_c s)
  have t20 := hT.cell 20 _ (A.cell_v s)
  have f16 := hT.free 16
  have f19 := hT.free 19
  have f20 := hT.free 20
  replace hX := Lib.hid hX
  replace hR := Lib.hid hR
  replace hI := Lib.hid hI
  replace hK := Lib.hid hK
  replace hT := Lib.hid hT
  go_upto_region 38 with (go_at_call 57; refine (HC.out _).mono ?_; rintro e w4 ⟨rfl, rfl⟩)
  clear q0 q1 q6 qh qq t16 t19 t20 f16 f19 f20
  replace hT := Lib.hid (hT.out.set 16 (.int .u32 H))
  rw [A.set_h] at hT
  replace hX := Lib.hid (hX.out.other (p := ⟨B9, 16, none⟩) (Nat.ne_of_lt hl) (.int .u32 H))
  replace hI := Lib.hid (hI.out.other (p := ⟨B9, 16, none⟩) (Nat.ne_of_lt (by show w.heap.size + 1 < B9; omega)) (.int .u32 H))
  replace hK := Lib.hid (hK.out.setCell (p := ⟨B9, 16, none⟩) (by show w.heap.size ≤ B9; omega) (.int .u32 H))
  generalize World.setCell _ _ _ = w4 at *
  have q2 := hI.out.cell 2 _ rfl
  have ta := hT.out.cell a.toNat _ (A.cell_r (A.setH s H) a.toNat (by omega))
  have fa := hT.out.free a.toNat
  go_upto_region 39 with (fail)
  clear q2 ta fa
  replace hT := Lib.hid (hT.out.set a.toNat (.int .u32 X))
  rw [A.set_r (A.setH s H) a.toNat (by omega) X] at hT
  replace hX := Lib.hid (hX.out.other (p := ⟨B9, a.toNat, none⟩) (Nat.ne_of_lt hl) (.int .u32 X))
  replace hK := Lib.hid (hK.out.setCell (p := ⟨B9, a.toNat, none⟩) (by show w.heap.size ≤ B9; omega) (.int .u32 X))
  clear hI hR
  generalize World.setCell _ _ _ = w5 at *
  go_wp2_with (first
    | (with_reducible refine load_has (o := ⟨some 194, _, _, _, _, _⟩) rfl 26 _ rfl _ rfl hT.out Tryz.underlying26 rfl (A.info25 _) ?_)
    | (with_reducible refine store_has (o := ⟨none, Op.store 26 (.tmp 4) _, _, _, _, _⟩) rfl 26 _ _ rfl _ _ rfl rfl hX.out (A.info25 _) (by kernel_rfl) (A.one_cells _) ?_)
    | (go_at_call 49; (refine (rshow_any _ X hx0 hx1 _).mono ?_; rintro e w7 ⟨rfl, hK7⟩); (replace hX := Lib.hid (hX.out.kept hK7)); (replace hK := Lib.hid (hK.out.trans hK7)); clear hK7))
  exact bodyPost_ret (results_has2 rfl (w.heap.size + 2) rfl (hX.out.row _) Tryz.underlying26 rfl (A.info25 _)) rfl ⟨rfl, hK.out.row (by omega) _⟩
set_option maxRecDepth 100000 in
set_option maxHeartbeats 2000000 in
theorem rdo_1_11 (s : A.Regs) (a b c i bv cv X : Int) (u : Bool) (H : Int) (ha0 : 0 ≤ a) (ha1 : a < 16) (hb0 : 0 ≤ b) (hb1 : b < 16) (hc0 : 0 ≤ c) (hc1 : c < 16) (b0 : 0 ≤ bv) (b1 : bv < 4294967296) (n0 : 0 ≤ cv) (n1 : cv < 4294967296) (hbv : s.r b.toNat = bv) (hcv : s.r c.toNat = cv) (hx0 : 0 ≤ X) (hx1 : X < 4294967296) (w : World)
    (HM : Hid (∀ w, Calls Tryz.prog 41 #[.agg #[.int .i64 1, .int .i64 11, .int .i64 a, .int .i64 b, .int .i64 c, .int .i64 i, .bool u]] w fun e w' => e = .returned (.bool true) ∧ Kept w w'))
    (HC : Hid (∀ w, Calls Tryz.prog 58 #[.int .u32 bv, .int .u32 cv] w fun e w' => e = .returned (.tuple #[.int .u32 X, .int .u32 H, .bool true]) ∧ w = w')) :
    Calls Tryz.prog 33 #[.agg (A.cells s), .agg #[.int .i64 1, .int .i64 11, .int .i64 a, .int .i64 b, .int .i64 c, .int .i64 i, .bool u]] w fun e w' => e = .returned (.tuple #[.agg (A.cells (A.show' (A.set (A.setH s H) a.toNat X) X)), .int .i64 0]) ∧ Kept w w' := by
  go_enter Tryz.func33, Tryz.ntmps33
  go_wp2_with fail
  refine (HM.out _).mono ?_; rintro e w2 ⟨rfl, hK2⟩
  have hX : Has (w.heap.size + 2) (A.cells A.none') 26 w2 := (Has.new2 _ _ _ _ _).kept hK2
  have hR : Has w.heap.size (A.cells s) 26 w2 := (((Has.new _ _ _).alloc _).alloc _).kept hK2
  have hI := ((Has.new1 _ _ _ _).alloc _).kept hK2
  have hK := ((((Kept.refl w).alloc _ _).alloc _ _).alloc _ _).trans hK2
  have hl := hX.lt
  clear hK2
  have q0 := hI.cell 0 _ rfl
  have q3 := hI.cell 3 _ rfl
  have q4 := hI.cell 4 _ rfl
  have q5 := hI.cell 5 _ rfl
  have qb := hR.cell b.toNat _ (A.cell_r s b.toNat (by omega))
  have qc := hR.cell c.toNat _ (A.cell_r s c.toNat (by omega))
  rw [hbv] at qb
  rw [hcv] at qc
  replace hX := Lib.hid hX
  replace hR := Lib.hid hR
  replace hI := Lib.hid hI
  replace hK := Lib.hid hK
  go_upto_region 14 with (first
    | (with_reducible refine load_has (o := ⟨some 48, _, _, _, _, _⟩) rfl 26 _ rfl _ rfl hR.out Tryz.underlying26 rfl (A.info25 _) ?_)
    | (with_reducible refine store_last (o := ⟨none, Op.store 26 (.tmp 9) _, _, _, _, _⟩) rfl 26 _ _ rfl _ _ rfl rfl rfl (A.info25 _) (by kernel_rfl) (A.one_cells _) ?_))
  clear q0 q3 q4 q5 qb qc
  replace hX := hX.out.alloc (.cells (A.cells s) 26)
  replace hR := hR.out.alloc (.cells (A.cells s) 26)
  replace hI := hI.out.alloc (.cells (A.cells s) 26)
  replace hK := hK.out.alloc (A.cells s) 26
  have hT := Has.new (A.cells s) 26 w2
  generalize w2.heap.size = B9 at *
  generalize w2.alloc _ = w3 at *
  have q0 := hI.cell 0 _ rfl
  have q1 := hI.cell 1 _ rfl
  have q6 := hI.cell 6 _ rfl
  have qh := hR.cell 16 _ (A.cell_h s)
  have qq := hR.cell 19 _ (A.cell_c s)
  have t16 := hT.cell 16 _ (A.cell_h s)
  have t19 := hT.cell 19 _ (A.cell_c s)
  have t20 := hT.cell 20 _ (A.cell_v s)
  have f16 := hT.free 16
  have f19 := hT.free 19
  have f20 := hT.free 20
  replace hX := Lib.hid hX
  replace hR := Lib.hid hR
  replace hI := Lib.hid hI
  replace hK := Lib.hid hK
  replace hT := Lib.hid hT
  go_upto_region 38 with (go_at_call 58; refine (HC.out _).mono ?_; rintro e w4 ⟨rfl, rfl⟩)
  clear q0 q1 q6 qh qq t16 t19 t20 f16 f19 f20
  replace hT := Lib.hid (hT.out.set 16 (.int .u32 H))
  rw [A.set_h] at hT
  replace hX := Lib.hid (hX.out.other (p := ⟨B9, 16, none⟩) (Nat.ne_of_lt hl) (.int .u32 H))
  replace hI := Lib.hid (hI.out.other (p := ⟨B9, 16, none⟩) (Nat.ne_of_lt (by show w.heap.size + 1 < B9; omega)) (.int .u32 H))
  replace hK := Lib.hid (hK.out.setCell (p := ⟨B9, 16, none⟩) (by show w.heap.size ≤ B9; omega) (.int .u32 H))
  generalize World.setCell _ _ _ = w4 at *
  have q2 := hI.out.cell 2 _ rfl
  have ta := hT.out.cell a.toNat _ (A.cell_r (A.setH s H) a.toNat (by omega))
  have fa := hT.out.free a.toNat
  go_upto_region 39 with (fail)
  clear q2 ta fa
  replace hT := Lib.hid (hT.out.set a.toNat (.int .u32 X))
  rw [A.set_r (A.setH s H) a.toNat (by omega) X] at hT
  replace hX := Lib.hid (hX.out.other (p := ⟨B9, a.toNat, none⟩) (Nat.ne_of_lt hl) (.int .u32 X))
  replace hK := Lib.hid (hK.out.setCell (p := ⟨B9, a.toNat, none⟩) (by show w.heap.size ≤ B9; omega) (.int .u32 X))
  clear hI hR
  generalize World.setCell _ _ _ = w5 at *
  go_wp2_with (first
    | (with_reducible refine load_has (o := ⟨some 194, _, _, _, _, _⟩) rfl 26 _ rfl _ rfl hT.out Tryz.underlying26 rfl (A.info25 _) ?_)
    | (with_reducible refine store_has (o := ⟨none, Op.store 26 (.tmp 4) _, _, _, _, _⟩) rfl 26 _ _ rfl _ _ rfl rfl hX.out (A.info25 _) (by kernel_rfl) (A.one_cells _) ?_)
    | (go_at_call 49; (refine (rshow_any _ X hx0 hx1 _).mono ?_; rintro e w7 ⟨rfl, hK7⟩); (replace hX := Lib.hid (hX.out.kept hK7)); (replace hK := Lib.hid (hK.out.trans hK7)); clear hK7))
  exact bodyPost_ret (results_has2 rfl (w.heap.size + 2) rfl (hX.out.row _) Tryz.underlying26 rfl (A.info25 _)) rfl ⟨rfl, hK.out.row (by omega) _⟩
set_option maxRecDepth 100000 in
set_option maxHeartbeats 2000000 in
theorem rdo_1_11n (s : A.Regs) (a b c i bv cv X : Int) (u : Bool) (ha0 : 0 ≤ a) (ha1 : a < 16) (hb0 : 0 ≤ b) (hb1 : b < 16) (hc0 : 0 ≤ c) (hc1 : c < 16) (b0 : 0 ≤ bv) (b1 : bv < 4294967296) (n0 : 0 ≤ cv) (n1 : cv < 4294967296) (hbv : s.r b.toNat = bv) (hcv : s.r c.toNat = cv) (hx0 : 0 ≤ X) (hx1 : X < 4294967296) (w : World)
    (HM : Hid (∀ w, Calls Tryz.prog 41 #[.agg #[.int .i64 1, .int .i64 11, .int .i64 a, .int .i64 b, .int .i64 c, .int .i64 i, .bool u]] w fun e w' => e = .returned (.bool true) ∧ Kept w w'))
    (HC : Hid (∀ w, Calls Tryz.prog 58 #[.int .u32 bv, .int .u32 cv] w fun e w' => e = .returned (.tuple #[.int .u32 0, .int .u32 0, .bool false]) ∧ w = w')) :
    Calls Tryz.prog 33 #[.agg (A.cells s), .agg #[.int .i64 1, .int .i64 11, .int .i64 a, .int .i64 b, .int .i64 c, .int .i64 i, .bool u]] w fun e w' => e = .returned (.tuple #[.agg (A.cells s), .int .i64 5]) ∧ Kept w w' := by
  go_enter Tryz.func33, Tryz.ntmps33
  go_wp2_with fail
  refine (HM.out _).mono ?_; rintro e w2 ⟨rfl, hK2⟩
  have hX : Has (w.heap.size + 2) (A.cells A.none') 26 w2 := (Has.new2 _ _ _ _ _).kept hK2
  have hR : Has w.heap.size (A.cells s) 26 w2 := (((Has.new _ _ _).alloc _).alloc _).kept hK2
  have hI := ((Has.new1 _ _ _ _).alloc _).kept hK2
  have hK := ((((Kept.refl w).alloc _ _).alloc _ _).alloc _ _).trans hK2
  have hl := hX.lt
  clear hK2
  have q0 := hI.cell 0 _ rfl
  have q3 := hI.cell 3 _ rfl
  have q4 := hI.cell 4 _ rfl
  have q5 := hI.cell 5 _ rfl
  have qb := hR.cell b.toNat _ (A.cell_r s b.toNat (by omega))
  have qc := hR.cell c.toNat _ (A.cell_r s c.toNat (by omega))
  rw [hbv] at qb
  rw [hcv] at qc
  replace hX := Lib.hid hX
  replace hR := Lib.hid hR
  replace hI := Lib.hid hI
  replace hK := Lib.hid hK
  go_upto_region 14 with (first
    | (with_reducible refine load_has (o := ⟨some 48, _, _, _, _, _⟩) rfl 26 _ rfl _ rfl hR.out Tryz.underlying26 rfl (A.info25 _) ?_)
    | (with_reducible refine store_last (o := ⟨none, Op.store 26 (.tmp 9) _, _, _, _, _⟩) rfl 26 _ _ rfl _ _ rfl rfl rfl (A.info25 _) (by kernel_rfl) (A.one_cells _) ?_))
  clear q0 q3 q4 q5 qb qc
  replace hX := hX.out.alloc (.cells (A.cells s) 26)
  replace hR := hR.out.alloc (.cells (A.cells s) 26)
  replace hI := hI.out.alloc (.cells (A.cells s) 26)
  replace hK := hK.out.alloc (A.cells s) 26
  have hT := Has.new (A.cells s) 26 w2
  generalize w2.heap.size = B9 at *
  generalize w2.alloc _ = w3 at *
  have q0 := hI.cell 0 _ rfl
  have q1 := hI.cell 1 _ rfl
  have q6 := hI.cell 6 _ rfl
  have qh := hR.cell 16 _ (A.cell_h s)
  have qq := hR.cell 19 _ (A.cell_c s)
  have t16 := hT.cell 16 _ (A.cell_h s)
  have t19 := hT.cell 19 _ (A.cell_c s)
  have t20 := hT.cell 20 _ (A.cell_v s)
  have f16 := hT.free 16
  have f19 := hT.free 19
  have f20 := hT.free 20
  replace hX := Lib.hid hX
  replace hR := Lib.hid hR
  replace hI := Lib.hid hI
  replace hK := Lib.hid hK
  replace hT := Lib.hid hT
  go_wp2_with (first
    | (go_at_call 58; refine (HC.out _).mono ?_; rintro e w4 ⟨rfl, rfl⟩)
    | (with_reducible refine load_has (o := ⟨some 58, _, _, _, _, _⟩) rfl 26 _ rfl _ rfl hR.out Tryz.underlying26 rfl (A.info25 _) ?_)
    | (with_reducible refine store_has (o := ⟨none, Op.store 26 (.tmp 4) _, _, _, _, _⟩) rfl 26 _ _ rfl _ _ rfl rfl hX.out (A.info25 _) (by kernel_rfl) (A.one_cells _) ?_))
  exact bodyPost_ret (results_has2 rfl (w.heap.size + 2) rfl (hX.out.row _) Tryz.underlying26 rfl (A.info25 _)) rfl ⟨rfl, hK.out.row (by omega) _⟩
end Go.Proofs.YtlmddkciamdldaaGreat

/-
  The contract of the document's Do, of a register and a number.
-/
namespace Go.Proofs.YtlmddkciamdldaaGreat
open Go.RowKit
set_option linter.unusedVariables false
set_option linter.unusedSimpArgs false
set_option maxRecDepth 100000
set_option maxRecDepth 100000 in
set_option maxHeartbeats 2000000 in
theorem rdo_2_0f (s : A.Regs) (a b c i bv cv X : Int) (ha0 : 0 ≤ a) (ha1 : a < 16) (hb0 : 0 ≤ b) (hb1 : b < 16) (hc0 : 0 ≤ c) (hc1 : c < 16) (b0 : 0 ≤ bv) (b1 : bv < 4294967296) (n0 : 0 ≤ i % 4294967296) (n1 : i % 4294967296 < 4294967296) (hbv : s.r b.toNat = bv) (hcv : s.r c.toNat = cv) (hx0 : 0 ≤ X) (hx1 : X < 4294967296) (w : World)
    (HM : Hid (∀ w, Calls Tryz.prog 41 #[.agg #[.int .i64 2, .int .i64 0, .int .i64 a, .int .i64 b, .int .i64 c, .int .i64 i, .bool false]] w fun e w' => e = .returned (.bool true) ∧ Kept w w'))
    (HE : Hid ((i % 4294967296) = X)) :
    Calls Tryz.prog 33 #[.agg (A.cells s), .agg #[.int .i64 2, .int .i64 0, .int .i64 a, .int .i64 b, .int .i64 c, .int .i64 i, .bool false]] w fun e w' => e = .returned (.tuple #[.agg (A.cells (A.show' (A.set (s) a.toNat X) X)), .int .i64 0]) ∧ Kept w w' := by
  go_enter Tryz.func33, Tryz.ntmps33
  go_wp2_with fail
  refine (HM.out _).mono ?_; rintro e w2 ⟨rfl, hK2⟩
  have hX : Has (w.heap.size + 2) (A.cells A.none') 26 w2 := (Has.new2 _ _ _ _ _).kept hK2
  have hR : Has w.heap.size (A.cells s) 26 w2 := (((Has.new _ _ _).alloc _).alloc _).kept hK2
  have hI := ((Has.new1 _ _ _ _).alloc _).kept hK2
  have hK := ((((Kept.refl w).alloc _ _).alloc _ _).alloc _ _).trans hK2
  have hl := hX.lt
  clear hK2
  have q0 := hI.cell 0 _ rfl
  have q3 := hI.cell 3 _ rfl
  have q4 := hI.cell 4 _ rfl
  have q5 := hI.cell 5 _ rfl
  have qb := hR.cell b.toNat _ (A.cell_r s b.toNat (by omega))
  have qc := hR.cell c.toNat _ (A.cell_r s c.toNat (by omega))
  rw [hbv] at qb
  rw [hcv] at qc
  replace hX := Lib.hid hX
  replace hR := Lib.hid hR
  replace hI := Lib.hid hI
  replace hK := Lib.hid hK
  go_upto_region 14 with (first
    | (with_reducible refine load_has (o := ⟨some 48, _, _, _, _, _⟩) rfl 26 _ rfl _ rfl hR.out Tryz.underlying26 rfl (A.info25 _) ?_)
    | (with_reducible refine store_last (o := ⟨none, Op.store 26 (.tmp 9) _, _, _, _, _⟩) rfl 26 _ _ rfl _ _ rfl rfl rfl (A.info25 _) (by kernel_rfl) (A.one_cells _) ?_))
  clear q0 q3 q4 q5 qb qc
  replace hX := hX.out.alloc (.cells (A.cells s) 26)
  replace hR := hR.out.alloc (.cells (A.cells s) 26)
  replace hI := hI.out.alloc (.cells (A.cells s) 26)
  replace hK := hK.out.alloc (A.cells s) 26
  have hT := Has.new (A.cells s) 26 w2
  generalize w2.heap.size = B9 at *
  generalize w2.alloc _ = w3 at *
  have q0 := hI.cell 0 _ rfl
  have q1 := hI.cell 1 _ rfl
  have q6 := hI.cell 6 _ rfl
  have qh := hR.cell 16 _ (A.cell_h s)
  have qq := hR.cell 19 _ (A.cell_c s)
  have t16 := hT.cell 16 _ (A.cell_h s)
  have t19 := hT.cell 19 _ (A.cell_c s)
  have t20 := hT.cell 20 _ (A.cell_v s)
  have f16 := hT.free 16
  have f19 := hT.free 19
  have f20 := hT.free 20
  replace hX := Lib.hid hX
  replace hR := Lib.hid hR
  replace hI := Lib.hid hI
  replace hK := Lib.hid hK
  replace hT := Lib.hid hT
  go_upto_region 38 with (fail)
  rw [HE.out]
  clear q0 q1 q6 qh qq t16 t19 t20 f16 f19 f20
  have q2 := hI.out.cell 2 _ rfl
  have ta := hT.out.cell a.toNat _ (A.cell_r (s) a.toNat (by omega))
  have fa := hT.out.free a.toNat
  go_upto_region 39 with (fail)
  clear q2 ta fa
  replace hT := Lib.hid (hT.out.set a.toNat (.int .u32 X))
  rw [A.set_r (s) a.toNat (by omega) X] at hT
  replace hX := Lib.hid (hX.out.other (p := ⟨B9, a.toNat, none⟩) (Nat.ne_of_lt hl) (.int .u32 X))
  replace hK := Lib.hid (hK.out.setCell (p := ⟨B9, a.toNat, none⟩) (by show w.heap.size ≤ B9; omega) (.int .u32 X))
  clear hI hR
  generalize World.setCell _ _ _ = w5 at *
  go_wp2_with (first
    | (with_reducible refine load_has (o := ⟨some 194, _, _, _, _, _⟩) rfl 26 _ rfl _ rfl hT.out Tryz.underlying26 rfl (A.info25 _) ?_)
    | (with_reducible refine store_has (o := ⟨none, Op.store 26 (.tmp 4) _, _, _, _, _⟩) rfl 26 _ _ rfl _ _ rfl rfl hX.out (A.info25 _) (by kernel_rfl) (A.one_cells _) ?_)
    | (go_at_call 49; (refine (rshow_any _ X hx0 hx1 _).mono ?_; rintro e w7 ⟨rfl, hK7⟩); (replace hX := Lib.hid (hX.out.kept hK7)); (replace hK := Lib.hid (hK.out.trans hK7)); clear hK7))
  exact bodyPost_ret (results_has2 rfl (w.heap.size + 2) rfl (hX.out.row _) Tryz.underlying26 rfl (A.info25 _)) rfl ⟨rfl, hK.out.row (by omega) _⟩
set_option maxRecDepth 100000 in
set_option maxHeartbeats 2000000 in
theorem rdo_2_0t (s : A.Regs) (a b c i bv cv X : Int) (ha0 : 0 ≤ a) (ha1 : a < 16) (hb0 : 0 ≤ b) (hb1 : b < 16) (hc0 : 0 ≤ c) (hc1 : c < 16) (b0 : 0 ≤ bv) (b1 : bv < 4294967296) (n0 : 0 ≤ i % 4294967296) (n1 : i % 4294967296 < 4294967296) (hbv : s.r b.toNat = bv) (hcv : s.r c.toNat = cv) (hx0 : 0 ≤ X) (hx1 : X < 4294967296) (w : World)
    (HM : Hid (∀ w, Calls Tryz.prog 41 #[.agg #[.int .i64 2, .int .i64 0, .int .i64 a, .int .i64 b, .int .i64 c, .int .i64 i, .bool true]] w fun e w' => e = .returned (.bool true) ∧ Kept w w'))
    (HE : Hid ((i % 4294967296) * 65536 % 4294967296 = X)) :
    Calls Tryz.prog 33 #[.agg (A.cells s), .agg #[.int .i64 2, .int .i64 0, .int .i64 a, .int .i64 b, .int .i64 c, .int .i64 i, .bool true]] w fun e w' => e = .returned (.tuple #[.agg (A.cells (A.show' (A.set (s) a.toNat X) X)), .int .i64 0]) ∧ Kept w w' := by
  go_enter Tryz.func33, Tryz.ntmps33
  go_wp2_with fail
  refine (HM.out _).mono ?_; rintro e w2 ⟨rfl, hK2⟩
  have hX : Has (w.heap.size + 2) (A.cells A.none') 26 w2 := (Has.new2 _ _ _ _ _).kept hK2
  have hR : Has w.heap.size (A.cells s) 26 w2 := (((Has.new _ _ _).alloc _).alloc _).kept hK2
  have hI := ((Has.new1 _ _ _ _).alloc _).kept hK2
  have hK := ((((Kept.refl w).alloc _ _).alloc _ _).alloc _ _).trans hK2
  have hl := hX.lt
  clear hK2
  have q0 := hI.cell 0 _ rfl
  have q3 := hI.cell 3 _ rfl
  have q4 := hI.cell 4 _ rfl
  have q5 := hI.cell 5 _ rfl
  have qb := hR.cell b.toNat _ (A.cell_r s b.toNat (by omega))
  have qc := hR.cell c.toNat _ (A.cell_r s c.toNat (by omega))
  rw [hbv] at qb
  rw [hcv] at qc
  replace hX := Lib.hid hX
  replace hR := Lib.hid hR
  replace hI := Lib.hid hI
  replace hK := Lib.hid hK
  go_upto_region 14 with (first
    | (with_reducible refine load_has (o := ⟨some 48, _, _, _, _, _⟩) rfl 26 _ rfl _ rfl hR.out Tryz.underlying26 rfl (A.info25 _) ?_)
    | (with_reducible refine store_last (o := ⟨none, Op.store 26 (.tmp 9) _, _, _, _, _⟩) rfl 26 _ _ rfl _ _ rfl rfl rfl (A.info25 _) (by kernel_rfl) (A.one_cells _) ?_))
  clear q0 q3 q4 q5 qb qc
  replace hX := hX.out.alloc (.cells (A.cells s) 26)
  replace hR := hR.out.alloc (.cells (A.cells s) 26)
  replace hI := hI.out.alloc (.cells (A.cells s) 26)
  replace hK := hK.out.alloc (A.cells s) 26
  have hT := Has.new (A.cells s) 26 w2
  generalize w2.heap.size = B9 at *
  generalize w2.alloc _ = w3 at *
  have q0 := hI.cell 0 _ rfl
  have q1 := hI.cell 1 _ rfl
  have q6 := hI.cell 6 _ rfl
  have qh := hR.cell 16 _ (A.cell_h s)
  have qq := hR.cell 19 _ (A.cell_c s)
  have t16 := hT.cell 16 _ (A.cell_h s)
  have t19 := hT.cell 19 _ (A.cell_c s)
  have t20 := hT.cell 20 _ (A.cell_v s)
  have f16 := hT.free 16
  have f19 := hT.free 19
  have f20 := hT.free 20
  replace hX := Lib.hid hX
  replace hR := Lib.hid hR
  replace hI := Lib.hid hI
  replace hK := Lib.hid hK
  replace hT := Lib.hid hT
  go_upto_region 38 with (fail)
  rw [HE.out]
  clear q0 q1 q6 qh qq t16 t19 t20 f16 f19 f20
  have q2 := hI.out.cell 2 _ rfl
  have ta := hT.out.cell a.toNat _ (A.cell_r (s) a.toNat (by omega))
  have fa := hT.out.free a.toNat
  go_upto_region 39 with (fail)
  clear q2 ta fa
  replace hT := Lib.hid (hT.out.set a.toNat (.int .u32 X))
  rw [A.set_r (s) a.toNat (by omega) X] at hT
  replace hX := Lib.hid (hX.out.other (p := ⟨B9, a.toNat, none⟩) (Nat.ne_of_lt hl) (.int .u32 X))
  replace hK := Lib.hid (hK.out.setCell (p := ⟨B9, a.toNat, none⟩) (by show w.heap.size ≤ B9; omega) (.int .u32 X))
  clear hI hR
  generalize World.setCell _ _ _ = w5 at *
  go_wp2_with (first
    | (with_reducible refine load_has (o := ⟨some 194, _, _, _, _, _⟩) rfl 26 _ rfl _ rfl hT.out Tryz.underlying26 rfl (A.info25 _) ?_)
    | (with_reducible refine store_has (o := ⟨none, Op.store 26 (.tmp 4) _, _, _, _, _⟩) rfl 26 _ _ rfl _ _ rfl rfl hX.out (A.info25 _) (by kernel_rfl) (A.one_cells _) ?_)
    | (go_at_call 49; (refine (rshow_any _ X hx0 hx1 _).mono ?_; rintro e w7 ⟨rfl, hK7⟩); (replace hX := Lib.hid (hX.out.kept hK7)); (replace hK := Lib.hid (hK.out.trans hK7)); clear hK7))
  exact bodyPost_ret (results_has2 rfl (w.heap.size + 2) rfl (hX.out.row _) Tryz.underlying26 rfl (A.info25 _)) rfl ⟨rfl, hK.out.row (by omega) _⟩
set_option maxRecDepth 100000 in
set_option maxHeartbeats 2000000 in
theorem rdo_2_1 (s : A.Regs) (a b c i bv cv X : Int) (u : Bool) (ha0 : 0 ≤ a) (ha1 : a < 16) (hb0 : 0 ≤ b) (hb1 : b < 16) (hc0 : 0 ≤ c) (hc1 : c < 16) (b0 : 0 ≤ bv) (b1 : bv < 4294967296) (n0 : 0 ≤ i % 4294967296) (n1 : i % 4294967296 < 4294967296) (hbv : s.r b.toNat = bv) (hcv : s.r c.toNat = cv) (hx0 : 0 ≤ X) (hx1 : X < 4294967296) (w : World)
    (HM : Hid (∀ w, Calls Tryz.prog 41 #[.agg #[.int .i64 2, .int .i64 1, .int .i64 a, .int .i64 b, .int .i64 c, .int .i64 i, .bool u]] w fun e w' => e = .returned (.bool true) ∧ Kept w w'))
    (HC : Hid (∀ w, Calls Tryz.prog 54 #[.int .i64 1, .int .u32 bv, .int .u32 (i % 4294967296)] w fun e w' => e = .returned (.int .u32 X) ∧ w = w')) :
    Calls Tryz.prog 33 #[.agg (A.cells s), .agg #[.int .i64 2, .int .i64 1, .int .i64 a, .int .i64 b, .int .i64 c, .int .i64 i, .bool u]] w fun e w' => e = .returned (.tuple #[.agg (A.cells (A.show' (A.set (s) a.toNat X) X)), .int .i64 0]) ∧ Kept w w' := by
  go_enter Tryz.func33, Tryz.ntmps33
  go_wp2_with fail
  refine (HM.out _).mono ?_; rintro e w2 ⟨rfl, hK2⟩
  have hX : Has (w.heap.size + 2) (A.cells A.none') 26 w2 := (Has.new2 _ _ _ _ _).kept hK2
  have hR : Has w.heap.size (A.cells s) 26 w2 := (((Has.new _ _ _).alloc _).alloc _).kept hK2
  have hI := ((Has.new1 _ _ _ _).alloc _).kept hK2
  have hK := ((((Kept.refl w).alloc _ _).alloc _ _).alloc _ _).trans hK2
  have hl := hX.lt
  clear hK2
  have q0 := hI.cell 0 _ rfl
  have q3 := hI.cell 3 _ rfl
  have q4 := hI.cell 4 _ rfl
  have q5 := hI.cell 5 _ rfl
  have qb := hR.cell b.toNat _ (A.cell_r s b.toNat (by omega))
  have qc := hR.cell c.toNat _ (A.cell_r s c.toNat (by omega))
  rw [hbv] at qb
  rw [hcv] at qc
  replace hX := Lib.hid hX
  replace hR := Lib.hid hR
  replace hI := Lib.hid hI
  replace hK := Lib.hid hK
  go_upto_region 14 with (first
    | (with_reducible refine load_has (o := ⟨some 48, _, _, _, _, _⟩) rfl 26 _ rfl _ rfl hR.out Tryz.underlying26 rfl (A.info25 _) ?_)
    | (with_reducible refine store_last (o := ⟨none, Op.store 26 (.tmp 9) _, _, _, _, _⟩) rfl 26 _ _ rfl _ _ rfl rfl rfl (A.info25 _) (by kernel_rfl) (A.one_cells _) ?_))
  clear q0 q3 q4 q5 qb qc
  replace hX := hX.out.alloc (.cells (A.cells s) 26)
  replace hR := hR.out.alloc (.cells (A.cells s) 26)
  replace hI := hI.out.alloc (.cells (A.cells s) 26)
  replace hK := hK.out.alloc (A.cells s) 26
  have hT := Has.new (A.cells s) 26 w2
  generalize w2.heap.size = B9 at *
  generalize w2.alloc _ = w3 at *
  have q0 := hI.cell 0 _ rfl
  have q1 := hI.cell 1 _ rfl
  have q6 := hI.cell 6 _ rfl
  have qh := hR.cell 16 _ (A.cell_h s)
  have qq := hR.cell 19 _ (A.cell_c s)
  have t16 := hT.cell 16 _ (A.cell_h s)
  have t19 := hT.cell 19 _ (A.cell_c s)
  have t20 := hT.cell 20 _ (A.cell_v s)
  have f16 := hT.free 16
  have f19 := hT.free 19
  have f20 := hT.free 20
  replace hX := Lib.hid hX
  replace hR := Lib.hid hR
  replace hI := Lib.hid hI
  replace hK := Lib.hid hK
  replace hT := Lib.hid hT
  go_upto_region 38 with (go_at_call 54; refine (HC.out _).mono ?_; rintro e w4 ⟨rfl, rfl⟩)
  clear q0 q1 q6 qh qq t16 t19 t20 f16 f19 f20
  have q2 := hI.out.cell 2 _ rfl
  have ta := hT.out.cell a.toNat _ (A.cell_r (s) a.toNat (by omega))
  have fa := hT.out.free a.toNat
  go_upto_region 39 with (fail)
  clear q2 ta fa
  replace hT := Lib.hid (hT.out.set a.toNat (.int .u32 X))
  rw [A.set_r (s) a.toNat (by omega) X] at hT
  replace hX := Lib.hid (hX.out.other (p := ⟨B9, a.toNat, none⟩) (Nat.ne_of_lt hl) (.int .u32 X))
  replace hK := Lib.hid (hK.out.setCell (p := ⟨B9, a.toNat, none⟩) (by show w.heap.size ≤ B9; omega) (.int .u32 X))
  clear hI hR
  generalize World.setCell _ _ _ = w5 at *
  go_wp2_with (first
    | (with_reducible refine load_has (o := ⟨some 194, _, _, _, _, _⟩) rfl 26 _ rfl _ rfl hT.out Tryz.underlying26 rfl (A.info25 _) ?_)
    | (with_reducible refine store_has (o := ⟨none, Op.store 26 (.tmp 4) _, _, _, _, _⟩) rfl 26 _ _ rfl _ _ rfl rfl hX.out (A.info25 _) (by kernel_rfl) (A.one_cells _) ?_)
    | (go_at_call 49; (refine (rshow_any _ X hx0 hx1 _).mono ?_; rintro e w7 ⟨rfl, hK7⟩); (replace hX := Lib.hid (hX.out.kept hK7)); (replace hK := Lib.hid (hK.out.trans hK7)); clear hK7))
  exact bodyPost_ret (results_has2 rfl (w.heap.size + 2) rfl (hX.out.row _) Tryz.underlying26 rfl (A.info25 _)) rfl ⟨rfl, hK.out.row (by omega) _⟩
set_option maxRecDepth 100000 in
set_option maxHeartbeats 2000000 in
theorem rdo_2_2 (s : A.Regs) (a b c i bv cv X : Int) (u : Bool) (ha0 : 0 ≤ a) (ha1 : a < 16) (hb0 : 0 ≤ b) (hb1 : b < 16) (hc0 : 0 ≤ c) (hc1 : c < 16) (b0 : 0 ≤ bv) (b1 : bv < 4294967296) (n0 : 0 ≤ i % 4294967296) (n1 : i % 4294967296 < 4294967296) (hbv : s.r b.toNat = bv) (hcv : s.r c.toNat = cv) (hx0 : 0 ≤ X) (hx1 : X < 4294967296) (w : World)
    (HM : Hid (∀ w, Calls Tryz.prog 41 #[.agg #[.int .i64 2, .int .i64 2, .int .i64 a, .int .i64 b, .int .i64 c, .int .i64 i, .bool u]] w fun e w' => e = .returned (.bool true) ∧ Kept w w'))
    (HC : Hid (∀ w, Calls Tryz.prog 54 #[.int .i64 2, .int .u32 bv, .int .u32 (i % 4294967296)] w fun e w' => e = .returned (.int .u32 X) ∧ w = w')) :
    Calls Tryz.prog 33 #[.agg (A.cells s), .agg #[.int .i64 2, .int .i64 2, .int .i64 a, .int .i64 b, .int .i64 c, .int .i64 i, .bool u]] w fun e w' => e = .returned (.tuple #[.agg (A.cells (A.show' (A.set (s) a.toNat X) X)), .int .i64 0]) ∧ Kept w w' := by
  go_enter Tryz.func33, Tryz.ntmps33
  go_wp2_with fail
  refine (HM.out _).mono ?_; rintro e w2 ⟨rfl, hK2⟩
  have hX : Has (w.heap.size + 2) (A.cells A.none') 26 w2 := (Has.new2 _ _ _ _ _).kept hK2
  have hR : Has w.heap.size (A.cells s) 26 w2 := (((Has.new _ _ _).alloc _).alloc _).kept hK2
  have hI := ((Has.new1 _ _ _ _).alloc _).kept hK2
  have hK := ((((Kept.refl w).alloc _ _).alloc _ _).alloc _ _).trans hK2
  have hl := hX.lt
  clear hK2
  have q0 := hI.cell 0 _ rfl
  have q3 := hI.cell 3 _ rfl
  have q4 := hI.cell 4 _ rfl
  have q5 := hI.cell 5 _ rfl
  have qb := hR.cell b.toNat _ (A.cell_r s b.toNat (by omega))
  have qc := hR.cell c.toNat _ (A.cell_r s c.toNat (by omega))
  rw [hbv] at qb
  rw [hcv] at qc
  replace hX := Lib.hid hX
  replace hR := Lib.hid hR
  replace hI := Lib.hid hI
  replace hK := Lib.hid hK
  go_upto_region 14 with (first
    | (with_reducible refine load_has (o := ⟨some 48, _, _, _, _, _⟩) rfl 26 _ rfl _ rfl hR.out Tryz.underlying26 rfl (A.info25 _) ?_)
    | (with_reducible refine store_last (o := ⟨none, Op.store 26 (.tmp 9) _, _, _, _, _⟩) rfl 26 _ _ rfl _ _ rfl rfl rfl (A.info25 _) (by kernel_rfl) (A.one_cells _) ?_))
  clear q0 q3 q4 q5 qb qc
  replace hX := hX.out.alloc (.cells (A.cells s) 26)
  replace hR := hR.out.alloc (.cells (A.cells s) 26)
  replace hI := hI.out.alloc (.cells (A.cells s) 26)
  replace hK := hK.out.alloc (A.cells s) 26
  have hT := Has.new (A.cells s) 26 w2
  generalize w2.heap.size = B9 at *
  generalize w2.alloc _ = w3 at *
  have q0 := hI.cell 0 _ rfl
  have q1 := hI.cell 1 _ rfl
  have q6 := hI.cell 6 _ rfl
  have qh := hR.cell 16 _ (A.cell_h s)
  have qq := hR.cell 19 _ (A.cell_c s)
  have t16 := hT.cell 16 _ (A.cell_h s)
  have t19 := hT.cell 19 _ (A.cell_c s)
  have t20 := hT.cell 20 _ (A.cell_v s)
  have f16 := hT.free 16
  have f19 := hT.free 19
  have f20 := hT.free 20
  replace hX := Lib.hid hX
  replace hR := Lib.hid hR
  replace hI := Lib.hid hI
  replace hK := Lib.hid hK
  replace hT := Lib.hid hT
  go_upto_region 38 with (go_at_call 54; refine (HC.out _).mono ?_; rintro e w4 ⟨rfl, rfl⟩)
  clear q0 q1 q6 qh qq t16 t19 t20 f16 f19 f20
  have q2 := hI.out.cell 2 _ rfl
  have ta := hT.out.cell a.toNat _ (A.cell_r (s) a.toNat (by omega))
  have fa := hT.out.free a.toNat
  go_upto_region 39 with (fail)
  clear q2 ta fa
  replace hT := Lib.hid (hT.out.set a.toNat (.int .u32 X))
  rw [A.set_r (s) a.toNat (by omega) X] at hT
  replace hX := Lib.hid (hX.out.other (p := ⟨B9, a.toNat, none⟩) (Nat.ne_of_lt hl) (.int .u32 X))
  replace hK := Lib.hid (hK.out.setCell (p := ⟨B9, a.toNat, none⟩) (by show w.heap.size ≤ B9; omega) (.int .u32 X))
  clear hI hR
  generalize World.setCell _ _ _ = w5 at *
  go_wp2_with (first
    | (with_reducible refine load_has (o := ⟨some 194, _, _, _, _, _⟩) rfl 26 _ rfl _ rfl hT.out Tryz.underlying26 rfl (A.info25 _) ?_)
    | (with_reducible refine store_has (o := ⟨none, Op.store 26 (.tmp 4) _, _, _, _, _⟩) rfl 26 _ _ rfl _ _ rfl rfl hX.out (A.info25 _) (by kernel_rfl) (A.one_cells _) ?_)
    | (go_at_call 49; (refine (rshow_any _ X hx0 hx1 _).mono ?_; rintro e w7 ⟨rfl, hK7⟩); (replace hX := Lib.hid (hX.out.kept hK7)); (replace hK := Lib.hid (hK.out.trans hK7)); clear hK7))
  exact bodyPost_ret (results_has2 rfl (w.heap.size + 2) rfl (hX.out.row _) Tryz.underlying26 rfl (A.info25 _)) rfl ⟨rfl, hK.out.row (by omega) _⟩
set_option maxRecDepth 100000 in
set_option maxHeartbeats 2000000 in
theorem rdo_2_3 (s : A.Regs) (a b c i bv cv X : Int) (u : Bool) (ha0 : 0 ≤ a) (ha1 : a < 16) (hb0 : 0 ≤ b) (hb1 : b < 16) (hc0 : 0 ≤ c) (hc1 : c < 16) (b0 : 0 ≤ bv) (b1 : bv < 4294967296) (n0 : 0 ≤ i % 4294967296) (n1 : i % 4294967296 < 4294967296) (hbv : s.r b.toNat = bv) (hcv : s.r c.toNat = cv) (hx0 : 0 ≤ X) (hx1 : X < 4294967296) (w : World)
    (HM : Hid (∀ w, Calls Tryz.prog 41 #[.agg #[.int .i64 2, .int .i64 3, .int .i64 a, .int .i64 b, .int .i64 c, .int .i64 i, .bool u]] w fun e w' => e = .returned (.bool true) ∧ Kept w w'))
    (HC : Hid (∀ w, Calls Tryz.prog 54 #[.int .i64 3, .int .u32 bv, .int .u32 (i % 4294967296)] w fun e w' => e = .returned (.int .u32 X) ∧ w = w')) :
    Calls Tryz.prog 33 #[.agg (A.cells s), .agg #[.int .i64 2, .int .i64 3, .int .i64 a, .int .i64 b, .int .i64 c, .int .i64 i, .bool u]] w fun e w' => e = .returned (.tuple #[.agg (A.cells (A.show' (A.set (s) a.toNat X) X)), .int .i64 0]) ∧ Kept w w' := by
  go_enter Tryz.func33, Tryz.ntmps33
  go_wp2_with fail
  refine (HM.out _).mono ?_; rintro e w2 ⟨rfl, hK2⟩
  have hX : Has (w.heap.size + 2) (A.cells A.none') 26 w2 := (Has.new2 _ _ _ _ _).kept hK2
  have hR : Has w.heap.size (A.cells s) 26 w2 := (((Has.new _ _ _).alloc _).alloc _).kept hK2
  have hI := ((Has.new1 _ _ _ _).alloc _).kept hK2
  have hK := ((((Kept.refl w).alloc _ _).alloc _ _).alloc _ _).trans hK2
  have hl := hX.lt
  clear hK2
  have q0 := hI.cell 0 _ rfl
  have q3 := hI.cell 3 _ rfl
  have q4 := hI.cell 4 _ rfl
  have q5 := hI.cell 5 _ rfl
  have qb := hR.cell b.toNat _ (A.cell_r s b.toNat (by omega))
  have qc := hR.cell c.toNat _ (A.cell_r s c.toNat (by omega))
  rw [hbv] at qb
  rw [hcv] at qc
  replace hX := Lib.hid hX
  replace hR := Lib.hid hR
  replace hI := Lib.hid hI
  replace hK := Lib.hid hK
  go_upto_region 14 with (first
    | (with_reducible refine load_has (o := ⟨some 48, _, _, _, _, _⟩) rfl 26 _ rfl _ rfl hR.out Tryz.underlying26 rfl (A.info25 _) ?_)
    | (with_reducible refine store_last (o := ⟨none, Op.store 26 (.tmp 9) _, _, _, _, _⟩) rfl 26 _ _ rfl _ _ rfl rfl rfl (A.info25 _) (by kernel_rfl) (A.one_cells _) ?_))
  clear q0 q3 q4 q5 qb qc
  replace hX := hX.out.alloc (.cells (A.cells s) 26)
  replace hR := hR.out.alloc (.cells (A.cells s) 26)
  replace hI := hI.out.alloc (.cells (A.cells s) 26)
  replace hK := hK.out.alloc (A.cells s) 26
  have hT := Has.new (A.cells s) 26 w2
  generalize w2.heap.size = B9 at *
  generalize w2.alloc _ = w3 at *
  have q0 := hI.cell 0 _ rfl
  have q1 := hI.cell 1 _ rfl
  have q6 := hI.cell 6 _ rfl
  have qh := hR.cell 16 _ (A.cell_h s)
  have qq := hR.cell 19 _ (A.cell_c s)
  have t16 := hT.cell 16 _ (A.cell_h s)
  have t19 := hT.cell 19 _ (A.cell_c s)
  have t20 := hT.cell 20 _ (A.cell_v s)
  have f16 := hT.free 16
  have f19 := hT.free 19
  have f20 := hT.free 20
  replace hX := Lib.hid hX
  replace hR := Lib.hid hR
  replace hI := Lib.hid hI
  replace hK := Lib.hid hK
  replace hT := Lib.hid hT
  go_upto_region 38 with (go_at_call 54; refine (HC.out _).mono ?_; rintro e w4 ⟨rfl, rfl⟩)
  clear q0 q1 q6 qh qq t16 t19 t20 f16 f19 f20
  have q2 := hI.out.cell 2 _ rfl
  have ta := hT.out.cell a.toNat _ (A.cell_r (s) a.toNat (by omega))
  have fa := hT.out.free a.toNat
  go_upto_region 39 with (fail)
  clear q2 ta fa
  replace hT := Lib.hid (hT.out.set a.toNat (.int .u32 X))
  rw [A.set_r (s) a.toNat (by omega) X] at hT
  replace hX := Lib.hid (hX.out.other (p := ⟨B9, a.toNat, none⟩) (Nat.ne_of_lt hl) (.int .u32 X))
  replace hK := Lib.hid (hK.out.setCell (p := ⟨B9, a.toNat, none⟩) (by show w.heap.size ≤ B9; omega) (.int .u32 X))
  clear hI hR
  generalize World.setCell _ _ _ = w5 at *
  go_wp2_with (first
    | (with_reducible refine load_has (o := ⟨some 194, _, _, _, _, _⟩) rfl 26 _ rfl _ rfl hT.out Tryz.underlying26 rfl (A.info25 _) ?_)
    | (with_reducible refine store_has (o := ⟨none, Op.store 26 (.tmp 4) _, _, _, _, _⟩) rfl 26 _ _ rfl _ _ rfl rfl hX.out (A.info25 _) (by kernel_rfl) (A.one_cells _) ?_)
    | (go_at_call 49; (refine (rshow_any _ X hx0 hx1 _).mono ?_; rintro e w7 ⟨rfl, hK7⟩); (replace hX := Lib.hid (hX.out.kept hK7)); (replace hK := Lib.hid (hK.out.trans hK7)); clear hK7))
  exact bodyPost_ret (results_has2 rfl (w.heap.size + 2) rfl (hX.out.row _) Tryz.underlying26 rfl (A.info25 _)) rfl ⟨rfl, hK.out.row (by omega) _⟩
set_option maxRecDepth 100000 in
set_option maxHeartbeats 2000000 in
theorem rdo_2_4 (s : A.Regs) (a b c i bv cv X : Int) (u : Bool) (ha0 : 0 ≤ a) (ha1 : a < 16) (hb0 : 0 ≤ b) (hb1 : b < 16) (hc0 : 0 ≤ c) (hc1 : c < 16) (b0 : 0 ≤ bv) (b1 : bv < 4294967296) (n0 : 0 ≤ i % 4294967296) (n1 : i % 4294967296 < 4294967296) (hbv : s.r b.toNat = bv) (hcv : s.r c.toNat = cv) (hx0 : 0 ≤ X) (hx1 : X < 4294967296) (w : World)
    (HM : Hid (∀ w, Calls Tryz.prog 41 #[.agg #[.int .i64 2, .int .i64 4, .int .i64 a, .int .i64 b, .int .i64 c, .int .i64 i, .bool u]] w fun e w' => e = .returned (.bool true) ∧ Kept w w'))
    (HE : Hid (bits BinOp.and IntKind.u32 bv (i % 4294967296) = X)) :
    Calls Tryz.prog 33 #[.agg (A.cells s), .agg #[.int .i64 2, .int .i64 4, .int .i64 a, .int .i64 b, .int .i64 c, .int .i64 i, .bool u]] w fun e w' => e = .returned (.tuple #[.agg (A.cells (A.show' (A.set (s) a.toNat X) X)), .int .i64 0]) ∧ Kept w w' := by
  go_enter Tryz.func33, Tryz.ntmps33
  go_wp2_with fail
  refine (HM.out _).mono ?_; rintro e w2 ⟨rfl, hK2⟩
  have hX : Has (w.heap.size + 2) (A.cells A.none') 26 w2 := (Has.new2 _ _ _ _ _).kept hK2
  have hR : Has w.heap.size (A.cells s) 26 w2 := (((Has.new _ _ _).alloc _).alloc _).kept hK2
  have hI := ((Has.new1 _ _ _ _).alloc _).kept hK2
  have hK := ((((Kept.refl w).alloc _ _).alloc _ _).alloc _ _).trans hK2
  have hl := hX.lt
  clear hK2
  have q0 := hI.cell 0 _ rfl
  have q3 := hI.cell 3 _ rfl
  have q4 := hI.cell 4 _ rfl
  have q5 := hI.cell 5 _ rfl
  have qb := hR.cell b.toNat _ (A.cell_r s b.toNat (by omega))
  have qc := hR.cell c.toNat _ (A.cell_r s c.toNat (by omega))
  rw [hbv] at qb
  rw [hcv] at qc
  replace hX := Lib.hid hX
  replace hR := Lib.hid hR
  replace hI := Lib.hid hI
  replace hK := Lib.hid hK
  go_upto_region 14 with (first
    | (with_reducible refine load_has (o := ⟨some 48, _, _, _, _, _⟩) rfl 26 _ rfl _ rfl hR.out Tryz.underlying26 rfl (A.info25 _) ?_)
    | (with_reducible refine store_last (o := ⟨none, Op.store 26 (.tmp 9) _, _, _, _, _⟩) rfl 26 _ _ rfl _ _ rfl rfl rfl (A.info25 _) (by kernel_rfl) (A.one_cells _) ?_))
  clear q0 q3 q4 q5 qb qc
  replace hX := hX.out.alloc (.cells (A.cells s) 26)
  replace hR := hR.out.alloc (.cells (A.cells s) 26)
  replace hI := hI.out.alloc (.cells (A.cells s) 26)
  replace hK := hK.out.alloc (A.cells s) 26
  have hT := Has.new (A.cells s) 26 w2
  generalize w2.heap.size = B9 at *
  generalize w2.alloc _ = w3 at *
  have q0 := hI.cell 0 _ rfl
  have q1 := hI.cell 1 _ rfl
  have q6 := hI.cell 6 _ rfl
  have qh := hR.cell 16 _ (A.cell_h s)
  have qq := hR.cell 19 _ (A.cell_c s)
  have t16 := hT.cell 16 _ (A.cell_h s)
  have t19 := hT.cell 19 _ (A.cell_c s)
  have t20 := hT.cell 20 _ (A.cell_v s)
  have f16 := hT.free 16
  have f19 := hT.free 19
  have f20 := hT.free 20
  replace hX := Lib.hid hX
  replace hR := Lib.hid hR
  replace hI := Lib.hid hI
  replace hK := Lib.hid hK
  replace hT := Lib.hid hT
  go_upto_region 38 with (fail)
  rw [HE.out]
  clear q0 q1 q6 qh qq t16 t19 t20 f16 f19 f20
  have q2 := hI.out.cell 2 _ rfl
  have ta := hT.out.cell a.toNat _ (A.cell_r (s) a.toNat (by omega))
  have fa := hT.out.free a.toNat
  go_upto_region 39 with (fail)
  clear q2 ta fa
  replace hT := Lib.hid (hT.out.set a.toNat (.int .u32 X))
  rw [A.set_r (s) a.toNat (by omega) X] at hT
  replace hX := Lib.hid (hX.out.other (p := ⟨B9, a.toNat, none⟩) (Nat.ne_of_lt hl) (.int .u32 X))
  replace hK := Lib.hid (hK.out.setCell (p := ⟨B9, a.toNat, none⟩) (by show w.heap.size ≤ B9; omega) (.int .u32 X))
  clear hI hR
  generalize World.setCell _ _ _ = w5 at *
  go_wp2_with (first
    | (with_reducible refine load_has (o := ⟨some 194, _, _, _, _, _⟩) rfl 26 _ rfl _ rfl hT.out Tryz.underlying26 rfl (A.info25 _) ?_)
    | (with_reducible refine store_has (o := ⟨none, Op.store 26 (.tmp 4) _, _, _, _, _⟩) rfl 26 _ _ rfl _ _ rfl rfl hX.out (A.info25 _) (by kernel_rfl) (A.one_cells _) ?_)
    | (go_at_call 49; (refine (rshow_any _ X hx0 hx1 _).mono ?_; rintro e w7 ⟨rfl, hK7⟩); (replace hX := Lib.hid (hX.out.kept hK7)); (replace hK := Lib.hid (hK.out.trans hK7)); clear hK7))
  exact bodyPost_ret (results_has2 rfl (w.heap.size + 2) rfl (hX.out.row _) Tryz.underlying26 rfl (A.info25 _)) rfl ⟨rfl, hK.out.row (by omega) _⟩
set_option maxRecDepth 100000 in
set_option maxHeartbeats 2000000 in
theorem rdo_2_5 (s : A.Regs) (a b c i bv cv X : Int) (u : Bool) (ha0 : 0 ≤ a) (ha1 : a < 16) (hb0 : 0 ≤ b) (hb1 : b < 16) (hc0 : 0 ≤ c) (hc1 : c < 16) (b0 : 0 ≤ bv) (b1 : bv < 4294967296) (n0 : 0 ≤ i % 4294967296) (n1 : i % 4294967296 < 4294967296) (hbv : s.r b.toNat = bv) (hcv : s.r c.toNat = cv) (hx0 : 0 ≤ X) (hx1 : X < 4294967296) (w : World)
    (HM : Hid (∀ w, Calls Tryz.prog 41 #[.agg #[.int .i64 2, .int .i64 5, .int .i64 a, .int .i64 b, .int .i64 c, .int .i64 i, .bool u]] w fun e w' => e = .returned (.bool true) ∧ Kept w w'))
    (HE : Hid (bits BinOp.and IntKind.u32 bv (4294967295 - (i % 4294967296)) = X)) :
    Calls Tryz.prog 33 #[.agg (A.cells s), .agg #[.int .i64 2, .int .i64 5, .int .i64 a, .int .i64 b, .int .i64 c, .int .i64 i, .bool u]] w fun e w' => e = .returned (.tuple #[.agg (A.cells (A.show' (A.set (s) a.toNat X) X)), .int .i64 0]) ∧ Kept w w' := by
  go_enter Tryz.func33, Tryz.ntmps33
  go_wp2_with fail
  refine (HM.out _).mono ?_; rintro e w2 ⟨rfl, hK2⟩
  have hX : Has (w.heap.size + 2) (A.cells A.none') 26 w2 := (Has.new2 _ _ _ _ _).kept hK2
  have hR : Has w.heap.size (A.cells s) 26 w2 := (((Has.new _ _ _).alloc _).alloc _).kept hK2
  have hI := ((Has.new1 _ _ _ _).alloc _).kept hK2
  have hK := ((((Kept.refl w).alloc _ _).alloc _ _).alloc _ _).trans hK2
  have hl := hX.lt
  clear hK2
  have q0 := hI.cell 0 _ rfl
  have q3 := hI.cell 3 _ rfl
  have q4 := hI.cell 4 _ rfl
  have q5 := hI.cell 5 _ rfl
  have qb := hR.cell b.toNat _ (A.cell_r s b.toNat (by omega))
  have qc := hR.cell c.toNat _ (A.cell_r s c.toNat (by omega))
  rw [hbv] at qb
  rw [hcv] at qc
  replace hX := Lib.hid hX
  replace hR := Lib.hid hR
  replace hI := Lib.hid hI
  replace hK := Lib.hid hK
  go_upto_region 14 with (first
    | (with_reducible refine load_has (o := ⟨some 48, _, _, _, _, _⟩) rfl 26 _ rfl _ rfl hR.out Tryz.underlying26 rfl (A.info25 _) ?_)
    | (with_reducible refine store_last (o := ⟨none, Op.store 26 (.tmp 9) _, _, _, _, _⟩) rfl 26 _ _ rfl _ _ rfl rfl rfl (A.info25 _) (by kernel_rfl) (A.one_cells _) ?_))
  clear q0 q3 q4 q5 qb qc
  replace hX := hX.out.alloc (.cells (A.cells s) 26)
  replace hR := hR.out.alloc (.cells (A.cells s) 26)
  replace hI := hI.out.alloc (.cells (A.cells s) 26)
  replace hK := hK.out.alloc (A.cells s) 26
  have hT := Has.new (A.cells s) 26 w2
  generalize w2.heap.size = B9 at *
  generalize w2.alloc _ = w3 at *
  have q0 := hI.cell 0 _ rfl
  have q1 := hI.cell 1 _ rfl
  have q6 := hI.cell 6 _ rfl
  have qh := hR.cell 16 _ (A.cell_h s)
  have qq := hR.cell 19 _ (A.cell_c s)
  have t16 := hT.cell 16 _ (A.cell_h s)
  have t19 := hT.cell 19 _ (A.cell_c s)
  have t20 := hT.cell 20 _ (A.cell_v s)
  have f16 := hT.free 16
  have f19 := hT.free 19
  have f20 := hT.free 20
  replace hX := Lib.hid hX
  replace hR := Lib.hid hR
  replace hI := Lib.hid hI
  replace hK := Lib.hid hK
  replace hT := Lib.hid hT
  go_upto_region 38 with (fail)
  rw [HE.out]
  clear q0 q1 q6 qh qq t16 t19 t20 f16 f19 f20
  have q2 := hI.out.cell 2 _ rfl
  have ta := hT.out.cell a.toNat _ (A.cell_r (s) a.toNat (by omega))
  have fa := hT.out.free a.toNat
  go_upto_region 39 with (fail)
  clear q2 ta fa
  replace hT := Lib.hid (hT.out.set a.toNat (.int .u32 X))
  rw [A.set_r (s) a.toNat (by omega) X] at hT
  replace hX := Lib.hid (hX.out.other (p := ⟨B9, a.toNat, none⟩) (Nat.ne_of_lt hl) (.int .u32 X))
  replace hK := Lib.hid (hK.out.setCell (p := ⟨B9, a.toNat, none⟩) (by show w.heap.size ≤ B9; omega) (.int .u32 X))
  clear hI hR
  generalize World.setCell _ _ _ = w5 at *
  go_wp2_with (first
    | (with_reducible refine load_has (o := ⟨some 194, _, _, _, _, _⟩) rfl 26 _ rfl _ rfl hT.out Tryz.underlying26 rfl (A.info25 _) ?_)
    | (with_reducible refine store_has (o := ⟨none, Op.store 26 (.tmp 4) _, _, _, _, _⟩) rfl 26 _ _ rfl _ _ rfl rfl hX.out (A.info25 _) (by kernel_rfl) (A.one_cells _) ?_)
    | (go_at_call 49; (refine (rshow_any _ X hx0 hx1 _).mono ?_; rintro e w7 ⟨rfl, hK7⟩); (replace hX := Lib.hid (hX.out.kept hK7)); (replace hK := Lib.hid (hK.out.trans hK7)); clear hK7))
  exact bodyPost_ret (results_has2 rfl (w.heap.size + 2) rfl (hX.out.row _) Tryz.underlying26 rfl (A.info25 _)) rfl ⟨rfl, hK.out.row (by omega) _⟩
set_option maxRecDepth 100000 in
set_option maxHeartbeats 2000000 in
theorem rdo_2_6 (s : A.Regs) (a b c i bv cv X : Int) (u : Bool) (ha0 : 0 ≤ a) (ha1 : a < 16) (hb0 : 0 ≤ b) (hb1 : b < 16) (hc0 : 0 ≤ c) (hc1 : c < 16) (b0 : 0 ≤ bv) (b1 : bv < 4294967296) (n0 : 0 ≤ i % 4294967296) (n1 : i % 4294967296 < 4294967296) (hbv : s.r b.toNat = bv) (hcv : s.r c.toNat = cv) (hx0 : 0 ≤ X) (hx1 : X < 4294967296) (w : World)
    (HM : Hid (∀ w, Calls Tryz.prog 41 #[.agg #[.int .i64 2, .int .i64 6, .int .i64 a, .int .i64 b, .int .i64 c, .int .i64 i, .bool u]] w fun e w' => e = .returned (.bool true) ∧ Kept w w'))
    (HE : Hid (bits BinOp.or IntKind.u32 bv (i % 4294967296) = X)) :
    Calls Tryz.prog 33 #[.agg (A.cells s), .agg #[.int .i64 2, .int .i64 6, .int .i64 a, .int .i64 b, .int .i64 c, .int .i64 i, .bool u]] w fun e w' => e = .returned (.tuple #[.agg (A.cells (A.show' (A.set (s) a.toNat X) X)), .int .i64 0]) ∧ Kept w w' := by
  go_enter Tryz.func33, Tryz.ntmps33
  go_wp2_with fail
  refine (HM.out _).mono ?_; rintro e w2 ⟨rfl, hK2⟩
  have hX : Has (w.heap.size + 2) (A.cells A.none') 26 w2 := (Has.new2 _ _ _ _ _).kept hK2
  have hR : Has w.heap.size (A.cells s) 26 w2 := (((Has.new _ _ _).alloc _).alloc _).kept hK2
  have hI := ((Has.new1 _ _ _ _).alloc _).kept hK2
  have hK := ((((Kept.refl w).alloc _ _).alloc _ _).alloc _ _).trans hK2
  have hl := hX.lt
  clear hK2
  have q0 := hI.cell 0 _ rfl
  have q3 := hI.cell 3 _ rfl
  have q4 := hI.cell 4 _ rfl
  have q5 := hI.cell 5 _ rfl
  have qb := hR.cell b.toNat _ (A.cell_r s b.toNat (by omega))
  have qc := hR.cell c.toNat _ (A.cell_r s c.toNat (by omega))
  rw [hbv] at qb
  rw [hcv] at qc
  replace hX := Lib.hid hX
  replace hR := Lib.hid hR
  replace hI := Lib.hid hI
  replace hK := Lib.hid hK
  go_upto_region 14 with (first
    | (with_reducible refine load_has (o := ⟨some 48, _, _, _, _, _⟩) rfl 26 _ rfl _ rfl hR.out Tryz.underlying26 rfl (A.info25 _) ?_)
    | (with_reducible refine store_last (o := ⟨none, Op.store 26 (.tmp 9) _, _, _, _, _⟩) rfl 26 _ _ rfl _ _ rfl rfl rfl (A.info25 _) (by kernel_rfl) (A.one_cells _) ?_))
  clear q0 q3 q4 q5 qb qc
  replace hX := hX.out.alloc (.cells (A.cells s) 26)
  replace hR := hR.out.alloc (.cells (A.cells s) 26)
  replace hI := hI.out.alloc (.cells (A.cells s) 26)
  replace hK := hK.out.alloc (A.cells s) 26
  have hT := Has.new (A.cells s) 26 w2
  generalize w2.heap.size = B9 at *
  generalize w2.alloc _ = w3 at *
  have q0 := hI.cell 0 _ rfl
  have q1 := hI.cell 1 _ rfl
  have q6 := hI.cell 6 _ rfl
  have qh := hR.cell 16 _ (A.cell_h s)
  have qq := hR.cell 19 _ (A.cell_c s)
  have t16 := hT.cell 16 _ (A.cell_h s)
  have t19 := hT.cell 19 _ (A.cell_c s)
  have t20 := hT.cell 20 _ (A.cell_v s)
  have f16 := hT.free 16
  have f19 := hT.free 19
  have f20 := hT.free 20
  replace hX := Lib.hid hX
  replace hR := Lib.hid hR
  replace hI := Lib.hid hI
  replace hK := Lib.hid hK
  replace hT := Lib.hid hT
  go_upto_region 38 with (fail)
  rw [HE.out]
  clear q0 q1 q6 qh qq t16 t19 t20 f16 f19 f20
  have q2 := hI.out.cell 2 _ rfl
  have ta := hT.out.cell a.toNat _ (A.cell_r (s) a.toNat (by omega))
  have fa := hT.out.free a.toNat
  go_upto_region 39 with (fail)
  clear q2 ta fa
  replace hT := Lib.hid (hT.out.set a.toNat (.int .u32 X))
  rw [A.set_r (s) a.toNat (by omega) X] at hT
  replace hX := Lib.hid (hX.out.other (p := ⟨B9, a.toNat, none⟩) (Nat.ne_of_lt hl) (.int .u32 X))
  replace hK := Lib.hid (hK.out.setCell (p := ⟨B9, a.toNat, none⟩) (by show w.heap.size ≤ B9; omega) (.int .u32 X))
  clear hI hR
  generalize World.setCell _ _ _ = w5 at *
  go_wp2_with (first
    | (with_reducible refine load_has (o := ⟨some 194, _, _, _, _, _⟩) rfl 26 _ rfl _ rfl hT.out Tryz.underlying26 rfl (A.info25 _) ?_)
    | (with_reducible refine store_has (o := ⟨none, Op.store 26 (.tmp 4) _, _, _, _, _⟩) rfl 26 _ _ rfl _ _ rfl rfl hX.out (A.info25 _) (by kernel_rfl) (A.one_cells _) ?_)
    | (go_at_call 49; (refine (rshow_any _ X hx0 hx1 _).mono ?_; rintro e w7 ⟨rfl, hK7⟩); (replace hX := Lib.hid (hX.out.kept hK7)); (replace hK := Lib.hid (hK.out.trans hK7)); clear hK7))
  exact bodyPost_ret (results_has2 rfl (w.heap.size + 2) rfl (hX.out.row _) Tryz.underlying26 rfl (A.info25 _)) rfl ⟨rfl, hK.out.row (by omega) _⟩
set_option maxRecDepth 100000 in
set_option maxHeartbeats 2000000 in
theorem rdo_2_7 (s : A.Regs) (a b c i bv cv X : Int) (u : Bool) (ha0 : 0 ≤ a) (ha1 : a < 16) (hb0 : 0 ≤ b) (hb1 : b < 16) (hc0 : 0 ≤ c) (hc1 : c < 16) (b0 : 0 ≤ bv) (b1 : bv < 4294967296) (n0 : 0 ≤ i % 4294967296) (n1 : i % 4294967296 < 4294967296) (hbv : s.r b.toNat = bv) (hcv : s.r c.toNat = cv) (hx0 : 0 ≤ X) (hx1 : X < 4294967296) (w : World)
    (HM : Hid (∀ w, Calls Tryz.prog 41 #[.agg #[.int .i64 2, .int .i64 7, .int .i64 a, .int .i64 b, .int .i64 c, .int .i64 i, .bool u]] w fun e w' => e = .returned (.bool true) ∧ Kept w w'))
    (HE : Hid ((bits BinOp.or IntKind.u32 bv (i % 4294967296) - bits BinOp.and IntKind.u32 bv (i % 4294967296)) % 4294967296 = X)) :
    Calls Tryz.prog 33 #[.agg (A.cells s), .agg #[.int .i64 2, .int .i64 7, .int .i64 a, .int .i64 b, .int .i64 c, .int .i64 i, .bool u]] w fun e w' => e = .returned (.tuple #[.agg (A.cells (A.show' (A.set (s) a.toNat X) X)), .int .i64 0]) ∧ Kept w w' := by
  go_enter Tryz.func33, Tryz.ntmps33
  go_wp2_with fail
  refine (HM.out _).mono ?_; rintro e w2 ⟨rfl, hK2⟩
  have hX : Has (w.heap.size + 2) (A.cells A.none') 26 w2 := (Has.new2 _ _ _ _ _).kept hK2
  have hR : Has w.heap.size (A.cells s) 26 w2 := (((Has.new _ _ _).alloc _).alloc _).kept hK2
  have hI := ((Has.new1 _ _ _ _).alloc _).kept hK2
  have hK := ((((Kept.refl w).alloc _ _).alloc _ _).alloc _ _).trans hK2
  have hl := hX.lt
  clear hK2
  have q0 := hI.cell 0 _ rfl
  have q3 := hI.cell 3 _ rfl
  have q4 := hI.cell 4 _ rfl
  have q5 := hI.cell 5 _ rfl
  have qb := hR.cell b.toNat _ (A.cell_r s b.toNat (by omega))
  have qc := hR.cell c.toNat _ (A.cell_r s c.toNat (by omega))
  rw [hbv] at qb
  rw [hcv] at qc
  replace hX := Lib.hid hX
  replace hR := Lib.hid hR
  replace hI := Lib.hid hI
  replace hK := Lib.hid hK
  go_upto_region 14 with (first
    | (with_reducible refine load_has (o := ⟨some 48, _, _, _, _, _⟩) rfl 26 _ rfl _ rfl hR.out Tryz.underlying26 rfl (A.info25 _) ?_)
    | (with_reducible refine store_last (o := ⟨none, Op.store 26 (.tmp 9) _, _, _, _, _⟩) rfl 26 _ _ rfl _ _ rfl rfl rfl (A.info25 _) (by kernel_rfl) (A.one_cells _) ?_))
  clear q0 q3 q4 q5 qb qc
  replace hX := hX.out.alloc (.cells (A.cells s) 26)
  replace hR := hR.out.alloc (.cells (A.cells s) 26)
  replace hI := hI.out.alloc (.cells (A.cells s) 26)
  replace hK := hK.out.alloc (A.cells s) 26
  have hT := Has.new (A.cells s) 26 w2
  generalize w2.heap.size = B9 at *
  generalize w2.alloc _ = w3 at *
  have q0 := hI.cell 0 _ rfl
  have q1 := hI.cell 1 _ rfl
  have q6 := hI.cell 6 _ rfl
  have qh := hR.cell 16 _ (A.cell_h s)
  have qq := hR.cell 19 _ (A.cell_c s)
  have t16 := hT.cell 16 _ (A.cell_h s)
  have t19 := hT.cell 19 _ (A.cell_c s)
  have t20 := hT.cell 20 _ (A.cell_v s)
  have f16 := hT.free 16
  have f19 := hT.free 19
  have f20 := hT.free 20
  replace hX := Lib.hid hX
  replace hR := Lib.hid hR
  replace hI := Lib.hid hI
  replace hK := Lib.hid hK
  replace hT := Lib.hid hT
  go_upto_region 38 with (fail)
  rw [HE.out]
  clear q0 q1 q6 qh qq t16 t19 t20 f16 f19 f20
  have q2 := hI.out.cell 2 _ rfl
  have ta := hT.out.cell a.toNat _ (A.cell_r (s) a.toNat (by omega))
  have fa := hT.out.free a.toNat
  go_upto_region 39 with (fail)
  clear q2 ta fa
  replace hT := Lib.hid (hT.out.set a.toNat (.int .u32 X))
  rw [A.set_r (s) a.toNat (by omega) X] at hT
  replace hX := Lib.hid (hX.out.other (p := ⟨B9, a.toNat, none⟩) (Nat.ne_of_lt hl) (.int .u32 X))
  replace hK := Lib.hid (hK.out.setCell (p := ⟨B9, a.toNat, none⟩) (by show w.heap.size ≤ B9; omega) (.int .u32 X))
  clear hI hR
  generalize World.setCell _ _ _ = w5 at *
  go_wp2_with (first
    | (with_reducible refine load_has (o := ⟨some 194, _, _, _, _, _⟩) rfl 26 _ rfl _ rfl hT.out Tryz.underlying26 rfl (A.info25 _) ?_)
    | (with_reducible refine store_has (o := ⟨none, Op.store 26 (.tmp 4) _, _, _, _, _⟩) rfl 26 _ _ rfl _ _ rfl rfl hX.out (A.info25 _) (by kernel_rfl) (A.one_cells _) ?_)
    | (go_at_call 49; (refine (rshow_any _ X hx0 hx1 _).mono ?_; rintro e w7 ⟨rfl, hK7⟩); (replace hX := Lib.hid (hX.out.kept hK7)); (replace hK := Lib.hid (hK.out.trans hK7)); clear hK7))
  exact bodyPost_ret (results_has2 rfl (w.heap.size + 2) rfl (hX.out.row _) Tryz.underlying26 rfl (A.info25 _)) rfl ⟨rfl, hK.out.row (by omega) _⟩
end Go.Proofs.YtlmddkciamdldaaGreat

/-
  The contract of the document's Do, of a register and a number, the rest.
-/
namespace Go.Proofs.YtlmddkciamdldaaGreat
open Go.RowKit
set_option linter.unusedVariables false
set_option linter.unusedSimpArgs false
set_option maxRecDepth 100000
set_option maxRecDepth 100000 in
set_option maxHeartbeats 2000000 in
theorem rdo_2_8t (s : A.Regs) (a b c i bv cv X : Int) (C V : Bool) (ha0 : 0 ≤ a) (ha1 : a < 16) (hb0 : 0 ≤ b) (hb1 : b < 16) (hc0 : 0 ≤ c) (hc1 : c < 16) (b0 : 0 ≤ bv) (b1 : bv < 4294967296) (n0 : 0 ≤ i % 4294967296) (n1 : i % 4294967296 < 4294967296) (hbv : s.r b.toNat = bv) (hcv : s.r c.toNat = cv) (hx0 : 0 ≤ X) (hx1 : X < 4294967296) (w : World)
    (HM : Hid (∀ w, Calls Tryz.prog 41 #[.agg #[.int .i64 2, .int .i64 8, .int .i64 a, .int .i64 b, .int .i64 c, .int .i64 i, .bool true]] w fun e w' => e = .returned (.bool true) ∧ Kept w w'))
    (HC : Hid (∀ w, Calls Tryz.prog 55 #[.int .u32 bv, .int .u32 (i % 4294967296), .bool s.c] w fun e w' => e = .returned (.tuple #[.int .u32 X, .bool C, .bool V]) ∧ w = w')) :
    Calls Tryz.prog 33 #[.agg (A.cells s), .agg #[.int .i64 2, .int .i64 8, .int .i64 a, .int .i64 b, .int .i64 c, .int .i64 i, .bool true]] w fun e w' => e = .returned (.tuple #[.agg (A.cells (A.show' (A.set (A.setV (A.setC s C) V) a.toNat X) X)), .int .i64 0]) ∧ Kept w w' := by
  go_enter Tryz.func33, Tryz.ntmps33
  go_wp2_with fail
  refine (HM.out _).mono ?_; rintro e w2 ⟨rfl, hK2⟩
  have hX : Has (w.heap.size + 2) (A.cells A.none') 26 w2 := (Has.new2 _ _ _ _ _).kept hK2
  have hR : Has w.heap.size (A.cells s) 26 w2 := (((Has.new _ _ _).alloc _).alloc _).kept hK2
  have hI := ((Has.new1 _ _ _ _).alloc _).kept hK2
  have hK := ((((Kept.refl w).alloc _ _).alloc _ _).alloc _ _).trans hK2
  have hl := hX.lt
  clear hK2
  have q0 := hI.cell 0 _ rfl
  have q3 := hI.cell 3 _ rfl
  have q4 := hI.cell 4 _ rfl
  have q5 := hI.cell 5 _ rfl
  have qb := hR.cell b.toNat _ (A.cell_r s b.toNat (by omega))
  have qc := hR.cell c.toNat _ (A.cell_r s c.toNat (by omega))
  rw [hbv] at qb
  rw [hcv] at qc
  replace hX := Lib.hid hX
  replace hR := Lib.hid hR
  replace hI := Lib.hid hI
  replace hK := Lib.hid hK
  go_upto_region 14 with (first
    | (with_reducible refine load_has (o := ⟨some 48, _, _, _, _, _⟩) rfl 26 _ rfl _ rfl hR.out Tryz.underlying26 rfl (A.info25 _) ?_)
    | (with_reducible refine store_last (o := ⟨none, Op.store 26 (.tmp 9) _, _, _, _, _⟩) rfl 26 _ _ rfl _ _ rfl rfl rfl (A.info25 _) (by kernel_rfl) (A.one_cells _) ?_))
  clear q0 q3 q4 q5 qb qc
  replace hX := hX.out.alloc (.cells (A.cells s) 26)
  replace hR := hR.out.alloc (.cells (A.cells s) 26)
  replace hI := hI.out.alloc (.cells (A.cells s) 26)
  replace hK := hK.out.alloc (A.cells s) 26
  have hT := Has.new (A.cells s) 26 w2
  generalize w2.heap.size = B9 at *
  generalize w2.alloc _ = w3 at *
  have q0 := hI.cell 0 _ rfl
  have q1 := hI.cell 1 _ rfl
  have q6 := hI.cell 6 _ rfl
  have qh := hR.cell 16 _ (A.cell_h s)
  have qq := hR.cell 19 _ (A.cell_c s)
  have t16 := hT.cell 16 _ (A.cell_h s)
  have t19 := hT.cell 19 _ (A.cell_c s)
  have t20 := hT.cell 20 _ (A.cell_v s)
  have f16 := hT.free 16
  have f19 := hT.free 19
  have f20 := hT.free 20
  replace hX := Lib.hid hX
  replace hR := Lib.hid hR
  replace hI := Lib.hid hI
  replace hK := Lib.hid hK
  replace hT := Lib.hid hT
  go_upto_region 38 with (go_at_call 55; refine (HC.out _).mono ?_; rintro e w4 ⟨rfl, rfl⟩)
  clear q0 q1 q6 qh qq t16 t19 t20 f16 f19 f20
  replace hT := Lib.hid (hT.out.set 19 (.bool C))
  rw [A.set_c] at hT
  replace hX := Lib.hid (hX.out.other (p := ⟨B9, 19, none⟩) (Nat.ne_of_lt hl) (.bool C))
  replace hI := Lib.hid (hI.out.other (p := ⟨B9, 19, none⟩) (Nat.ne_of_lt (by show w.heap.size + 1 < B9; omega)) (.bool C))
  replace hK := Lib.hid (hK.out.setCell (p := ⟨B9, 19, none⟩) (by show w.heap.size ≤ B9; omega) (.bool C))
  replace hT := Lib.hid (hT.out.set 20 (.bool V))
  rw [A.set_v] at hT
  replace hX := Lib.hid (hX.out.other (p := ⟨B9, 20, none⟩) (Nat.ne_of_lt hl) (.bool V))
  replace hI := Lib.hid (hI.out.other (p := ⟨B9, 20, none⟩) (Nat.ne_of_lt (by show w.heap.size + 1 < B9; omega)) (.bool V))
  replace hK := Lib.hid (hK.out.setCell (p := ⟨B9, 20, none⟩) (by show w.heap.size ≤ B9; omega) (.bool V))
  generalize World.setCell _ _ _ = w4 at *
  have q2 := hI.out.cell 2 _ rfl
  have ta := hT.out.cell a.toNat _ (A.cell_r (A.setV (A.setC s C) V) a.toNat (by omega))
  have fa := hT.out.free a.toNat
  go_upto_region 39 with (fail)
  clear q2 ta fa
  replace hT := Lib.hid (hT.out.set a.toNat (.int .u32 X))
  rw [A.set_r (A.setV (A.setC s C) V) a.toNat (by omega) X] at hT
  replace hX := Lib.hid (hX.out.other (p := ⟨B9, a.toNat, none⟩) (Nat.ne_of_lt hl) (.int .u32 X))
  replace hK := Lib.hid (hK.out.setCell (p := ⟨B9, a.toNat, none⟩) (by show w.heap.size ≤ B9; omega) (.int .u32 X))
  clear hI hR
  generalize World.setCell _ _ _ = w5 at *
  go_wp2_with (first
    | (with_reducible refine load_has (o := ⟨some 194, _, _, _, _, _⟩) rfl 26 _ rfl _ rfl hT.out Tryz.underlying26 rfl (A.info25 _) ?_)
    | (with_reducible refine store_has (o := ⟨none, Op.store 26 (.tmp 4) _, _, _, _, _⟩) rfl 26 _ _ rfl _ _ rfl rfl hX.out (A.info25 _) (by kernel_rfl) (A.one_cells _) ?_)
    | (go_at_call 49; (refine (rshow_any _ X hx0 hx1 _).mono ?_; rintro e w7 ⟨rfl, hK7⟩); (replace hX := Lib.hid (hX.out.kept hK7)); (replace hK := Lib.hid (hK.out.trans hK7)); clear hK7))
  exact bodyPost_ret (results_has2 rfl (w.heap.size + 2) rfl (hX.out.row _) Tryz.underlying26 rfl (A.info25 _)) rfl ⟨rfl, hK.out.row (by omega) _⟩
set_option maxRecDepth 100000 in
set_option maxHeartbeats 2000000 in
theorem rdo_2_8f (s : A.Regs) (a b c i bv cv X : Int) (C V : Bool) (ha0 : 0 ≤ a) (ha1 : a < 16) (hb0 : 0 ≤ b) (hb1 : b < 16) (hc0 : 0 ≤ c) (hc1 : c < 16) (b0 : 0 ≤ bv) (b1 : bv < 4294967296) (n0 : 0 ≤ i % 4294967296) (n1 : i % 4294967296 < 4294967296) (hbv : s.r b.toNat = bv) (hcv : s.r c.toNat = cv) (hx0 : 0 ≤ X) (hx1 : X < 4294967296) (w : World)
    (HM : Hid (∀ w, Calls Tryz.prog 41 #[.agg #[.int .i64 2, .int .i64 8, .int .i64 a, .int .i64 b, .int .i64 c, .int .i64 i, .bool false]] w fun e w' => e = .returned (.bool true) ∧ Kept w w'))
    (HC : Hid (∀ w, Calls Tryz.prog 55 #[.int .u32 bv, .int .u32 (i % 4294967296), .bool false] w fun e w' => e = .returned (.tuple #[.int .u32 X, .bool C, .bool V]) ∧ w = w')) :
    Calls Tryz.prog 33 #[.agg (A.cells s), .agg #[.int .i64 2, .int .i64 8, .int .i64 a, .int .i64 b, .int .i64 c, .int .i64 i, .bool false]] w fun e w' => e = .returned (.tuple #[.agg (A.cells (A.show' (A.set (A.setV (A.setC s C) V) a.toNat X) X)), .int .i64 0]) ∧ Kept w w' := by
  go_enter Tryz.func33, Tryz.ntmps33
  go_wp2_with fail
  refine (HM.out _).mono ?_; rintro e w2 ⟨rfl, hK2⟩
  have hX : Has (w.heap.size + 2) (A.cells A.none') 26 w2 := (Has.new2 _ _ _ _ _).kept hK2
  have hR : Has w.heap.size (A.cells s) 26 w2 := (((Has.new _ _ _).alloc _).alloc _).kept hK2
  have hI := ((Has.new1 _ _ _ _).alloc _).kept hK2
  have hK := ((((Kept.refl w).alloc _ _).alloc _ _).alloc _ _).trans hK2
  have hl := hX.lt
  clear hK2
  have q0 := hI.cell 0 _ rfl
  have q3 := hI.cell 3 _ rfl
  have q4 := hI.cell 4 _ rfl
  have q5 := hI.cell 5 _ rfl
  have qb := hR.cell b.toNat _ (A.cell_r s b.toNat (by omega))
  have qc := hR.cell c.toNat _ (A.cell_r s c.toNat (by omega))
  rw [hbv] at qb
  rw [hcv] at qc
  replace hX := Lib.hid hX
  replace hR := Lib.hid hR
  replace hI := Lib.hid hI
  replace hK := Lib.hid hK
  go_upto_region 14 with (first
    | (with_reducible refine load_has (o := ⟨some 48, _, _, _, _, _⟩) rfl 26 _ rfl _ rfl hR.out Tryz.underlying26 rfl (A.info25 _) ?_)
    | (with_reducible refine store_last (o := ⟨none, Op.store 26 (.tmp 9) _, _, _, _, _⟩) rfl 26 _ _ rfl _ _ rfl rfl rfl (A.info25 _) (by kernel_rfl) (A.one_cells _) ?_))
  clear q0 q3 q4 q5 qb qc
  replace hX := hX.out.alloc (.cells (A.cells s) 26)
  replace hR := hR.out.alloc (.cells (A.cells s) 26)
  replace hI := hI.out.alloc (.cells (A.cells s) 26)
  replace hK := hK.out.alloc (A.cells s) 26
  have hT := Has.new (A.cells s) 26 w2
  generalize w2.heap.size = B9 at *
  generalize w2.alloc _ = w3 at *
  have q0 := hI.cell 0 _ rfl
  have q1 := hI.cell 1 _ rfl
  have q6 := hI.cell 6 _ rfl
  have qh := hR.cell 16 _ (A.cell_h s)
  have qq := hR.cell 19 _ (A.cell_c s)
  have t16 := hT.cell 16 _ (A.cell_h s)
  have t19 := hT.cell 19 _ (A.cell_c s)
  have t20 := hT.cell 20 _ (A.cell_v s)
  have f16 := hT.free 16
  have f19 := hT.free 19
  have f20 := hT.free 20
  replace hX := Lib.hid hX
  replace hR := Lib.hid hR
  replace hI := Lib.hid hI
  replace hK := Lib.hid hK
  replace hT := Lib.hid hT
  go_upto_region 38 with (go_at_call 55; refine (HC.out _).mono ?_; rintro e w4 ⟨rfl, rfl⟩)
  clear q0 q1 q6 qh qq t16 t19 t20 f16 f19 f20
  replace hT := Lib.hid (hT.out.set 19 (.bool C))
  rw [A.set_c] at hT
  replace hX := Lib.hid (hX.out.other (p := ⟨B9, 19, none⟩) (Nat.ne_of_lt hl) (.bool C))
  replace hI := Lib.hid (hI.out.other (p := ⟨B9, 19, none⟩) (Nat.ne_of_lt (by show w.heap.size + 1 < B9; omega)) (.bool C))
  replace hK := Lib.hid (hK.out.setCell (p := ⟨B9, 19, none⟩) (by show w.heap.size ≤ B9; omega) (.bool C))
  replace hT := Lib.hid (hT.out.set 20 (.bool V))
  rw [A.set_v] at hT
  replace hX := Lib.hid (hX.out.other (p := ⟨B9, 20, none⟩) (Nat.ne_of_lt hl) (.bool V))
  replace hI := Lib.hid (hI.out.other (p := ⟨B9, 20, none⟩) (Nat.ne_of_lt (by show w.heap.size + 1 < B9; omega)) (.bool V))
  replace hK := Lib.hid (hK.out.setCell (p := ⟨B9, 20, none⟩) (by show w.heap.size ≤ B9; omega) (.bool V))
  generalize World.setCell _ _ _ = w4 at *
  have q2 := hI.out.cell 2 _ rfl
  have ta := hT.out.cell a.toNat _ (A.cell_r (A.setV (A.setC s C) V) a.toNat (by omega))
  have fa := hT.out.free a.toNat
  go_upto_region 39 with (fail)
  clear q2 ta fa
  replace hT := Lib.hid (hT.out.set a.toNat (.int .u32 X))
  rw [A.set_r (A.setV (A.setC s C) V) a.toNat (by omega) X] at hT
  replace hX := Lib.hid (hX.out.other (p := ⟨B9, a.toNat, none⟩) (Nat.ne_of_lt hl) (.int .u32 X))
  replace hK := Lib.hid (hK.out.setCell (p := ⟨B9, a.toNat, none⟩) (by show w.heap.size ≤ B9; omega) (.int .u32 X))
  clear hI hR
  generalize World.setCell _ _ _ = w5 at *
  go_wp2_with (first
    | (with_reducible refine load_has (o := ⟨some 194, _, _, _, _, _⟩) rfl 26 _ rfl _ rfl hT.out Tryz.underlying26 rfl (A.info25 _) ?_)
    | (with_reducible refine store_has (o := ⟨none, Op.store 26 (.tmp 4) _, _, _, _, _⟩) rfl 26 _ _ rfl _ _ rfl rfl hX.out (A.info25 _) (by kernel_rfl) (A.one_cells _) ?_)
    | (go_at_call 49; (refine (rshow_any _ X hx0 hx1 _).mono ?_; rintro e w7 ⟨rfl, hK7⟩); (replace hX := Lib.hid (hX.out.kept hK7)); (replace hK := Lib.hid (hK.out.trans hK7)); clear hK7))
  exact bodyPost_ret (results_has2 rfl (w.heap.size + 2) rfl (hX.out.row _) Tryz.underlying26 rfl (A.info25 _)) rfl ⟨rfl, hK.out.row (by omega) _⟩
set_option maxRecDepth 100000 in
set_option maxHeartbeats 2000000 in
theorem rdo_2_9t (s : A.Regs) (a b c i bv cv X : Int) (C V : Bool) (ha0 : 0 ≤ a) (ha1 : a < 16) (hb0 : 0 ≤ b) (hb1 : b < 16) (hc0 : 0 ≤ c) (hc1 : c < 16) (b0 : 0 ≤ bv) (b1 : bv < 4294967296) (n0 : 0 ≤ i % 4294967296) (n1 : i % 4294967296 < 4294967296) (hbv : s.r b.toNat = bv) (hcv : s.r c.toNat = cv) (hx0 : 0 ≤ X) (hx1 : X < 4294967296) (w : World)
    (HM : Hid (∀ w, Calls Tryz.prog 41 #[.agg #[.int .i64 2, .int .i64 9, .int .i64 a, .int .i64 b, .int .i64 c, .int .i64 i, .bool true]] w fun e w' => e = .returned (.bool true) ∧ Kept w w'))
    (HC : Hid (∀ w, Calls Tryz.prog 56 #[.int .u32 bv, .int .u32 (i % 4294967296), .bool s.c] w fun e w' => e = .returned (.tuple #[.int .u32 X, .bool C, .bool V]) ∧ w = w')) :
    Calls Tryz.prog 33 #[.agg (A.cells s), .agg #[.int .i64 2, .int .i64 9, .int .i64 a, .int .i64 b, .int .i64 c, .int .i64 i, .bool true]] w fun e w' => e = .returned (.tuple #[.agg (A.cells (A.show' (A.set (A.setV (A.setC s C) V) a.toNat X) X)), .int .i64 0]) ∧ Kept w w' := by
  go_enter Tryz.func33, Tryz.ntmps33
  go_wp2_with fail
  refine (HM.out _).mono ?_; rintro e w2 ⟨rfl, hK2⟩
  have hX : Has (w.heap.size + 2) (A.cells A.none') 26 w2 := (Has.new2 _ _ _ _ _).kept hK2
  have hR : Has w.heap.size (A.cells s) 26 w2 := (((Has.new _ _ _).alloc _).alloc _).kept hK2
  have hI := ((Has.new1 _ _ _ _).alloc _).kept hK2
  have hK := ((((Kept.refl w).alloc _ _).alloc _ _).alloc _ _).trans hK2
  have hl := hX.lt
  clear hK2
  have q0 := hI.cell 0 _ rfl
  have q3 := hI.cell 3 _ rfl
  have q4 := hI.cell 4 _ rfl
  have q5 := hI.cell 5 _ rfl
  have qb := hR.cell b.toNat _ (A.cell_r s b.toNat (by omega))
  have qc := hR.cell c.toNat _ (A.cell_r s c.toNat (by omega))
  rw [hbv] at qb
  rw [hcv] at qc
  replace hX := Lib.hid hX
  replace hR := Lib.hid hR
  replace hI := Lib.hid hI
  replace hK := Lib.hid hK
  go_upto_region 14 with (first
    | (with_reducible refine load_has (o := ⟨some 48, _, _, _, _, _⟩) rfl 26 _ rfl _ rfl hR.out Tryz.underlying26 rfl (A.info25 _) ?_)
    | (with_reducible refine store_last (o := ⟨none, Op.store 26 (.tmp 9) _, _, _, _, _⟩) rfl 26 _ _ rfl _ _ rfl rfl rfl (A.info25 _) (by kernel_rfl) (A.one_cells _) ?_))
  clear q0 q3 q4 q5 qb qc
  replace hX := hX.out.alloc (.cells (A.cells s) 26)
  replace hR := hR.out.alloc (.cells (A.cells s) 26)
  replace hI := hI.out.alloc (.cells (A.cells s) 26)
  replace hK := hK.out.alloc (A.cells s) 26
  have hT := Has.new (A.cells s) 26 w2
  generalize w2.heap.size = B9 at *
  generalize w2.alloc _ = w3 at *
  have q0 := hI.cell 0 _ rfl
  have q1 := hI.cell 1 _ rfl
  have q6 := hI.cell 6 _ rfl
  have qh := hR.cell 16 _ (A.cell_h s)
  have qq := hR.cell 19 _ (A.cell_c s)
  have t16 := hT.cell 16 _ (A.cell_h s)
  have t19 := hT.cell 19 _ (A.cell_c s)
  have t20 := hT.cell 20 _ (A.cell_v s)
  have f16 := hT.free 16
  have f19 := hT.free 19
  have f20 := hT.free 20
  replace hX := Lib.hid hX
  replace hR := Lib.hid hR
  replace hI := Lib.hid hI
  replace hK := Lib.hid hK
  replace hT := Lib.hid hT
  go_upto_region 38 with (go_at_call 56; refine (HC.out _).mono ?_; rintro e w4 ⟨rfl, rfl⟩)
  clear q0 q1 q6 qh qq t16 t19 t20 f16 f19 f20
  replace hT := Lib.hid (hT.out.set 19 (.bool C))
  rw [A.set_c] at hT
  replace hX := Lib.hid (hX.out.other (p := ⟨B9, 19, none⟩) (Nat.ne_of_lt hl) (.bool C))
  replace hI := Lib.hid (hI.out.other (p := ⟨B9, 19, none⟩) (Nat.ne_of_lt (by show w.heap.size + 1 < B9; omega)) (.bool C))
  replace hK := Lib.hid (hK.out.setCell (p := ⟨B9, 19, none⟩) (by show w.heap.size ≤ B9; omega) (.bool C))
  replace hT := Lib.hid (hT.out.set 20 (.bool V))
  rw [A.set_v] at hT
  replace hX := Lib.hid (hX.out.other (p := ⟨B9, 20, none⟩) (Nat.ne_of_lt hl) (.bool V))
  replace hI := Lib.hid (hI.out.other (p := ⟨B9, 20, none⟩) (Nat.ne_of_lt (by show w.heap.size + 1 < B9; omega)) (.bool V))
  replace hK := Lib.hid (hK.out.setCell (p := ⟨B9, 20, none⟩) (by show w.heap.size ≤ B9; omega) (.bool V))
  generalize World.setCell _ _ _ = w4 at *
  have q2 := hI.out.cell 2 _ rfl
  have ta := hT.out.cell a.toNat _ (A.cell_r (A.setV (A.setC s C) V) a.toNat (by omega))
  have fa := hT.out.free a.toNat
  go_upto_region 39 with (fail)
  clear q2 ta fa
  replace hT := Lib.hid (hT.out.set a.toNat (.int .u32 X))
  rw [A.set_r (A.setV (A.setC s C) V) a.toNat (by omega) X] at hT
  replace hX := Lib.hid (hX.out.other (p := ⟨B9, a.toNat, none⟩) (Nat.ne_of_lt hl) (.int .u32 X))
  replace hK := Lib.hid (hK.out.setCell (p := ⟨B9, a.toNat, none⟩) (by show w.heap.size ≤ B9; omega) (.int .u32 X))
  clear hI hR
  generalize World.setCell _ _ _ = w5 at *
  go_wp2_with (first
    | (with_reducible refine load_has (o := ⟨some 194, _, _, _, _, _⟩) rfl 26 _ rfl _ rfl hT.out Tryz.underlying26 rfl (A.info25 _) ?_)
    | (with_reducible refine store_has (o := ⟨none, Op.store 26 (.tmp 4) _, _, _, _, _⟩) rfl 26 _ _ rfl _ _ rfl rfl hX.out (A.info25 _) (by kernel_rfl) (A.one_cells _) ?_)
    | (go_at_call 49; (refine (rshow_any _ X hx0 hx1 _).mono ?_; rintro e w7 ⟨rfl, hK7⟩); (replace hX := Lib.hid (hX.out.kept hK7)); (replace hK := Lib.hid (hK.out.trans hK7)); clear hK7))
  exact bodyPost_ret (results_has2 rfl (w.heap.size + 2) rfl (hX.out.row _) Tryz.underlying26 rfl (A.info25 _)) rfl ⟨rfl, hK.out.row (by omega) _⟩
set_option maxRecDepth 100000 in
set_option maxHeartbeats 2000000 in
theorem rdo_2_9f (s : A.Regs) (a b c i bv cv X : Int) (C V : Bool) (ha0 : 0 ≤ a) (ha1 : a < 16) (hb0 : 0 ≤ b) (hb1 : b < 16) (hc0 : 0 ≤ c) (hc1 : c < 16) (b0 : 0 ≤ bv) (b1 : bv < 4294967296) (n0 : 0 ≤ i % 4294967296) (n1 : i % 4294967296 < 4294967296) (hbv : s.r b.toNat = bv) (hcv : s.r c.toNat = cv) (hx0 : 0 ≤ X) (hx1 : X < 4294967296) (w : World)
    (HM : Hid (∀ w, Calls Tryz.prog 41 #[.agg #[.int .i64 2, .int .i64 9, .int .i64 a, .int .i64 b, .int .i64 c, .int .i64 i, .bool false]] w fun e w' => e = .returned (.bool true) ∧ Kept w w'))
    (HC : Hid (∀ w, Calls Tryz.prog 56 #[.int .u32 bv, .int .u32 (i % 4294967296), .bool false] w fun e w' => e = .returned (.tuple #[.int .u32 X, .bool C, .bool V]) ∧ w = w')) :
    Calls Tryz.prog 33 #[.agg (A.cells s), .agg #[.int .i64 2, .int .i64 9, .int .i64 a, .int .i64 b, .int .i64 c, .int .i64 i, .bool false]] w fun e w' => e = .returned (.tuple #[.agg (A.cells (A.show' (A.set (A.setV (A.setC s C) V) a.toNat X) X)), .int .i64 0]) ∧ Kept w w' := by
  go_enter Tryz.func33, Tryz.ntmps33
  go_wp2_with fail
  refine (HM.out _).mono ?_; rintro e w2 ⟨rfl, hK2⟩
  have hX : Has (w.heap.size + 2) (A.cells A.none') 26 w2 := (Has.new2 _ _ _ _ _).kept hK2
  have hR : Has w.heap.size (A.cells s) 26 w2 := (((Has.new _ _ _).alloc _).alloc _).kept hK2
  have hI := ((Has.new1 _ _ _ _).alloc _).kept hK2
  have hK := ((((Kept.refl w).alloc _ _).alloc _ _).alloc _ _).trans hK2
  have hl := hX.lt
  clear hK2
  have q0 := hI.cell 0 _ rfl
  have q3 := hI.cell 3 _ rfl
  have q4 := hI.cell 4 _ rfl
  have q5 := hI.cell 5 _ rfl
  have qb := hR.cell b.toNat _ (A.cell_r s b.toNat (by omega))
  have qc := hR.cell c.toNat _ (A.cell_r s c.toNat (by omega))
  rw [hbv] at qb
  rw [hcv] at qc
  replace hX := Lib.hid hX
  replace hR := Lib.hid hR
  replace hI := Lib.hid hI
  replace hK := Lib.hid hK
  go_upto_region 14 with (first
    | (with_reducible refine load_has (o := ⟨some 48, _, _, _, _, _⟩) rfl 26 _ rfl _ rfl hR.out Tryz.underlying26 rfl (A.info25 _) ?_)
    | (with_reducible refine store_last (o := ⟨none, Op.store 26 (.tmp 9) _, _, _, _, _⟩) rfl 26 _ _ rfl _ _ rfl rfl rfl (A.info25 _) (by kernel_rfl) (A.one_cells _) ?_))
  clear q0 q3 q4 q5 qb qc
  replace hX := hX.out.alloc (.cells (A.cells s) 26)
  replace hR := hR.out.alloc (.cells (A.cells s) 26)
  replace hI := hI.out.alloc (.cells (A.cells s) 26)
  replace hK := hK.out.alloc (A.cells s) 26
  have hT := Has.new (A.cells s) 26 w2
  generalize w2.heap.size = B9 at *
  generalize w2.alloc _ = w3 at *
  have q0 := hI.cell 0 _ rfl
  have q1 := hI.cell 1 _ rfl
  have q6 := hI.cell 6 _ rfl
  have qh := hR.cell 16 _ (A.cell_h s)
  have qq := hR.cell 19 _ (A.cell_c s)
  have t16 := hT.cell 16 _ (A.cell_h s)
  have t19 := hT.cell 19 _ (A.cell_c s)
  have t20 := hT.cell 20 _ (A.cell_v s)
  have f16 := hT.free 16
  have f19 := hT.free 19
  have f20 := hT.free 20
  replace hX := Lib.hid hX
  replace hR := Lib.hid hR
  replace hI := Lib.hid hI
  replace hK := Lib.hid hK
  replace hT := Lib.hid hT
  go_upto_region 38 with (go_at_call 56; refine (HC.out _).mono ?_; rintro e w4 ⟨rfl, rfl⟩)
  clear q0 q1 q6 qh qq t16 t19 t20 f16 f19 f20
  replace hT := Lib.hid (hT.out.set 19 (.bool C))
  rw [A.set_c] at hT
  replace hX := Lib.hid (hX.out.other (p := ⟨B9, 19, none⟩) (Nat.ne_of_lt hl) (.bool C))
  replace hI := Lib.hid (hI.out.other (p := ⟨B9, 19, none⟩) (Nat.ne_of_lt (by show w.heap.size + 1 < B9; omega)) (.bool C))
  replace hK := Lib.hid (hK.out.setCell (p := ⟨B9, 19, none⟩) (by show w.heap.size ≤ B9; omega) (.bool C))
  replace hT := Lib.hid (hT.out.set 20 (.bool V))
  rw [A.set_v] at hT
  replace hX := Lib.hid (hX.out.other (p := ⟨B9, 20, none⟩) (Nat.ne_of_lt hl) (.bool V))
  replace hI := Lib.hid (hI.out.other (p := ⟨B9, 20, none⟩) (Nat.ne_of_lt (by show w.heap.size + 1 < B9; omega)) (.bool V))
  replace hK := Lib.hid (hK.out.setCell (p := ⟨B9, 20, none⟩) (by show w.heap.size ≤ B9; omega) (.bool V))
  generalize World.setCell _ _ _ = w4 at *
  have q2 := hI.out.cell 2 _ rfl
  have ta := hT.out.cell a.toNat _ (A.cell_r (A.setV (A.setC s C) V) a.toNat (by omega))
  have fa := hT.out.free a.toNat
  go_upto_region 39 with (fail)
  clear q2 ta fa
  replace hT := Lib.hid (hT.out.set a.toNat (.int .u32 X))
  rw [A.set_r (A.setV (A.setC s C) V) a.toNat (by omega) X] at hT
  replace hX := Lib.hid (hX.out.other (p := ⟨B9, a.toNat, none⟩) (Nat.ne_of_lt hl) (.int .u32 X))
  replace hK := Lib.hid (hK.out.setCell (p := ⟨B9, a.toNat, none⟩) (by show w.heap.size ≤ B9; omega) (.int .u32 X))
  clear hI hR
  generalize World.setCell _ _ _ = w5 at *
  go_wp2_with (first
    | (with_reducible refine load_has (o := ⟨some 194, _, _, _, _, _⟩) rfl 26 _ rfl _ rfl hT.out Tryz.underlying26 rfl (A.info25 _) ?_)
    | (with_reducible refine store_has (o := ⟨none, Op.store 26 (.tmp 4) _, _, _, _, _⟩) rfl 26 _ _ rfl _ _ rfl rfl hX.out (A.info25 _) (by kernel_rfl) (A.one_cells _) ?_)
    | (go_at_call 49; (refine (rshow_any _ X hx0 hx1 _).mono ?_; rintro e w7 ⟨rfl, hK7⟩); (replace hX := Lib.hid (hX.out.kept hK7)); (replace hK := Lib.hid (hK.out.trans hK7)); clear hK7))
  exact bodyPost_ret (results_has2 rfl (w.heap.size + 2) rfl (hX.out.row _) Tryz.underlying26 rfl (A.info25 _)) rfl ⟨rfl, hK.out.row (by omega) _⟩
set_option maxRecDepth 100000 in
set_option maxHeartbeats 2000000 in
theorem rdo_2_10 (s : A.Regs) (a b c i bv cv X : Int) (u : Bool) (H : Int) (ha0 : 0 ≤ a) (ha1 : a < 16) (hb0 : 0 ≤ b) (hb1 : b < 16) (hc0 : 0 ≤ c) (hc1 : c < 16) (b0 : 0 ≤ bv) (b1 : bv < 4294967296) (n0 : 0 ≤ i % 4294967296) (n1 : i % 4294967296 < 4294967296) (hbv : s.r b.toNat = bv) (hcv : s.r c.toNat = cv) (hx0 : 0 ≤ X) (hx1 : X < 4294967296) (w : World)
    (HM : Hid (∀ w, Calls Tryz.prog 41 #[.agg #[.int .i64 2, .int .i64 10, .int .i64 a, .int .i64 b, .int .i64 c, .int .i64 i, .bool u]] w fun e w' => e = .returned (.bool true) ∧ Kept w w'))
    (HC : Hid (∀ w, Calls Tryz.prog 57 #[.int .u32 bv, .int .u32 (i % 4294967296), .bool u] w fun e w' => e = .returned (.tuple #[.int .u32 X, .int .u32 H]) ∧ w = w')) :
    Calls Tryz.prog 33 #[.agg (A.cells s), .agg #[.int .i64 2, .int .i64 10, .int .i64 a, .int .i64 b, .int .i64 c, .int .i64 i, .bool u]] w fun e w' => e = .returned (.tuple #[.agg (A.cells (A.show' (A.set (A.setH s H) a.toNat X) X)), .int .i64 0]) ∧ Kept w w' := by
  go_enter Tryz.func33, Tryz.ntmps33
  go_wp2_with fail
  refine (HM.out _).mono ?_; rintro e w2 ⟨rfl, hK2⟩
  have hX : Has (w.heap.size + 2) (A.cells A.none') 26 w2 := (Has.new2 _ _ _ _ _).kept hK2
  have hR : Has w.heap.size (A.cells s) 26 w2 := (((Has.new _ _ _).alloc _).alloc _).kept hK2
  have hI := ((Has.new1 _ _ _ _).alloc _).kept hK2
  have hK := ((((Kept.refl w).alloc _ _).alloc _ _).alloc _ _).trans hK2
  have hl := hX.lt
  clear hK2
  have q0 := hI.cell 0 _ rfl
  have q3 := hI.cell 3 _ rfl
  have q4 := hI.cell 4 _ rfl
  have q5 := hI.cell 5 _ rfl
  have qb := hR.cell b.toNat _ (A.cell_r s b.toNat (by omega))
  have qc := hR.cell c.toNat _ (A.cell_r s c.toNat (by omega))
  rw [hbv] at qb
  rw [hcv] at qc
  replace hX := Lib.hid hX
  replace hR := Lib.hid hR
  replace hI := Lib.hid hI
  replace hK := Lib.hid hK
  go_upto_region 14 with (first
    | (with_reducible refine load_has (o := ⟨some 48, _, _, _, _, _⟩) rfl 26 _ rfl _ rfl hR.out Tryz.underlying26 rfl (A.info25 _) ?_)
    | (with_reducible refine store_last (o := ⟨none, Op.store 26 (.tmp 9) _, _, _, _, _⟩) rfl 26 _ _ rfl _ _ rfl rfl rfl (A.info25 _) (by kernel_rfl) (A.one_cells _) ?_))
  clear q0 q3 q4 q5 qb qc
  replace hX := hX.out.alloc (.cells (A.cells s) 26)
  replace hR := hR.out.alloc (.cells (A.cells s) 26)
  replace hI := hI.out.alloc (.cells (A.cells s) 26)
  replace hK := hK.out.alloc (A.cells s) 26
  have hT := Has.new (A.cells s) 26 w2
  generalize w2.heap.size = B9 at *
  generalize w2.alloc _ = w3 at *
  have q0 := hI.cell 0 _ rfl
  have q1 := hI.cell 1 _ rfl
  have q6 := hI.cell 6 _ rfl
  have qh := hR.cell 16 _ (A.cell_h s)
  have qq := hR.cell 19 _ (A.cell_c s)
  have t16 := hT.cell 16 _ (A.cell_h s)
  have t19 := hT.cell 19 _ (A.cell_c s)
  have t20 := hT.cell 20 _ (A.cell_v s)
  have f16 := hT.free 16
  have f19 := hT.free 19
  have f20 := hT.free 20
  replace hX := Lib.hid hX
  replace hR := Lib.hid hR
  replace hI := Lib.hid hI
  replace hK := Lib.hid hK
  replace hT := Lib.hid hT
  go_upto_region 38 with (go_at_call 57; refine (HC.out _).mono ?_; rintro e w4 ⟨rfl, rfl⟩)
  clear q0 q1 q6 qh qq t16 t19 t20 f16 f19 f20
  replace hT := Lib.hid (hT.out.set 16 (.int .u32 H))
  rw [A.set_h] at hT
  replace hX := Lib.hid (hX.out.other (p := ⟨B9, 16, none⟩) (Nat.ne_of_lt hl) (.int .u32 H))
  replace hI := Lib.hid (hI.out.other (p := ⟨B9, 16, none⟩) (Nat.ne_of_lt (by show w.heap.size + 1 < B9; omega)) (.int .u32 H))
  replace hK := Lib.hid (hK.out.setCell (p := ⟨B9, 16, none⟩) (by show w.heap.size ≤ B9; omega) (.int .u32 H))
  generalize World.setCell _ _ _ = w4 at *
  have q2 := hI.out.cell 2 _ rfl
  have ta := hT.out.cell a.toNat _ (A.cell_r (A.setH s H) a.toNat (by omega))
  have fa := hT.out.free a.toNat
  go_upto_region 39 with (fail)
  clear q2 ta fa
  replace hT := Lib.hid (hT.out.set a.toNat (.int .u32 X))
  rw [A.set_r (A.setH s H) a.toNat (by omega) X] at hT
  replace hX := Lib.hid (hX.out.other (p := ⟨B9, a.toNat, none⟩) (Nat.ne_of_lt hl) (.int .u32 X))
  replace hK := Lib.hid (hK.out.setCell (p := ⟨B9, a.toNat, none⟩) (by show w.heap.size ≤ B9; omega) (.int .u32 X))
  clear hI hR
  generalize World.setCell _ _ _ = w5 at *
  go_wp2_with (first
    | (with_reducible refine load_has (o := ⟨some 194, _, _, _, _, _⟩) rfl 26 _ rfl _ rfl hT.out Tryz.underlying26 rfl (A.info25 _) ?_)
    | (with_reducible refine store_has (o := ⟨none, Op.store 26 (.tmp 4) _, _, _, _, _⟩) rfl 26 _ _ rfl _ _ rfl rfl hX.out (A.info25 _) (by kernel_rfl) (A.one_cells _) ?_)
    | (go_at_call 49; (refine (rshow_any _ X hx0 hx1 _).mono ?_; rintro e w7 ⟨rfl, hK7⟩); (replace hX := Lib.hid (hX.out.kept hK7)); (replace hK := Lib.hid (hK.out.trans hK7)); clear hK7))
  exact bodyPost_ret (results_has2 rfl (w.heap.size + 2) rfl (hX.out.row _) Tryz.underlying26 rfl (A.info25 _)) rfl ⟨rfl, hK.out.row (by omega) _⟩
set_option maxRecDepth 100000 in
set_option maxHeartbeats 2000000 in
theorem rdo_2_11 (s : A.Regs) (a b c i bv cv X : Int) (u : Bool) (H : Int) (ha0 : 0 ≤ a) (ha1 : a < 16) (hb0 : 0 ≤ b) (hb1 : b < 16) (hc0 : 0 ≤ c) (hc1 : c < 16) (b0 : 0 ≤ bv) (b1 : bv < 4294967296) (n0 : 0 ≤ i % 4294967296) (n1 : i % 4294967296 < 4294967296) (hbv : s.r b.toNat = bv) (hcv : s.r c.toNat = cv) (hx0 : 0 ≤ X) (hx1 : X < 4294967296) (w : World)
    (HM : Hid (∀ w, Calls Tryz.prog 41 #[.agg #[.int .i64 2, .int .i64 11, .int .i64 a, .int .i64 b, .int .i64 c, .int .i64 i, .bool u]] w fun e w' => e = .returned (.bool true) ∧ Kept w w'))
    (HC : Hid (∀ w, Calls Tryz.prog 58 #[.int .u32 bv, .int .u32 (i % 4294967296)] w fun e w' => e = .returned (.tuple #[.int .u32 X, .int .u32 H, .bool true]) ∧ w = w')) :
    Calls Tryz.prog 33 #[.agg (A.cells s), .agg #[.int .i64 2, .int .i64 11, .int .i64 a, .int .i64 b, .int .i64 c, .int .i64 i, .bool u]] w fun e w' => e = .returned (.tuple #[.agg (A.cells (A.show' (A.set (A.setH s H) a.toNat X) X)), .int .i64 0]) ∧ Kept w w' := by
  go_enter Tryz.func33, Tryz.ntmps33
  go_wp2_with fail
  refine (HM.out _).mono ?_; rintro e w2 ⟨rfl, hK2⟩
  have hX : Has (w.heap.size + 2) (A.cells A.none') 26 w2 := (Has.new2 _ _ _ _ _).kept hK2
  have hR : Has w.heap.size (A.cells s) 26 w2 := (((Has.new _ _ _).alloc _).alloc _).kept hK2
  have hI := ((Has.new1 _ _ _ _).alloc _).kept hK2
  have hK := ((((Kept.refl w).alloc _ _).alloc _ _).alloc _ _).trans hK2
  have hl := hX.lt
  clear hK2
  have q0 := hI.cell 0 _ rfl
  have q3 := hI.cell 3 _ rfl
  have q4 := hI.cell 4 _ rfl
  have q5 := hI.cell 5 _ rfl
  have qb := hR.cell b.toNat _ (A.cell_r s b.toNat (by omega))
  have qc := hR.cell c.toNat _ (A.cell_r s c.toNat (by omega))
  rw [hbv] at qb
  rw [hcv] at qc
  replace hX := Lib.hid hX
  replace hR := Lib.hid hR
  replace hI := Lib.hid hI
  replace hK := Lib.hid hK
  go_upto_region 14 with (first
    | (with_reducible refine load_has (o := ⟨some 48, _, _, _, _, _⟩) rfl 26 _ rfl _ rfl hR.out Tryz.underlying26 rfl (A.info25 _) ?_)
    | (with_reducible refine store_last (o := ⟨none, Op.store 26 (.tmp 9) _, _, _, _, _⟩) rfl 26 _ _ rfl _ _ rfl rfl rfl (A.info25 _) (by kernel_rfl) (A.one_cells _) ?_))
  clear q0 q3 q4 q5 qb qc
  replace hX := hX.out.alloc (.cells (A.cells s) 26)
  replace hR := hR.out.alloc (.cells (A.cells s) 26)
  replace hI := hI.out.alloc (.cells (A.cells s) 26)
  replace hK := hK.out.alloc (A.cells s) 26
  have hT := Has.new (A.cells s) 26 w2
  generalize w2.heap.size = B9 at *
  generalize w2.alloc _ = w3 at *
  have q0 := hI.cell 0 _ rfl
  have q1 := hI.cell 1 _ rfl
  have q6 := hI.cell 6 _ rfl
  have qh := hR.cell 16 _ (A.cell_h s)
  have qq := hR.cell 19 _ (A.cell_c s)
  have t16 := hT.cell 16 _ (A.cell_h s)
  have t19 := hT.cell 19 _ (A.cell_c s)
  have t20 := hT.cell 20 _ (A.cell_v s)
  have f16 := hT.free 16
  have f19 := hT.free 19
  have f20 := hT.free 20
  replace hX := Lib.hid hX
  replace hR := Lib.hid hR
  replace hI := Lib.hid hI
  replace hK := Lib.hid hK
  replace hT := Lib.hid hT
  go_upto_region 38 with (go_at_call 58; refine (HC.out _).mono ?_; rintro e w4 ⟨rfl, rfl⟩)
  clear q0 q1 q6 qh qq t16 t19 t20 f16 f19 f20
  replace hT := Lib.hid (hT.out.set 16 (.int .u32 H))
  rw [A.set_h] at hT
  replace hX := Lib.hid (hX.out.other (p := ⟨B9, 16, none⟩) (Nat.ne_of_lt hl) (.int .u32 H))
  replace hI := Lib.hid (hI.out.other (p := ⟨B9, 16, none⟩) (Nat.ne_of_lt (by show w.heap.size + 1 < B9; omega)) (.int .u32 H))
  replace hK := Lib.hid (hK.out.setCell (p := ⟨B9, 16, none⟩) (by show w.heap.size ≤ B9; omega) (.int .u32 H))
  generalize World.setCell _ _ _ = w4 at *
  have q2 := hI.out.cell 2 _ rfl
  have ta := hT.out.cell a.toNat _ (A.cell_r (A.setH s H) a.toNat (by omega))
  have fa := hT.out.free a.toNat
  go_upto_region 39 with (fail)
  clear q2 ta fa
  replace hT := Lib.hid (hT.out.set a.toNat (.int .u32 X))
  rw [A.set_r (A.setH s H) a.toNat (by omega) X] at hT
  replace hX := Lib.hid (hX.out.other (p := ⟨B9, a.toNat, none⟩) (Nat.ne_of_lt hl) (.int .u32 X))
  replace hK := Lib.hid (hK.out.setCell (p := ⟨B9, a.toNat, none⟩) (by show w.heap.size ≤ B9; omega) (.int .u32 X))
  clear hI hR
  generalize World.setCell _ _ _ = w5 at *
  go_wp2_with (first
    | (with_reducible refine load_has (o := ⟨some 194, _, _, _, _, _⟩) rfl 26 _ rfl _ rfl hT.out Tryz.underlying26 rfl (A.info25 _) ?_)
    | (with_reducible refine store_has (o := ⟨none, Op.store 26 (.tmp 4) _, _, _, _, _⟩) rfl 26 _ _ rfl _ _ rfl rfl hX.out (A.info25 _) (by kernel_rfl) (A.one_cells _) ?_)
    | (go_at_call 49; (refine (rshow_any _ X hx0 hx1 _).mono ?_; rintro e w7 ⟨rfl, hK7⟩); (replace hX := Lib.hid (hX.out.kept hK7)); (replace hK := Lib.hid (hK.out.trans hK7)); clear hK7))
  exact bodyPost_ret (results_has2 rfl (w.heap.size + 2) rfl (hX.out.row _) Tryz.underlying26 rfl (A.info25 _)) rfl ⟨rfl, hK.out.row (by omega) _⟩
set_option maxRecDepth 100000 in
set_option maxHeartbeats 2000000 in
theorem rdo_2_11n (s : A.Regs) (a b c i bv cv X : Int) (u : Bool) (ha0 : 0 ≤ a) (ha1 : a < 16) (hb0 : 0 ≤ b) (hb1 : b < 16) (hc0 : 0 ≤ c) (hc1 : c < 16) (b0 : 0 ≤ bv) (b1 : bv < 4294967296) (n0 : 0 ≤ i % 4294967296) (n1 : i % 4294967296 < 4294967296) (hbv : s.r b.toNat = bv) (hcv : s.r c.toNat = cv) (hx0 : 0 ≤ X) (hx1 : X < 4294967296) (w : World)
    (HM : Hid (∀ w, Calls Tryz.prog 41 #[.agg #[.int .i64 2, .int .i64 11, .int .i64 a, .int .i64 b, .int .i64 c, .int .i64 i, .bool u]] w fun e w' => e = .returned (.bool true) ∧ Kept w w'))
    (HC : Hid (∀ w, Calls Tryz.prog 58 #[.int .u32 bv, .int .u32 (i % 4294967296)] w fun e w' => e = .returned (.tuple #[.int .u32 0, .int .u32 0, .bool false]) ∧ w = w')) :
    Calls Tryz.prog 33 #[.agg (A.cells s), .agg #[.int .i64 2, .int .i64 11, .int .i64 a, .int .i64 b, .int .i64 c, .int .i64 i, .bool u]] w fun e w' => e = .returned (.tuple #[.agg (A.cells s), .int .i64 5]) ∧ Kept w w' := by
  go_enter Tryz.func33, Tryz.ntmps33
  go_wp2_with fail
  refine (HM.out _).mono ?_; rintro e w2 ⟨rfl, hK2⟩
  have hX : Has (w.heap.size + 2) (A.cells A.none') 26 w2 := (Has.new2 _ _ _ _ _).kept hK2
  have hR : Has w.heap.size (A.cells s) 26 w2 := (((Has.new _ _ _).alloc _).alloc _).kept hK2
  have hI := ((Has.new1 _ _ _ _).alloc _).kept hK2
  have hK := ((((Kept.refl w).alloc _ _).alloc _ _).alloc _ _).trans hK2
  have hl := hX.lt
  clear hK2
  have q0 := hI.cell 0 _ rfl
  have q3 := hI.cell 3 _ rfl
  have q4 := hI.cell 4 _ rfl
  have q5 := hI.cell 5 _ rfl
  have qb := hR.cell b.toNat _ (A.cell_r s b.toNat (by omega))
  have qc := hR.cell c.toNat _ (A.cell_r s c.toNat (by omega))
  rw [hbv] at qb
  rw [hcv] at qc
  replace hX := Lib.hid hX
  replace hR := Lib.hid hR
  replace hI := Lib.hid hI
  replace hK := Lib.hid hK
  go_upto_region 14 with (first
    | (with_reducible refine load_has (o := ⟨some 48, _, _, _, _, _⟩) rfl 26 _ rfl _ rfl hR.out Tryz.underlying26 rfl (A.info25 _) ?_)
    | (with_reducible refine store_last (o := ⟨none, Op.store 26 (.tmp 9) _, _, _, _, _⟩) rfl 26 _ _ rfl _ _ rfl rfl rfl (A.info25 _) (by kernel_rfl) (A.one_cells _) ?_))
  clear q0 q3 q4 q5 qb qc
  replace hX := hX.out.alloc (.cells (A.cells s) 26)
  replace hR := hR.out.alloc (.cells (A.cells s) 26)
  replace hI := hI.out.alloc (.cells (A.cells s) 26)
  replace hK := hK.out.alloc (A.cells s) 26
  have hT := Has.new (A.cells s) 26 w2
  generalize w2.heap.size = B9 at *
  generalize w2.alloc _ = w3 at *
  have q0 := hI.cell 0 _ rfl
  have q1 := hI.cell 1 _ rfl
  have q6 := hI.cell 6 _ rfl
  have qh := hR.cell 16 _ (A.cell_h s)
  have qq := hR.cell 19 _ (A.cell_c s)
  have t16 := hT.cell 16 _ (A.cell_h s)
  have t19 := hT.cell 19 _ (A.cell_c s)
  have t20 := hT.cell 20 _ (A.cell_v s)
  have f16 := hT.free 16
  have f19 := hT.free 19
  have f20 := hT.free 20
  replace hX := Lib.hid hX
  replace hR := Lib.hid hR
  replace hI := Lib.hid hI
  replace hK := Lib.hid hK
  replace hT := Lib.hid hT
  go_wp2_with (first
    | (go_at_call 58; refine (HC.out _).mono ?_; rintro e w4 ⟨rfl, rfl⟩)
    | (with_reducible refine load_has (o := ⟨some 58, _, _, _, _, _⟩) rfl 26 _ rfl _ rfl hR.out Tryz.underlying26 rfl (A.info25 _) ?_)
    | (with_reducible refine store_has (o := ⟨none, Op.store 26 (.tmp 4) _, _, _, _, _⟩) rfl 26 _ _ rfl _ _ rfl rfl hX.out (A.info25 _) (by kernel_rfl) (A.one_cells _) ?_))
  exact bodyPost_ret (results_has2 rfl (w.heap.size + 2) rfl (hX.out.row _) Tryz.underlying26 rfl (A.info25 _)) rfl ⟨rfl, hK.out.row (by omega) _⟩
end Go.Proofs.YtlmddkciamdldaaGreat

/-
  The contract of the document's Do, of H and the flags, and of none.
-/
namespace Go.Proofs.YtlmddkciamdldaaGreat
open Go.RowKit
set_option linter.unusedVariables false
set_option linter.unusedSimpArgs false
set_option maxRecDepth 100000
set_option maxRecDepth 100000 in
set_option maxHeartbeats 2000000 in
theorem rdo_3 (s : A.Regs) (op a b c i bv cv X : Int) (u : Bool) (ha0 : 0 ≤ a) (ha1 : a < 16) (hb0 : 0 ≤ b) (hb1 : b < 16) (hc0 : 0 ≤ c) (hc1 : c < 16) (b0 : 0 ≤ bv) (b1 : bv < 4294967296) (n0 : 0 ≤ cv) (n1 : cv < 4294967296) (hbv : s.r b.toNat = bv) (hcv : s.r c.toNat = cv) (hx0 : 0 ≤ X) (hx1 : X < 4294967296) (w : World)
    (HM : Hid (∀ w, Calls Tryz.prog 41 #[.agg #[.int .i64 3, .int .i64 op, .int .i64 a, .int .i64 b, .int .i64 c, .int .i64 i, .bool u]] w fun e w' => e = .returned (.bool true) ∧ Kept w w'))
    (HE : Hid (s.h = X)) :
    Calls Tryz.prog 33 #[.agg (A.cells s), .agg #[.int .i64 3, .int .i64 op, .int .i64 a, .int .i64 b, .int .i64 c, .int .i64 i, .bool u]] w fun e w' => e = .returned (.tuple #[.agg (A.cells (A.show' (A.set (s) a.toNat X) X)), .int .i64 0]) ∧ Kept w w' := by
  go_enter Tryz.func33, Tryz.ntmps33
  go_wp2_with fail
  refine (HM.out _).mono ?_; rintro e w2 ⟨rfl, hK2⟩
  have hX : Has (w.heap.size + 2) (A.cells A.none') 26 w2 := (Has.new2 _ _ _ _ _).kept hK2
  have hR : Has w.heap.size (A.cells s) 26 w2 := (((Has.new _ _ _).alloc _).alloc _).kept hK2
  have hI := ((Has.new1 _ _ _ _).alloc _).kept hK2
  have hK := ((((Kept.refl w).alloc _ _).alloc _ _).alloc _ _).trans hK2
  have hl := hX.lt
  clear hK2
  have q0 := hI.cell 0 _ rfl
  have q3 := hI.cell 3 _ rfl
  have q4 := hI.cell 4 _ rfl
  have q5 := hI.cell 5 _ rfl
  have qb := hR.cell b.toNat _ (A.cell_r s b.toNat (by omega))
  have qc := hR.cell c.toNat _ (A.cell_r s c.toNat (by omega))
  rw [hbv] at qb
  rw [hcv] at qc
  replace hX := Lib.hid hX
  replace hR := Lib.hid hR
  replace hI := Lib.hid hI
  replace hK := Lib.hid hK
  go_upto_region 14 with (first
    | (with_reducible refine load_has (o := ⟨some 48, _, _, _, _, _⟩) rfl 26 _ rfl _ rfl hR.out Tryz.underlying26 rfl (A.info25 _) ?_)
    | (with_reducible refine store_last (o := ⟨none, Op.store 26 (.tmp 9) _, _, _, _, _⟩) rfl 26 _ _ rfl _ _ rfl rfl rfl (A.info25 _) (by kernel_rfl) (A.one_cells _) ?_))
  clear q0 q3 q4 q5 qb qc
  replace hX := hX.out.alloc (.cells (A.cells s) 26)
  replace hR := hR.out.alloc (.cells (A.cells s) 26)
  replace hI := hI.out.alloc (.cells (A.cells s) 26)
  replace hK := hK.out.alloc (A.cells s) 26
  have hT := Has.new (A.cells s) 26 w2
  generalize w2.heap.size = B9 at *
  generalize w2.alloc _ = w3 at *
  have q0 := hI.cell 0 _ rfl
  have q1 := hI.cell 1 _ rfl
  have q6 := hI.cell 6 _ rfl
  have qh := hR.cell 16 _ (A.cell_h s)
  have qq := hR.cell 19 _ (A.cell_c s)
  have t16 := hT.cell 16 _ (A.cell_h s)
  have t19 := hT.cell 19 _ (A.cell_c s)
  have t20 := hT.cell 20 _ (A.cell_v s)
  have f16 := hT.free 16
  have f19 := hT.free 19
  have f20 := hT.free 20
  replace hX := Lib.hid hX
  replace hR := Lib.hid hR
  replace hI := Lib.hid hI
  replace hK := Lib.hid hK
  replace hT := Lib.hid hT
  rw [HE.out] at qh
  go_upto_region 38 with (fail)
  clear q0 q1 q6 qh qq t16 t19 t20 f16 f19 f20
  have q2 := hI.out.cell 2 _ rfl
  have ta := hT.out.cell a.toNat _ (A.cell_r (s) a.toNat (by omega))
  have fa := hT.out.free a.toNat
  go_upto_region 39 with (fail)
  clear q2 ta fa
  replace hT := Lib.hid (hT.out.set a.toNat (.int .u32 X))
  rw [A.set_r (s) a.toNat (by omega) X] at hT
  replace hX := Lib.hid (hX.out.other (p := ⟨B9, a.toNat, none⟩) (Nat.ne_of_lt hl) (.int .u32 X))
  replace hK := Lib.hid (hK.out.setCell (p := ⟨B9, a.toNat, none⟩) (by show w.heap.size ≤ B9; omega) (.int .u32 X))
  clear hI hR
  generalize World.setCell _ _ _ = w5 at *
  go_wp2_with (first
    | (with_reducible refine load_has (o := ⟨some 194, _, _, _, _, _⟩) rfl 26 _ rfl _ rfl hT.out Tryz.underlying26 rfl (A.info25 _) ?_)
    | (with_reducible refine store_has (o := ⟨none, Op.store 26 (.tmp 4) _, _, _, _, _⟩) rfl 26 _ _ rfl _ _ rfl rfl hX.out (A.info25 _) (by kernel_rfl) (A.one_cells _) ?_)
    | (go_at_call 49; (refine (rshow_any _ X hx0 hx1 _).mono ?_; rintro e w7 ⟨rfl, hK7⟩); (replace hX := Lib.hid (hX.out.kept hK7)); (replace hK := Lib.hid (hK.out.trans hK7)); clear hK7))
  exact bodyPost_ret (results_has2 rfl (w.heap.size + 2) rfl (hX.out.row _) Tryz.underlying26 rfl (A.info25 _)) rfl ⟨rfl, hK.out.row (by omega) _⟩
set_option maxRecDepth 100000 in
set_option maxHeartbeats 2000000 in
theorem rdo_not (s : A.Regs) (k op a b c i : Int) (u : Bool) (w : World)
    (HM : Hid (∀ w, Calls Tryz.prog 41 #[.agg #[.int .i64 k, .int .i64 op, .int .i64 a, .int .i64 b, .int .i64 c, .int .i64 i, .bool u]] w fun e w' => e = .returned (.bool false) ∧ Kept w w')) :
    Calls Tryz.prog 33 #[.agg (A.cells s), .agg #[.int .i64 k, .int .i64 op, .int .i64 a, .int .i64 b, .int .i64 c, .int .i64 i, .bool u]] w fun e w' => e = .returned (.tuple #[.agg (A.cells s), .int .i64 0]) ∧ Kept w w' := by
  go_enter Tryz.func33, Tryz.ntmps33
  go_wp2_with fail
  refine (HM.out _).mono ?_; rintro e w2 ⟨rfl, hK2⟩
  have hX : Has (w.heap.size + 2) (A.cells A.none') 26 w2 := (Has.new2 _ _ _ _ _).kept hK2
  have hR : Has w.heap.size (A.cells s) 26 w2 := (((Has.new _ _ _).alloc _).alloc _).kept hK2
  have hI := ((Has.new1 _ _ _ _).alloc _).kept hK2
  have hK := ((((Kept.refl w).alloc _ _).alloc _ _).alloc _ _).trans hK2
  clear hK2
  have q0 := hI.cell 0 _ rfl
  replace hX := Lib.hid hX
  replace hR := Lib.hid hR
  replace hK := Lib.hid hK
  clear hI
  go_wp2_with (first
    | (with_reducible refine load_has (o := ⟨some 31, _, _, _, _, _⟩) rfl 26 _ rfl _ rfl hR.out Tryz.underlying26 rfl (A.info25 _) ?_)
    | (with_reducible refine store_has (o := ⟨none, Op.store 26 (.tmp 4) _, _, _, _, _⟩) rfl 26 _ _ rfl _ _ rfl rfl hX.out (A.info25 _) (by kernel_rfl) (A.one_cells _) ?_))
  exact bodyPost_ret (results_has2 rfl (w.heap.size + 2) rfl (hX.out.row _) Tryz.underlying26 rfl (A.info25 _)) rfl ⟨rfl, hK.out.row (by omega) _⟩
set_option maxRecDepth 100000 in
set_option maxHeartbeats 2000000 in
theorem rdo_5 (s : A.Regs) (op a b c i : Int) (u : Bool) (w : World)
    (HM : Hid (∀ w, Calls Tryz.prog 41 #[.agg #[.int .i64 5, .int .i64 op, .int .i64 a, .int .i64 b, .int .i64 c, .int .i64 i, .bool u]] w fun e w' => e = .returned (.bool true) ∧ Kept w w')) :
    Calls Tryz.prog 33 #[.agg (A.cells s), .agg #[.int .i64 5, .int .i64 op, .int .i64 a, .int .i64 b, .int .i64 c, .int .i64 i, .bool u]] w fun e w' => e = .returned (.tuple #[.agg (A.cells s), .int .i64 0]) ∧ Kept w w' := by
  go_enter Tryz.func33, Tryz.ntmps33
  go_wp2_with fail
  refine (HM.out _).mono ?_; rintro e w2 ⟨rfl, hK2⟩
  have hX : Has (w.heap.size + 2) (A.cells A.none') 26 w2 := (Has.new2 _ _ _ _ _).kept hK2
  have hR : Has w.heap.size (A.cells s) 26 w2 := (((Has.new _ _ _).alloc _).alloc _).kept hK2
  have hI := ((Has.new1 _ _ _ _).alloc _).kept hK2
  have hK := ((((Kept.refl w).alloc _ _).alloc _ _).alloc _ _).trans hK2
  clear hK2
  have q0 := hI.cell 0 _ rfl
  replace hX := Lib.hid hX
  replace hR := Lib.hid hR
  replace hK := Lib.hid hK
  clear hI
  go_wp2_with (first
    | (with_reducible refine load_has (o := ⟨some 31, _, _, _, _, _⟩) rfl 26 _ rfl _ rfl hR.out Tryz.underlying26 rfl (A.info25 _) ?_)
    | (with_reducible refine store_has (o := ⟨none, Op.store 26 (.tmp 4) _, _, _, _, _⟩) rfl 26 _ _ rfl _ _ rfl rfl hX.out (A.info25 _) (by kernel_rfl) (A.one_cells _) ?_))
  exact bodyPost_ret (results_has2 rfl (w.heap.size + 2) rfl (hX.out.row _) Tryz.underlying26 rfl (A.info25 _)) rfl ⟨rfl, hK.out.row (by omega) _⟩
set_option maxRecDepth 100000 in
set_option maxHeartbeats 2000000 in
theorem rdo_6 (s : A.Regs) (op a b c i : Int) (u : Bool) (w : World)
    (HM : Hid (∀ w, Calls Tryz.prog 41 #[.agg #[.int .i64 6, .int .i64 op, .int .i64 a, .int .i64 b, .int .i64 c, .int .i64 i, .bool u]] w fun e w' => e = .returned (.bool true) ∧ Kept w w')) :
    Calls Tryz.prog 33 #[.agg (A.cells s), .agg #[.int .i64 6, .int .i64 op, .int .i64 a, .int .i64 b, .int .i64 c, .int .i64 i, .bool u]] w fun e w' => e = .returned (.tuple #[.agg (A.cells s), .int .i64 0]) ∧ Kept w w' := by
  go_enter Tryz.func33, Tryz.ntmps33
  go_wp2_with fail
  refine (HM.out _).mono ?_; rintro e w2 ⟨rfl, hK2⟩
  have hX : Has (w.heap.size + 2) (A.cells A.none') 26 w2 := (Has.new2 _ _ _ _ _).kept hK2
  have hR : Has w.heap.size (A.cells s) 26 w2 := (((Has.new _ _ _).alloc _).alloc _).kept hK2
  have hI := ((Has.new1 _ _ _ _).alloc _).kept hK2
  have hK := ((((Kept.refl w).alloc _ _).alloc _ _).alloc _ _).trans hK2
  clear hK2
  have q0 := hI.cell 0 _ rfl
  replace hX := Lib.hid hX
  replace hR := Lib.hid hR
  replace hK := Lib.hid hK
  clear hI
  go_wp2_with (first
    | (with_reducible refine load_has (o := ⟨some 31, _, _, _, _, _⟩) rfl 26 _ rfl _ rfl hR.out Tryz.underlying26 rfl (A.info25 _) ?_)
    | (with_reducible refine store_has (o := ⟨none, Op.store 26 (.tmp 4) _, _, _, _, _⟩) rfl 26 _ _ rfl _ _ rfl rfl hX.out (A.info25 _) (by kernel_rfl) (A.one_cells _) ?_))
  exact bodyPost_ret (results_has2 rfl (w.heap.size + 2) rfl (hX.out.row _) Tryz.underlying26 rfl (A.info25 _)) rfl ⟨rfl, hK.out.row (by omega) _⟩
set_option maxRecDepth 100000 in
set_option maxHeartbeats 2000000 in
theorem rdo_7 (s : A.Regs) (op a b c i : Int) (u : Bool) (w : World)
    (HM : Hid (∀ w, Calls Tryz.prog 41 #[.agg #[.int .i64 7, .int .i64 op, .int .i64 a, .int .i64 b, .int .i64 c, .int .i64 i, .bool u]] w fun e w' => e = .returned (.bool true) ∧ Kept w w')) :
    Calls Tryz.prog 33 #[.agg (A.cells s), .agg #[.int .i64 7, .int .i64 op, .int .i64 a, .int .i64 b, .int .i64 c, .int .i64 i, .bool u]] w fun e w' => e = .returned (.tuple #[.agg (A.cells s), .int .i64 0]) ∧ Kept w w' := by
  go_enter Tryz.func33, Tryz.ntmps33
  go_wp2_with fail
  refine (HM.out _).mono ?_; rintro e w2 ⟨rfl, hK2⟩
  have hX : Has (w.heap.size + 2) (A.cells A.none') 26 w2 := (Has.new2 _ _ _ _ _).kept hK2
  have hR : Has w.heap.size (A.cells s) 26 w2 := (((Has.new _ _ _).alloc _).alloc _).kept hK2
  have hI := ((Has.new1 _ _ _ _).alloc _).kept hK2
  have hK := ((((Kept.refl w).alloc _ _).alloc _ _).alloc _ _).trans hK2
  clear hK2
  have q0 := hI.cell 0 _ rfl
  replace hX := Lib.hid hX
  replace hR := Lib.hid hR
  replace hK := Lib.hid hK
  clear hI
  go_wp2_with (first
    | (with_reducible refine load_has (o := ⟨some 31, _, _, _, _, _⟩) rfl 26 _ rfl _ rfl hR.out Tryz.underlying26 rfl (A.info25 _) ?_)
    | (with_reducible refine store_has (o := ⟨none, Op.store 26 (.tmp 4) _, _, _, _, _⟩) rfl 26 _ _ rfl _ _ rfl rfl hX.out (A.info25 _) (by kernel_rfl) (A.one_cells _) ?_))
  exact bodyPost_ret (results_has2 rfl (w.heap.size + 2) rfl (hX.out.row _) Tryz.underlying26 rfl (A.info25 _)) rfl ⟨rfl, hK.out.row (by omega) _⟩
end Go.Proofs.YtlmddkciamdldaaGreat

/-
  The contract of the document's Do, of the flags.
-/
namespace Go.Proofs.YtlmddkciamdldaaGreat
open Go.RowKit
set_option linter.unusedVariables false
set_option linter.unusedSimpArgs false
set_option maxRecDepth 100000
theorem quiet_to4 {P : Program} {f : FuncId} {args : Array Value} {W : World} {F : Nat → World} {v : Value}
    (h : Calls P f args W fun e w' => e = .returned v ∧ W = w') (hm : ∃ m, W = F m) :
    Calls P f args W fun e w'' => e = .returned v ∧ ∃ m, w'' = F m :=
  h.mono fun _ _ ⟨he, hw⟩ => ⟨he, by obtain ⟨m, hm⟩ := hm; exact ⟨m, by rw [← hw, hm]⟩⟩
set_option maxRecDepth 100000 in
set_option maxHeartbeats 2000000 in
theorem rdo_4 (s : A.Regs) (op a b c i bv cv X : Int) (u : Bool) (p q r t : Int) (xn xz xc xv : Bool) (hn : s.n = xn) (hz : s.z = xz) (hc : s.c = xc) (hv : s.v = xv) (ha0 : 0 ≤ a) (ha1 : a < 16) (hb0 : 0 ≤ b) (hb1 : b < 16) (hc0 : 0 ≤ c) (hc1 : c < 16) (b0 : 0 ≤ bv) (b1 : bv < 4294967296) (n0 : 0 ≤ cv) (n1 : cv < 4294967296) (hbv : s.r b.toNat = bv) (hcv : s.r c.toNat = cv) (hx0 : 0 ≤ X) (hx1 : X < 4294967296) (w : World)
    (HM : Hid (∀ w, Calls Tryz.prog 41 #[.agg #[.int .i64 4, .int .i64 op, .int .i64 a, .int .i64 b, .int .i64 c, .int .i64 i, .bool u]] w fun e w' => e = .returned (.bool true) ∧ Kept w w'))
    (C1 : Hid (∀ w, Calls Tryz.prog 53 #[.bool xn, .int .i64 31] w fun e w' => e = .returned (.int .u32 p) ∧ w = w'))
    (C2 : Hid (∀ w, Calls Tryz.prog 53 #[.bool xz, .int .i64 30] w fun e w' => e = .returned (.int .u32 q) ∧ w = w'))
    (C3 : Hid (∀ w, Calls Tryz.prog 53 #[.bool xc, .int .i64 29] w fun e w' => e = .returned (.int .u32 r) ∧ w = w'))
    (C4 : Hid (∀ w, Calls Tryz.prog 53 #[.bool xv, .int .i64 28] w fun e w' => e = .returned (.int .u32 t) ∧ w = w'))
    (HE : Hid (bits BinOp.or IntKind.u32 (bits BinOp.or IntKind.u32 (bits BinOp.or IntKind.u32 p q) r) t = X)) :
    Calls Tryz.prog 33 #[.agg (A.cells s), .agg #[.int .i64 4, .int .i64 op, .int .i64 a, .int .i64 b, .int .i64 c, .int .i64 i, .bool u]] w fun e w' => e = .returned (.tuple #[.agg (A.cells (A.show' (A.set (s) a.toNat X) X)), .int .i64 0]) ∧ Kept w w' := by
  go_enter Tryz.func33, Tryz.ntmps33
  go_wp2_with fail
  refine (HM.out _).mono ?_; rintro e w2 ⟨rfl, hK2⟩
  have hX : Has (w.heap.size + 2) (A.cells A.none') 26 w2 := (Has.new2 _ _ _ _ _).kept hK2
  have hR : Has w.heap.size (A.cells s) 26 w2 := (((Has.new _ _ _).alloc _).alloc _).kept hK2
  have hI := ((Has.new1 _ _ _ _).alloc _).kept hK2
  have hK := ((((Kept.refl w).alloc _ _).alloc _ _).alloc _ _).trans hK2
  have hl := hX.lt
  clear hK2
  have q0 := hI.cell 0 _ rfl
  have q3 := hI.cell 3 _ rfl
  have q4 := hI.cell 4 _ rfl
  have q5 := hI.cell 5 _ rfl
  have qb := hR.cell b.toNat _ (A.cell_r s b.toNat (by omega))
  have qc := hR.cell c.toNat _ (A.cell_r s c.toNat (by omega))
  rw [hbv] at qb
  rw [hcv] at qc
  replace hX := Lib.hid hX
  replace hR := Lib.hid hR
  replace hI := Lib.hid hI
  replace hK := Lib.hid hK
  go_upto_region 14 with (first
    | (with_reducible refine load_has (o := ⟨some 48, _, _, _, _, _⟩) rfl 26 _ rfl _ rfl hR.out Tryz.underlying26 rfl (A.info25 _) ?_)
    | (with_reducible refine store_last (o := ⟨none, Op.store 26 (.tmp 9) _, _, _, _, _⟩) rfl 26 _ _ rfl _ _ rfl rfl rfl (A.info25 _) (by kernel_rfl) (A.one_cells _) ?_))
  clear q0 q3 q4 q5 qb qc
  replace hX := hX.out.alloc (.cells (A.cells s) 26)
  replace hR := hR.out.alloc (.cells (A.cells s) 26)
  replace hI := hI.out.alloc (.cells (A.cells s) 26)
  replace hK := hK.out.alloc (A.cells s) 26
  have hT := Has.new (A.cells s) 26 w2
  generalize w2.heap.size = B9 at *
  generalize w2.alloc _ = w3 at *
  have q0 := hI.cell 0 _ rfl
  have q1 := hI.cell 1 _ rfl
  have q6 := hI.cell 6 _ rfl
  have qh := hR.cell 16 _ (A.cell_h s)
  have qq := hR.cell 19 _ (A.cell_c s)
  have t16 := hT.cell 16 _ (A.cell_h s)
  have t19 := hT.cell 19 _ (A.cell_c s)
  have t20 := hT.cell 20 _ (A.cell_v s)
  have f16 := hT.free 16
  have f19 := hT.free 19
  have f20 := hT.free 20
  have q17 := hR.cell 17 _ (A.cell_n s)
  have q18 := hR.cell 18 _ (A.cell_z s)
  have q20 := hR.cell 20 _ (A.cell_v s)
  replace hX := Lib.hid hX
  replace hR := Lib.hid hR
  replace hI := Lib.hid hI
  replace hK := Lib.hid hK
  replace hT := Lib.hid hT
  rw [hn] at q17
  rw [hz] at q18
  rw [hc] at qq
  rw [hv] at q20
  go_upto_region 17 with (fail)
  clear q0 q1 q6 t16 t19 t20 f16 f19 f20 qh
  go_quiet (first
    | (go_at_call 53; exact quiet_to4 (C1.out _) ⟨_, rfl⟩)
    | (go_at_call 53; exact quiet_to4 (C2.out _) ⟨_, rfl⟩)
    | (go_at_call 53; exact quiet_to4 (C3.out _) ⟨_, rfl⟩)
    | (go_at_call 53; exact quiet_to4 (C4.out _) ⟨_, rfl⟩))
  clear q17 q18 q20 qq
  replace hX := Lib.hid (show Has (w.heap.size + 2) (A.cells A.none') 26 (w3.drewN nq) from hX.out)
  replace hT := Lib.hid (show Has B9 (A.cells s) 26 (w3.drewN nq) from hT.out)
  replace hI := Lib.hid (show Has (w.heap.size + 1) _ 57 (w3.drewN nq) from hI.out)
  replace hK := Lib.hid (hK.out.drewN nq)
  clear hR
  have hR := hT
  generalize w3.drewN nq = w4 at *
  go_upto_region 38 with (fail)
  rw [HE.out]
  have q2 := hI.out.cell 2 _ rfl
  have ta := hT.out.cell a.toNat _ (A.cell_r (s) a.toNat (by omega))
  have fa := hT.out.free a.toNat
  go_upto_region 39 with (fail)
  clear q2 ta fa
  replace hT := Lib.hid (hT.out.set a.toNat (.int .u32 X))
  rw [A.set_r (s) a.toNat (by omega) X] at hT
  replace hX := Lib.hid (hX.out.other (p := ⟨B9, a.toNat, none⟩) (Nat.ne_of_lt hl) (.int .u32 X))
  replace hK := Lib.hid (hK.out.setCell (p := ⟨B9, a.toNat, none⟩) (by show w.heap.size ≤ B9; omega) (.int .u32 X))
  clear hI hR
  generalize World.setCell _ _ _ = w5 at *
  go_wp2_with (first
    | (with_reducible refine load_has (o := ⟨some 194, _, _, _, _, _⟩) rfl 26 _ rfl _ rfl hT.out Tryz.underlying26 rfl (A.info25 _) ?_)
    | (with_reducible refine store_has (o := ⟨none, Op.store 26 (.tmp 4) _, _, _, _, _⟩) rfl 26 _ _ rfl _ _ rfl rfl hX.out (A.info25 _) (by kernel_rfl) (A.one_cells _) ?_)
    | (go_at_call 49; (refine (rshow_any _ X hx0 hx1 _).mono ?_; rintro e w7 ⟨rfl, hK7⟩); (replace hX := Lib.hid (hX.out.kept hK7)); (replace hK := Lib.hid (hK.out.trans hK7)); clear hK7))
  exact bodyPost_ret (results_has2 rfl (w.heap.size + 2) rfl (hX.out.row _) Tryz.underlying26 rfl (A.info25 _)) rfl ⟨rfl, hK.out.row (by omega) _⟩
end Go.Proofs.YtlmddkciamdldaaGreat

/-
  The document's Do is the same plain function.
-/
namespace Go.Proofs.YtlmddkciamdldaaGreat
open Go.RowKit
set_option linter.unusedVariables false
set_option linter.unusedSimpArgs false
set_option maxRecDepth 100000
/-- the document's, of an operation that does not trap -/
theorem rdo_yes (s : A.Regs) (k op a b c i : Int) (u : Bool) (hs : A.Ok s) (hm : I.May ⟨k, op, a, b, c, i, u⟩) (hk : k = 1 ∨ k = 2 ∨ k = 3 ∨ k = 4) (ht : ¬ A.Traps s ⟨k, op, a, b, c, i, u⟩) (w : World) :
    Calls Tryz.prog 33 #[.agg (A.cells s), .agg #[.int .i64 k, .int .i64 op, .int .i64 a, .int .i64 b, .int .i64 c, .int .i64 i, .bool u]] w fun e w' => e = .returned (.tuple #[.agg (A.cells (A.done s ⟨k, op, a, b, c, i, u⟩)), .int .i64 0]) ∧ Kept w w' := by
  have HM := rmay_any k op a b c i u
  rw [show I.may ⟨k, op, a, b, c, i, u⟩ = true from decide_eq_true hm] at HM
  replace HM := Lib.hid HM
  have hr := A.res_ok s _ hs hm
  have hn := A.num_ok s _ hs hm.1.2.2.2.2.1 hm.1.2.2.2.2.2
  obtain ⟨⟨a0, a1, b0, b1, c0, c1⟩, hm2⟩ := hm
  simp only at a0 a1 b0 b1 c0 c1 hm2
  have hb := hs.1 b.toNat (by omega)
  rcases hk with rfl | rfl | rfl | rfl
  · rcases (show op = 0 ∨ op = 1 ∨ op = 2 ∨ op = 3 ∨ op = 4 ∨ op = 5 ∨ op = 6 ∨ op = 7 ∨ op = 8 ∨ op = 9 ∨ op = 10 ∨ op = 11 by omega) with rfl | rfl | rfl | rfl | rfl | rfl | rfl | rfl | rfl | rfl | rfl | rfl
    · cases u
      · exact rdo_1_0f s a b c i _ _ (s.r c.toNat) a0 (by omega) b0 (by omega) c0 (by omega) hb.1 hb.2 hn.1 hn.2 rfl rfl hr.1.1 hr.1.2 w HM (Lib.hid rfl)
      · exact rdo_1_0t s a b c i _ _ ((s.r c.toNat) * 65536 % 4294967296) a0 (by omega) b0 (by omega) c0 (by omega) hb.1 hb.2 hn.1 hn.2 rfl rfl hr.1.1 hr.1.2 w HM (Lib.hid rfl)
    · exact rdo_1_1 s a b c i _ _ (W.shift 1 (s.r b.toNat) (s.r c.toNat)) u a0 (by omega) b0 (by omega) c0 (by omega) hb.1 hb.2 hn.1 hn.2 rfl rfl hr.1.1 hr.1.2 w HM (Lib.hid (rshift_any 1 _ _ hb.1 hb.2 hn.1 hn.2))
    · exact rdo_1_2 s a b c i _ _ (W.shift 2 (s.r b.toNat) (s.r c.toNat)) u a0 (by omega) b0 (by omega) c0 (by omega) hb.1 hb.2 hn.1 hn.2 rfl rfl hr.1.1 hr.1.2 w HM (Lib.hid (rshift_any 2 _ _ hb.1 hb.2 hn.1 hn.2))
    · exact rdo_1_3 s a b c i _ _ (W.shift 3 (s.r b.toNat) (s.r c.toNat)) u a0 (by omega) b0 (by omega) c0 (by omega) hb.1 hb.2 hn.1 hn.2 rfl rfl hr.1.1 hr.1.2 w HM (Lib.hid (rshift_any 3 _ _ hb.1 hb.2 hn.1 hn.2))
    · exact rdo_1_4 s a b c i _ _ (bits BinOp.and IntKind.u32 (s.r b.toNat) (s.r c.toNat)) u a0 (by omega) b0 (by omega) c0 (by omega) hb.1 hb.2 hn.1 hn.2 rfl rfl hr.1.1 hr.1.2 w HM (Lib.hid rfl)
    · exact rdo_1_5 s a b c i _ _ (bits BinOp.andNot IntKind.u32 (s.r b.toNat) (s.r c.toNat)) u a0 (by omega) b0 (by omega) c0 (by omega) hb.1 hb.2 hn.1 hn.2 rfl rfl hr.1.1 hr.1.2 w HM (Lib.hid (A.ann_eq _ _ hb.1 hb.2 hn.1 hn.2))
    · exact rdo_1_6 s a b c i _ _ (bits BinOp.or IntKind.u32 (s.r b.toNat) (s.r c.toNat)) u a0 (by omega) b0 (by omega) c0 (by omega) hb.1 hb.2 hn.1 hn.2 rfl rfl hr.1.1 hr.1.2 w HM (Lib.hid rfl)
    · exact rdo_1_7 s a b c i _ _ (bits BinOp.xor IntKind.u32 (s.r b.toNat) (s.r c.toNat)) u a0 (by omega) b0 (by omega) c0 (by omega) hb.1 hb.2 hn.1 hn.2 rfl rfl hr.1.1 hr.1.2 w HM (Lib.hid (A.xor_eq _ _ hb.1 hb.2 hn.1 hn.2))
    · cases u
      · exact rdo_1_8f s a b c i _ _ _ _ _ a0 (by omega) b0 (by omega) c0 (by omega) hb.1 hb.2 hn.1 hn.2 rfl rfl hr.1.1 hr.1.2 w HM (Lib.hid (radd_any _ _ false hb.1 hb.2 hn.1 hn.2))
      · exact rdo_1_8t s a b c i _ _ _ _ _ a0 (by omega) b0 (by omega) c0 (by omega) hb.1 hb.2 hn.1 hn.2 rfl rfl hr.1.1 hr.1.2 w HM (Lib.hid (radd_any _ _ s.c hb.1 hb.2 hn.1 hn.2))
    · cases u
      · exact rdo_1_9f s a b c i _ _ _ _ _ a0 (by omega) b0 (by omega) c0 (by omega) hb.1 hb.2 hn.1 hn.2 rfl rfl hr.1.1 hr.1.2 w HM (Lib.hid (rsub_any _ _ false hb.1 hb.2 hn.1 hn.2))
      · exact rdo_1_9t s a b c i _ _ _ _ _ a0 (by omega) b0 (by omega) c0 (by omega) hb.1 hb.2 hn.1 hn.2 rfl rfl hr.1.1 hr.1.2 w HM (Lib.hid (rsub_any _ _ s.c hb.1 hb.2 hn.1 hn.2))
    · exact rdo_1_10 s a b c i _ _ _ u _ a0 (by omega) b0 (by omega) c0 (by omega) hb.1 hb.2 hn.1 hn.2 rfl rfl hr.1.1 hr.1.2 w HM (Lib.hid (rmul_any _ _ u hb.1 hb.2 hn.1 hn.2))
    · have hz : 0 < W.sgn (s.r c.toNat) := by
        have : ¬ W.sgn (s.r c.toNat) ≤ 0 := fun h => ht ⟨Or.inl rfl, rfl, h⟩
        omega
      exact rdo_1_11 s a b c i _ _ _ u _ a0 (by omega) b0 (by omega) c0 (by omega) hb.1 hb.2 hn.1 hn.2 rfl rfl hr.1.1 hr.1.2 w HM (Lib.hid (rdiv_yes _ _ hb.1 hb.2 hn.1 hn.2 hz))
  · rcases (show op = 0 ∨ op = 1 ∨ op = 2 ∨ op = 3 ∨ op = 4 ∨ op = 5 ∨ op = 6 ∨ op = 7 ∨ op = 8 ∨ op = 9 ∨ op = 10 ∨ op = 11 by omega) with rfl | rfl | rfl | rfl | rfl | rfl | rfl | rfl | rfl | rfl | rfl | rfl
    · cases u
      · exact rdo_2_0f s a b c i _ _ (i % 4294967296) a0 (by omega) b0 (by omega) c0 (by omega) hb.1 hb.2 hn.1 hn.2 rfl rfl hr.1.1 hr.1.2 w HM (Lib.hid rfl)
      · exact rdo_2_0t s a b c i _ _ ((i % 4294967296) * 65536 % 4294967296) a0 (by omega) b0 (by omega) c0 (by omega) hb.1 hb.2 hn.1 hn.2 rfl rfl hr.1.1 hr.1.2 w HM (Lib.hid rfl)
    · exact rdo_2_1 s a b c i _ _ (W.shift 1 (s.r b.toNat) (i % 4294967296)) u a0 (by omega) b0 (by omega) c0 (by omega) hb.1 hb.2 hn.1 hn.2 rfl rfl hr.1.1 hr.1.2 w HM (Lib.hid (rshift_any 1 _ _ hb.1 hb.2 hn.1 hn.2))
    · exact rdo_2_2 s a b c i _ _ (W.shift 2 (s.r b.toNat) (i % 4294967296)) u a0 (by omega) b0 (by omega) c0 (by omega) hb.1 hb.2 hn.1 hn.2 rfl rfl hr.1.1 hr.1.2 w HM (Lib.hid (rshift_any 2 _ _ hb.1 hb.2 hn.1 hn.2))
    · exact rdo_2_3 s a b c i _ _ (W.shift 3 (s.r b.toNat) (i % 4294967296)) u a0 (by omega) b0 (by omega) c0 (by omega) hb.1 hb.2 hn.1 hn.2 rfl rfl hr.1.1 hr.1.2 w HM (Lib.hid (rshift_any 3 _ _ hb.1 hb.2 hn.1 hn.2))
    · exact rdo_2_4 s a b c i _ _ (bits BinOp.and IntKind.u32 (s.r b.toNat) (i % 4294967296)) u a0 (by omega) b0 (by omega) c0 (by omega) hb.1 hb.2 hn.1 hn.2 rfl rfl hr.1.1 hr.1.2 w HM (Lib.hid rfl)
    · exact rdo_2_5 s a b c i _ _ (bits BinOp.andNot IntKind.u32 (s.r b.toNat) (i % 4294967296)) u a0 (by omega) b0 (by omega) c0 (by omega) hb.1 hb.2 hn.1 hn.2 rfl rfl hr.1.1 hr.1.2 w HM (Lib.hid (A.ann_eq _ _ hb.1 hb.2 hn.1 hn.2))
    · exact rdo_2_6 s a b c i _ _ (bits BinOp.or IntKind.u32 (s.r b.toNat) (i % 4294967296)) u a0 (by omega) b0 (by omega) c0 (by omega) hb.1 hb.2 hn.1 hn.2 rfl rfl hr.1.1 hr.1.2 w HM (Lib.hid rfl)
    · exact rdo_2_7 s a b c i _ _ (bits BinOp.xor IntKind.u32 (s.r b.toNat) (i % 4294967296)) u a0 (by omega) b0 (by omega) c0 (by omega) hb.1 hb.2 hn.1 hn.2 rfl rfl hr.1.1 hr.1.2 w HM (Lib.hid (A.xor_eq _ _ hb.1 hb.2 hn.1 hn.2))
    · cases u
      · exact rdo_2_8f s a b c i _ _ _ _ _ a0 (by omega) b0 (by omega) c0 (by omega) hb.1 hb.2 hn.1 hn.2 rfl rfl hr.1.1 hr.1.2 w HM (Lib.hid (radd_any _ _ false hb.1 hb.2 hn.1 hn.2))
      · exact rdo_2_8t s a b c i _ _ _ _ _ a0 (by omega) b0 (by omega) c0 (by omega) hb.1 hb.2 hn.1 hn.2 rfl rfl hr.1.1 hr.1.2 w HM (Lib.hid (radd_any _ _ s.c hb.1 hb.2 hn.1 hn.2))
    · cases u
      · exact rdo_2_9f s a b c i _ _ _ _ _ a0 (by omega) b0 (by omega) c0 (by omega) hb.1 hb.2 hn.1 hn.2 rfl rfl hr.1.1 hr.1.2 w HM (Lib.hid (rsub_any _ _ false hb.1 hb.2 hn.1 hn.2))
      · exact rdo_2_9t s a b c i _ _ _ _ _ a0 (by omega) b0 (by omega) c0 (by omega) hb.1 hb.2 hn.1 hn.2 rfl rfl hr.1.1 hr.1.2 w HM (Lib.hid (rsub_any _ _ s.c hb.1 hb.2 hn.1 hn.2))
    · exact rdo_2_10 s a b c i _ _ _ u _ a0 (by omega) b0 (by omega) c0 (by omega) hb.1 hb.2 hn.1 hn.2 rfl rfl hr.1.1 hr.1.2 w HM (Lib.hid (rmul_any _ _ u hb.1 hb.2 hn.1 hn.2))
    · have hz : 0 < W.sgn (i % 4294967296) := by
        have : ¬ W.sgn (i % 4294967296) ≤ 0 := fun h => ht ⟨Or.inr rfl, rfl, h⟩
        omega
      exact rdo_2_11 s a b c i _ _ _ u _ a0 (by omega) b0 (by omega) c0 (by omega) hb.1 hb.2 hn.1 hn.2 rfl rfl hr.1.1 hr.1.2 w HM (Lib.hid (rdiv_yes _ _ hb.1 hb.2 hn.1 hn.2 hz))
  · exact rdo_3 s op a b c i _ _ s.h u a0 (by omega) b0 (by omega) c0 (by omega) hb.1 hb.2 (hs.1 c.toNat (by omega)).1 (hs.1 c.toNat (by omega)).2 rfl rfl hr.1.1 hr.1.2 w HM (Lib.hid rfl)
  · exact rdo_4 s op a b c i _ _ (A.flg s) u _ _ _ _ s.n s.z s.c s.v rfl rfl rfl rfl a0 (by omega) b0 (by omega) c0 (by omega) hb.1 hb.2 (hs.1 c.toNat (by omega)).1 (hs.1 c.toNat (by omega)).2 rfl rfl hr.1.1 hr.1.2 w HM (Lib.hid (rbit_31 s.n)) (Lib.hid (rbit_30 s.z)) (Lib.hid (rbit_29 s.c)) (Lib.hid (rbit_28 s.v)) (Lib.hid (A.flg_eq s))
theorem rdo_run (s : A.Regs) (k op a b c i : Int) (u : Bool) (hs : A.Ok s) (w : World) :
    Calls Tryz.prog 33 #[.agg (A.cells s), .agg #[.int .i64 k, .int .i64 op, .int .i64 a, .int .i64 b, .int .i64 c, .int .i64 i, .bool u]] w fun e w' => e = .returned (.tuple #[.agg (A.cells (A.run s ⟨k, op, a, b, c, i, u⟩).1), .int .i64 (A.run s ⟨k, op, a, b, c, i, u⟩).2]) ∧ Kept w w' := by
  have HM := rmay_any k op a b c i u
  by_cases hm : I.May ⟨k, op, a, b, c, i, u⟩
  · rw [show I.may ⟨k, op, a, b, c, i, u⟩ = true from decide_eq_true hm] at HM
    by_cases h5 : k = 5 ∨ k = 6 ∨ k = 7
    · rw [A.run_no s _ (Or.inr h5)]
      rcases h5 with rfl | rfl | rfl
      · exact rdo_5 s op a b c i u w (Lib.hid HM)
      · exact rdo_6 s op a b c i u w (Lib.hid HM)
      · exact rdo_7 s op a b c i u w (Lib.hid HM)
    · by_cases ht : A.Traps s ⟨k, op, a, b, c, i, u⟩
      · rw [A.run_trap s _ hm ht]
        replace HM := Lib.hid HM
        have hn := A.num_ok s _ hs hm.1.2.2.2.2.1 hm.1.2.2.2.2.2
        obtain ⟨⟨a0, a1, b0, b1, c0, c1⟩, hm2⟩ := hm
        simp only at a0 a1 b0 b1 c0 c1 hm2
        have hb := hs.1 b.toNat (by omega)
        obtain ⟨hk, h11, hz⟩ := ht
        simp only at hk h11
        subst h11
        rcases hk with rfl | rfl
        · exact rdo_1_11n s a b c i _ _ 0 u a0 (by omega) b0 (by omega) c0 (by omega) hb.1 hb.2 hn.1 hn.2 rfl rfl (by omega) (by omega) w HM (Lib.hid (rdiv_no _ _ hb.1 hb.2 hn.1 hn.2 hz))
        · exact rdo_2_11n s a b c i _ _ 0 u a0 (by omega) b0 (by omega) c0 (by omega) hb.1 hb.2 hn.1 hn.2 rfl rfl (by omega) (by omega) w HM (Lib.hid (rdiv_no _ _ hb.1 hb.2 hn.1 hn.2 hz))
      · have hk : k = 1 ∨ k = 2 ∨ k = 3 ∨ k = 4 := by have := A.may_kind _ hm; simp only at this; omega
        rw [A.run_yes s _ hm hk ht]
        exact rdo_yes s k op a b c i u hs hm hk ht w
  · rw [A.run_no s _ (Or.inl hm)]
    rw [show I.may ⟨k, op, a, b, c, i, u⟩ = false from decide_eq_false hm] at HM
    exact rdo_not s k op a b c i u w (Lib.hid HM)
end Go.Proofs.YtlmddkciamdldaaGreat

/-
  The document's machine: move as a whole.
-/
namespace Go.Proofs.YtlmddkciamdldaaGreat
open Go.RowKit
set_option linter.unusedVariables false
set_option linter.unusedSimpArgs false
set_option maxRecDepth 100000
/-- the machine behind the document's move -/
noncomputable def X.mvX (x : X.St) (j : I.Ins) : X.St := ⟨(X.doX x j).ws, if X.doT x j = 0 ∨ X.doT x j = 1 then X.doS x j else x.s, x.pc, x.st, (X.doX x j).ins, (X.doX x j).outs⟩
theorem X.mvX_to (x : X.St) (j : I.Ins) (ws : List Int) (s : A.Regs) (ins outs : List Int) (h1 : (X.doX x j).ws = ws) (h2 : (if X.doT x j = 0 ∨ X.doT x j = 1 then X.doS x j else x.s) = s) (h3 : (X.doX x j).ins = ins) (h4 : (X.doX x j).outs = outs) : X.mvX x j = ⟨ws, s, x.pc, x.st, ins, outs⟩ := by
  unfold X.mvX; rw [h1, h2, h3, h4]
theorem rmove_any {F : Nat → Prop} {E : Nat} {x : X.St} {w : World} (h : RMac F E x w) (op a b c i : Int) (u : Bool) (hm : I.May ⟨5, op, a, b, c, i, u⟩) (hn : x.outs.length < 1000000) :
    Calls Tryz.prog 31 #[.pointer (some ⟨E, 0, none⟩), .agg #[.int .i64 5, .int .i64 op, .int .i64 a, .int .i64 b, .int .i64 c, .int .i64 i, .bool u]] w fun e w' => e = .returned (.int .i64 (X.doT x ⟨5, op, a, b, c, i, u⟩)) ∧ ∃ F', RMac F' E (X.mvX x ⟨5, op, a, b, c, i, u⟩) w' ∧ Turn F w w' ∧ ∀ k, F' k → F k ∨ w.heap.size ≤ k := by
  obtain ⟨⟨a0, a1, b0, b1, c0, c1⟩, hm2⟩ := hm
  simp only at a0 a1 b0 b1 c0 c1 hm2
  have ho : op = 0 ∨ op = 1 ∨ op = 2 ∨ op = 3 := by omega
  obtain ⟨D, C, ai, ni, ci, ao, no, co, hA⟩ := h
  have hws := hA.mem.rng
  have hin := hA.ins.rng
  have hadr := X.adr_ok x ⟨5, op, a, b, c, i, u⟩
  rcases ho with rfl | rfl | rfl | rfl
  · generalize hj : (⟨5, 0, a, b, c, i, u⟩ : I.Ins) = j at hadr
    have e1 : X.doT x j = X.ldT x (X.adr x j) := by rw [← hj]; rfl
    have e2 : X.doS x j = A.show' (A.set x.s a.toNat (X.ldV x (X.adr x j))) (X.ldV x (X.adr x j)) := by rw [← hj]; rfl
    have e3 : X.doX x j = ⟨x.ws, x.s, x.pc, x.st, X.ldI x (X.adr x j), x.outs⟩ := by rw [← hj]; rfl
    have hy : (x.s.r b.toNat + i % 4294967296) % 4294967296 = X.adr x j := by rw [← hj]; rfl
    generalize X.adr x j = y at *
    by_cases hp : y = 4294967232
    · have t0 : X.doT x j = 0 := by rw [e1]; exact if_pos hp
      have v0 : X.ldV x y = x.ins.headD 0 := if_pos hp
      have i0 : X.ldI x y = x.ins.tail := if_pos hp
      have L := fun (w' : World) (h' : RMacAt F E x D C ai ni ci ao no co w') => R.word_any h'.mem y hadr.1 hadr.2
      rw [t0]
      cases hx : x.ins with
      | nil =>
        have ex : X.mvX x j = ⟨x.ws, A.show' (A.set x.s a.toNat 0) 0, x.pc, x.st, x.ins, x.outs⟩ := X.mvX_to x j _ _ _ _ (by rw [e3]) (by rw [if_pos (Or.inl t0), e2, v0, hx]; rfl) (by rw [e3, i0, hx]; rfl) (by rw [e3])
        rw [ex]
        refine (rmove_0n hA a b c i y _ _ u a0 (by omega) b0 (by omega) hadr.1 hadr.2 hy hp hx L).mono ?_
        rintro e w' ⟨he, hB, ai', ni', ci', h3⟩
        exact ⟨he, F, ⟨_, _, _, _, _, _, _, _, h3⟩, hB.turn hA.inE, fun k hk => Or.inl hk⟩
      | cons v ys =>
        have hv := hin v (by rw [hx]; simp)
        have ex : X.mvX x j = ⟨x.ws, A.show' (A.set x.s a.toNat v) v, x.pc, x.st, ys, x.outs⟩ := X.mvX_to x j _ _ _ _ (by rw [e3]) (by rw [if_pos (Or.inl t0), e2, v0, hx]; rfl) (by rw [e3, i0, hx]; rfl) (by rw [e3])
        rw [ex]
        refine (rmove_0i hA a b c i y v _ _ u a0 (by omega) b0 (by omega) hadr.1 hadr.2 hy ys hv.1 hv.2 hp hx L).mono ?_
        rintro e w' ⟨he, hB, ai', ni', ci', h3⟩
        exact ⟨he, F, ⟨_, _, _, _, _, _, _, _, h3⟩, hB.turn hA.inE, fun k hk => Or.inl hk⟩
    · have t0 : X.doT x j = M.wt x.ws y := by rw [e1]; exact if_neg hp
      have v0 : X.ldV x y = M.word x.ws y := if_neg hp
      have i0 : X.ldI x y = x.ins := if_neg hp
      have hv := X.word_ok x.ws y hws
      have L := fun (w' : World) (h' : RMacAt F E x D C ai ni ci ao no co w') => R.word_any h'.mem y hadr.1 hadr.2
      rw [t0]
      by_cases tz : M.wt x.ws y = 0
      · rw [tz] at L ⊢
        have ex : X.mvX x j = ⟨x.ws, A.show' (A.set x.s a.toNat (M.word x.ws y)) (M.word x.ws y), x.pc, x.st, x.ins, x.outs⟩ := X.mvX_to x j _ _ _ _ (by rw [e3]) (by rw [if_pos (Or.inl (t0.trans tz)), e2, v0]) (by rw [e3, i0]) (by rw [e3])
        rw [ex]
        refine (rmove_0w hA a b c i y _ u a0 (by omega) b0 (by omega) hadr.1 hadr.2 hy hv.1 hv.2 hp L).mono ?_
        rintro e w' ⟨he, hB, ai', ni', ci', h3⟩
        exact ⟨he, F, ⟨_, _, _, _, _, _, _, _, h3⟩, hB.turn hA.inE, fun k hk => Or.inl hk⟩
      · have h34 := X.wt_st x.ws y
        have ex : X.mvX x j = x := (X.mvX_to x j x.ws x.s x.ins x.outs (by rw [e3]) (by rw [if_neg (by rw [t0]; omega)]) (by rw [e3, i0]) (by rw [e3])).trans rfl
        rw [ex]
        refine (rmove_0t hA a b c i y _ _ u a0 (by omega) b0 (by omega) hadr.1 hadr.2 hy tz hp L).mono ?_
        rintro e w' ⟨he, hK⟩
        exact ⟨he, F, ⟨_, _, _, _, _, _, _, _, hA.kept hK⟩, hK.turn F, fun k hk => Or.inl hk⟩
  · generalize hj : (⟨5, 1, a, b, c, i, u⟩ : I.Ins) = j at hadr
    have e1 : X.doT x j = M.bt x.ws (X.adr x j) := by rw [← hj]; rfl
    have e2 : X.doS x j = A.show' (A.set x.s a.toNat (M.byte x.ws (X.adr x j))) (M.byte x.ws (X.adr x j)) := by rw [← hj]; rfl
    have e3 : X.doX x j = x := by rw [← hj]; rfl
    have hy : (x.s.r b.toNat + i % 4294967296) % 4294967296 = X.adr x j := by rw [← hj]; rfl
    generalize X.adr x j = y at *
    have hv := X.byte_ok x.ws y
    have L := fun (w' : World) (h' : RMacAt F E x D C ai ni ci ao no co w') => R.byte_any h'.mem y hadr.1 hadr.2
    rw [e1]
    by_cases tz : M.bt x.ws y = 0
    · rw [tz] at L ⊢
      have ex : X.mvX x j = ⟨x.ws, A.show' (A.set x.s a.toNat (M.byte x.ws y)) (M.byte x.ws y), x.pc, x.st, x.ins, x.outs⟩ := X.mvX_to x j _ _ _ _ (by rw [e3]) (by rw [if_pos (Or.inl (e1.trans tz)), e2]) (by rw [e3]) (by rw [e3])
      rw [ex]
      refine (rmove_1w hA a b c i y _ u a0 (by omega) b0 (by omega) hadr.1 hadr.2 hy hv.1 hv.2 L).mono ?_
      rintro e w' ⟨he, hB, ai', ni', ci', h3⟩
      exact ⟨he, F, ⟨_, _, _, _, _, _, _, _, h3⟩, hB.turn hA.inE, fun k hk => Or.inl hk⟩
    · have h34 := X.bt_st x.ws y
      have ex : X.mvX x j = x := (X.mvX_to x j x.ws x.s x.ins x.outs (by rw [e3]) (by rw [if_neg (by rw [e1]; omega)]) (by rw [e3]) (by rw [e3])).trans rfl
      rw [ex]
      refine (rmove_1t hA a b c i y _ _ u a0 (by omega) b0 (by omega) hadr.1 hadr.2 hy tz L).mono ?_
      rintro e w' ⟨he, hK⟩
      exact ⟨he, F, ⟨_, _, _, _, _, _, _, _, hA.kept hK⟩, hK.turn F, fun k hk => Or.inl hk⟩
  · generalize hj : (⟨5, 2, a, b, c, i, u⟩ : I.Ins) = j at hadr
    have e1 : X.doT x j = X.swT x (X.adr x j) := by rw [← hj]; rfl
    have e2 : X.doS x j = x.s := by rw [← hj]; rfl
    have e3 : X.doX x j = ⟨X.swW x (X.adr x j) (x.s.r a.toNat), x.s, x.pc, x.st, x.ins, X.swO x (X.adr x j) (x.s.r a.toNat)⟩ := by rw [← hj]; rfl
    have hy : (x.s.r b.toNat + i % 4294967296) % 4294967296 = X.adr x j := by rw [← hj]; rfl
    generalize X.adr x j = y at *
    have hr := hA.ok.1 a.toNat (by omega)
    have es : (if X.doT x j = 0 ∨ X.doT x j = 1 then X.doS x j else x.s) = x.s := by rw [e2]; split <;> rfl
    by_cases h1 : y = 4294967236
    · have t0 : X.doT x j = 0 := by rw [e1]; exact if_pos h1
      have ex : X.mvX x j = ⟨x.ws, x.s, x.pc, x.st, x.ins, x.outs ++ [x.s.r a.toNat]⟩ := X.mvX_to x j _ _ _ _ (by rw [e3]; exact if_pos h1) es (by rw [e3]) (by rw [e3]; exact if_pos h1)
      rw [t0, ex]
      refine (rmove_2o hA a b c i y _ u a0 (by omega) b0 (by omega) hadr.1 hadr.2 hy rfl hr.1 hr.2 h1 hn).mono ?_
      rintro e w' ⟨he, F', ao', no', co', h3, h4, h5⟩
      exact ⟨he, F', ⟨_, _, _, _, _, _, _, _, h3⟩, h4, h5⟩
    · by_cases h2 : y = 4294967240
      · have t0 : X.doT x j = 1 := by rw [e1]; unfold X.swT; rw [if_neg h1, if_pos h2]
        have ex : X.mvX x j = x := (X.mvX_to x j x.ws x.s x.ins x.outs (by rw [e3]; show X.swW x y _ = _; unfold X.swW; rw [if_neg h1, if_pos h2]) es (by rw [e3]) (by rw [e3]; exact if_neg h1)).trans rfl
        rw [t0, ex]
        refine (rmove_2h hA a b c i y 0 u a0 (by omega) b0 (by omega) hadr.1 hadr.2 hy h2).mono ?_
        rintro e w' ⟨he, hK⟩
        exact ⟨he, F, ⟨_, _, _, _, _, _, _, _, hA.kept hK⟩, hK.turn F, fun k hk => Or.inl hk⟩
      · have t0 : X.doT x j = M.wt x.ws y := by rw [e1]; unfold X.swT; rw [if_neg h1, if_neg h2]
        have ex : X.mvX x j = ⟨M.setW x.ws y (x.s.r a.toNat), x.s, x.pc, x.st, x.ins, x.outs⟩ := X.mvX_to x j _ _ _ _ (by rw [e3]; show X.swW x y _ = _; unfold X.swW; rw [if_neg h1, if_neg h2]) es (by rw [e3]) (by rw [e3]; exact if_neg h1)
        rw [t0, ex]
        refine (rmove_2 hA a b c i y (M.wt x.ws y) (x.s.r a.toNat) u a0 (by omega) b0 (by omega) hadr.1 hadr.2 hy rfl h1 h2 (M.setW x.ws y (x.s.r a.toNat)) fun w' h' => (R.setW_any h'.mem y _ hadr.1 hadr.2 hr.1 hr.2).mono ?_).mono ?_
        · rintro e w2 ⟨he, h3, hB⟩
          exact ⟨he, hB, h'.words hB _ h3⟩
        · rintro e w' ⟨he, hB, h3⟩
          exact ⟨he, F, ⟨_, _, _, _, _, _, _, _, h3⟩, hB.turn hA.inC, fun k hk => Or.inl hk⟩
  · generalize hj : (⟨5, 3, a, b, c, i, u⟩ : I.Ins) = j at hadr
    have e1 : X.doT x j = M.bt x.ws (X.adr x j) := by rw [← hj]; rfl
    have e2 : X.doS x j = x.s := by rw [← hj]; rfl
    have e3 : X.doX x j = ⟨M.setB x.ws (X.adr x j) (x.s.r a.toNat % 256), x.s, x.pc, x.st, x.ins, x.outs⟩ := by rw [← hj]; rfl
    have hy : (x.s.r b.toNat + i % 4294967296) % 4294967296 = X.adr x j := by rw [← hj]; rfl
    generalize X.adr x j = y at *
    have es : (if X.doT x j = 0 ∨ X.doT x j = 1 then X.doS x j else x.s) = x.s := by rw [e2]; split <;> rfl
    have ex : X.mvX x j = ⟨M.setB x.ws y (x.s.r a.toNat % 256), x.s, x.pc, x.st, x.ins, x.outs⟩ := X.mvX_to x j _ _ _ _ (by rw [e3]) es (by rw [e3]) (by rw [e3])
    rw [e1, ex]
    refine (rmove_3 hA a b c i y (M.bt x.ws y) (x.s.r a.toNat % 256) u a0 (by omega) b0 (by omega) hadr.1 hadr.2 hy rfl (M.setB x.ws y (x.s.r a.toNat % 256)) fun w' h' => (R.setB_any h'.mem y _ hadr.1 hadr.2 (by omega) (by omega)).mono ?_).mono ?_
    · rintro e w2 ⟨he, h3, hB⟩
      exact ⟨he, hB, h'.words hB _ h3⟩
    · rintro e w' ⟨he, hB, h3⟩
      exact ⟨he, F, ⟨_, _, _, _, _, _, _, _, h3⟩, hB.turn hA.inC, fun k hk => Or.inl hk⟩
end Go.Proofs.YtlmddkciamdldaaGreat

/-
  The document's machine: Step.
-/
namespace Go.Proofs.YtlmddkciamdldaaGreat
open Go.RowKit
set_option linter.unusedVariables false
set_option linter.unusedSimpArgs false
set_option maxRecDepth 100000
theorem RMac.at {F : Nat → Prop} {E : Nat} {x : X.St} {w : World} (h : RMac F E x w) : ∃ D si so, Has E (X.rc D x.s x.pc x.st si so) 54 w := by
  obtain ⟨D, C, ai, ni, ci, ao, no, co, h⟩ := h; exact ⟨D, _, _, h.box⟩
theorem RMac.pc {F : Nat → Prop} {E : Nat} {x : X.St} {w : World} (h : RMac F E x w) : w.cell? ⟨E, 22, none⟩ = some (.int .u32 x.pc) ∧ w.frozen? ⟨E, 22, none⟩ = false := by
  obtain ⟨D, si, so, h⟩ := h.at; exact ⟨h.cell 22 _ rfl, h.free 22⟩
theorem RMac.st {F : Nat → Prop} {E : Nat} {x : X.St} {w : World} (h : RMac F E x w) : w.cell? ⟨E, 23, none⟩ = some (.int .i64 x.st) ∧ w.frozen? ⟨E, 23, none⟩ = false := by
  obtain ⟨D, si, so, h⟩ := h.at; exact ⟨h.cell 23 _ rfl, h.free 23⟩
theorem RMac.inE {F : Nat → Prop} {E : Nat} {x : X.St} {w : World} (h : RMac F E x w) : F E := by obtain ⟨D, C, ai, ni, ci, ao, no, co, h⟩ := h; exact h.inE
theorem RMac.bounds {F : Nat → Prop} {E : Nat} {x : X.St} {w : World} (h : RMac F E x w) : A.Ok x.s ∧ 0 ≤ x.pc ∧ x.pc < 4294967296 ∧ (∀ y ∈ x.ws, 0 ≤ y ∧ y < 4294967296) ∧ (∀ y ∈ x.ins, 0 ≤ y ∧ y < 4294967296) := by
  obtain ⟨D, C, ai, ni, ci, ao, no, co, h⟩ := h; exact ⟨h.ok, h.pc0, h.pc1, h.mem.rng, h.ins.rng⟩
theorem RMac.range {F : Nat → Prop} {E : Nat} {x : X.St} {w : World} (h : RMac F E x w) : w.rangeAt E 1 (A.cells x.s).toList := by obtain ⟨D, si, so, h⟩ := h.at; exact X.rc_range h
theorem RMac.there {F : Nat → Prop} {E : Nat} {x : X.St} {w : World} (h : RMac F E x w) : w.there E 1 21 := by obtain ⟨D, si, so, h⟩ := h.at; exact h.there 1 21 (by rw [X.rc_size]; omega)
theorem RMac.reg {F : Nat → Prop} {E : Nat} {x : X.St} {w : World} (h : RMac F E x w) (j : Nat) (hj : j < 16) : w.cell? ⟨E, 1 + j, none⟩ = some (.int .u32 (x.s.r j)) ∧ w.frozen? ⟨E, 1 + j, none⟩ = false := by
  obtain ⟨D, si, so, h⟩ := h.at; exact ⟨h.cell _ _ (X.rc_r _ _ _ _ _ _ j hj), h.free _⟩
theorem RMac.setSt {F : Nat → Prop} {E : Nat} {x : X.St} {w : World} (h : RMac F E x w) (t : Int) : RMac F E ⟨x.ws, x.s, x.pc, t, x.ins, x.outs⟩ (w.setCell ⟨E, 23, none⟩ (.int .i64 t)) ∧ But E w (w.setCell ⟨E, 23, none⟩ (.int .i64 t)) := by
  obtain ⟨D, C, ai, ni, ci, ao, no, co, h⟩ := h
  have hB : But E w (w.setCell ⟨E, 23, none⟩ (.int .i64 t)) := (But.refl E w).setCell _ _
  have hb := h.box.set 23 (.int .i64 t)
  rw [X.rc_st] at hb
  exact ⟨⟨_, _, _, _, _, _, _, _, h.own hB _ _ _ hb h.ok h.pc0 h.pc1⟩, hB⟩
theorem RMac.setPc {F : Nat → Prop} {E : Nat} {x : X.St} {w : World} (h : RMac F E x w) (pc : Int) (p0 : 0 ≤ pc) (p1 : pc < 4294967296) : RMac F E ⟨x.ws, x.s, pc, x.st, x.ins, x.outs⟩ (w.setCell ⟨E, 22, none⟩ (.int .u32 pc)) ∧ But E w (w.setCell ⟨E, 22, none⟩ (.int .u32 pc)) := by
  obtain ⟨D, C, ai, ni, ci, ao, no, co, h⟩ := h
  have hB : But E w (w.setCell ⟨E, 22, none⟩ (.int .u32 pc)) := (But.refl E w).setCell _ _
  have hb := h.box.set 22 (.int .u32 pc)
  rw [X.rc_pc] at hb
  exact ⟨⟨_, _, _, _, _, _, _, _, h.own hB _ _ _ hb h.ok p0 p1⟩, hB⟩
theorem RMac.setRegs {F : Nat → Prop} {E : Nat} {x : X.St} {w : World} (h : RMac F E x w) (s : A.Regs) (ok : A.Ok s) : RMac F E ⟨x.ws, s, x.pc, x.st, x.ins, x.outs⟩ (w.setCells E 1 (A.cells s).toList) ∧ But E w (w.setCells E 1 (A.cells s).toList) := by
  obtain ⟨D, C, ai, ni, ci, ao, no, co, h⟩ := h
  have hB : But E w (w.setCells E 1 (A.cells s).toList) := but_setCells _ _ _ _ (But.refl E w)
  have hb := Has.setN (A.cells s).toList 1 _ w h.box
  rw [X.rc_regs] at hb
  exact ⟨⟨_, _, _, _, _, _, _, _, h.own hB _ _ _ hb ok h.pc0 h.pc1⟩, hB⟩
theorem RMac.setReg {F : Nat → Prop} {E : Nat} {x : X.St} {w : World} (h : RMac F E x w) (j : Nat) (hj : j < 16) (v : Int) (v0 : 0 ≤ v) (v1 : v < 4294967296) : RMac F E ⟨x.ws, A.set x.s j v, x.pc, x.st, x.ins, x.outs⟩ (w.setCell ⟨E, 1 + j, none⟩ (.int .u32 v)) ∧ But E w (w.setCell ⟨E, 1 + j, none⟩ (.int .u32 v)) := by
  obtain ⟨D, C, ai, ni, ci, ao, no, co, h⟩ := h
  have hB : But E w (w.setCell ⟨E, 1 + j, none⟩ (.int .u32 v)) := (But.refl E w).setCell _ _
  have hb := h.box.set (1 + j) (.int .u32 v)
  rw [X.rc_set _ _ _ _ _ _ j hj] at hb
  exact ⟨⟨_, _, _, _, _, _, _, _, h.own hB _ _ _ hb (A.ok_set _ _ _ h.ok v0 v1) h.pc0 h.pc1⟩, hB⟩
theorem RMac.word {F : Nat → Prop} {E : Nat} {x : X.St} {w : World} (h : RMac F E x w) : ∃ D, w.cell? ⟨E, 0, none⟩ = some (.pointer (some ⟨D, 0, none⟩)) ∧ ∀ w', Kept w w' → Calls Tryz.prog 29 #[.pointer (some ⟨D, 0, none⟩), .int .u32 x.pc] w' fun e w'' => e = .returned (.tuple #[.int .u32 (M.word x.ws x.pc), .int .i64 (M.wt x.ws x.pc)]) ∧ Kept w' w'' := by
  obtain ⟨D, C, ai, ni, ci, ao, no, co, h⟩ := h
  exact ⟨D, h.box.cell 0 _ rfl, fun w' hK => R.word_any (h.mem.kept hK) x.pc h.pc0 h.pc1⟩
theorem rstep_no {F : Nat → Prop} {E : Nat} {x : X.St} {w : World} (h : RMac F E x w) (h0 : ¬ x.st = 0) :
    Calls Tryz.prog 11 #[.pointer (some ⟨E, 0, none⟩)] w fun e w' => e = .returned (.int .i64 x.st) ∧ w = w' := by
  have cs := h.st.1
  have e0 : (x.st == 0) = false := by simpa using h0
  have e1 : (x.st != 0) = true := by simpa using h0
  go_enter Tryz.func11, Tryz.ntmps11
  go_wp2
  go_ret
  exact ⟨rfl, rfl⟩
set_option maxHeartbeats 2000000 in
theorem rstep_trap {F : Nat → Prop} {E : Nat} {x : X.St} {w : World} (h : RMac F E x w) (D : Nat) (v tw k op a b c i : Int) (u is : Bool) (h0 : x.st = 0)
    (cD : w.cell? ⟨E, 0, none⟩ = some (.pointer (some ⟨D, 0, none⟩)))
    (L : ∀ w', Kept w w' → Calls Tryz.prog 29 #[.pointer (some ⟨D, 0, none⟩), .int .u32 x.pc] w' fun e w'' => e = .returned (.tuple #[.int .u32 v, .int .i64 tw]) ∧ Kept w' w'')
    (DD : ∀ w, Calls Tryz.prog 30 #[.int .u32 v] w fun e w' => e = .returned (.tuple #[.agg #[.int .i64 k, .int .i64 op, .int .i64 a, .int .i64 b, .int .i64 c, .int .i64 i, .bool u], .bool is]) ∧ Kept w w') (ht : ¬ tw = 0) :
    Calls Tryz.prog 11 #[.pointer (some ⟨E, 0, none⟩)] w fun e w' => e = .returned (.int .i64 tw) ∧ RMac F E ⟨x.ws, x.s, x.pc, tw, x.ins, x.outs⟩ w' ∧ Turn F w w' := by
  have cs := h.st.1
  rw [h0] at cs
  have cp := h.pc.1
  have hEw : E < w.heap.size := h.sub E h.inE
  have hh := Lib.hid h
  clear h
  go_enter Tryz.func11, Tryz.ntmps11
  go_upto_region 3 with (fail)
  refine wp_region_held_drew (S := fun wz => Kept w wz) (by kernel_rfl) ?_ (fun hHeld => ?_)
  · exact (Kept.refl w).drew
  refine tk 0 ⟨some 19, .move (.tmp 0), 31, "ref.go:82", #[], none⟩ (v := ?_) hHeld ?_ ?_
  rotate_left
  · (intro wz hSw; (try dsimp only at hSw); go_simp; try with_reducible rfl)
  try simp only [Act.put, q0, q1, q2]
  refine tk 1 ⟨some 20, .nilCheck (.tmp 19), 0, "ref.go:82", #[eD 0], none⟩ (v := ?_) hHeld ?_ ?_
  rotate_left
  · (intro wz hSw; (try dsimp only at hSw); go_simp; try with_reducible rfl)
  try simp only [Act.put, q0, q1, q2]
  refine tk 2 ⟨some 21, .fieldAddr 54 (.tmp 20) 0, 0, "ref.go:82", #[eD 1], none⟩ (v := ?_) hHeld ?_ ?_
  rotate_left
  · (intro wz hSw; (try dsimp only at hSw); go_simp; try with_reducible rfl)
  try simp only [Act.put, q0, q1, q2]
  refine tk 3 ⟨some 22, .load 52 (.tmp 21), 52, "ref.go:82", #[eD 2], none⟩ (v := ?_) hHeld ?_ ?_
  rotate_left
  · (intro wz hSw; (try dsimp only at hSw); have p1 : World.cell? wz ⟨E, 0, none⟩ = some (.pointer (some ⟨D, 0, none⟩)) := (hSw.cell hEw).trans cD; have p2 : World.cell? wz ⟨E, 22, none⟩ = some (.int .u32 x.pc) := (hSw.cell hEw).trans cp; go_simp; try with_reducible rfl)
  try simp only [Act.put, q0, q1, q2]
  refine tk 4 ⟨some 23, .move (.tmp 0), 31, "ref.go:82", #[], none⟩ (v := ?_) hHeld ?_ ?_
  rotate_left
  · (intro wz hSw; (try dsimp only at hSw); go_simp; try with_reducible rfl)
  try simp only [Act.put, q0, q1, q2]
  refine tk 5 ⟨some 24, .nilCheck (.tmp 23), 0, "ref.go:82", #[eD 4], none⟩ (v := ?_) hHeld ?_ ?_
  rotate_left
  · (intro wz hSw; (try dsimp only at hSw); go_simp; try with_reducible rfl)
  try simp only [Act.put, q0, q1, q2]
  refine tk 6 ⟨some 25, .fieldAddr 54 (.tmp 24) 2, 0, "ref.go:82", #[eD 5], none⟩ (v := ?_) hHeld ?_ ?_
  rotate_left
  · (intro wz hSw; (try dsimp only at hSw); go_simp; try with_reducible rfl)
  try simp only [Act.put, q0, q1, q2]
  refine tk 7 ⟨some 26, .load 23 (.tmp 25), 23, "ref.go:82", #[eD 6], none⟩ (v := ?_) hHeld ?_ ?_
  rotate_left
  · (intro wz hSw; (try dsimp only at hSw); have p1 : World.cell? wz ⟨E, 0, none⟩ = some (.pointer (some ⟨D, 0, none⟩)) := (hSw.cell hEw).trans cD; have p2 : World.cell? wz ⟨E, 22, none⟩ = some (.int .u32 x.pc) := (hSw.cell hEw).trans cp; go_simp; try with_reducible rfl)
  try simp only [Act.put, q0, q1, q2]
  refine wpAnyH_ready (rs := [8]) (by kernel_rfl) (by simp) ?_
  refine AllReadyH.cons (o := ⟨some 27, .call { callee := .value (.func 29), args := #[.tmp 22, .tmp 26], argTypes := #[52, 23] }, 69, "ref.go:82", #[eD 3, eD 7], none⟩) rfl (fun K hK => ?_) (AllReadyH.nil)
  go_simp
  go_at_call 29
  refine (L _ hHeld).mono ?_
  rintro e wd ⟨rfl, hKd⟩
  have hN := (show (fun wz => Kept w wz) _ from hHeld.trans hKd)
  clear hHeld
  refine hK.out _ _ hN (fun hHeld => ?_)
  clear hK K hN
  try simp only [Act.put, q0, q1, q2]
  refine tk 9 ⟨some 18, .move (.tmp 27), 69, "ref.go:82", #[eD 8], none⟩ (v := ?_) hHeld ?_ ?_
  rotate_left
  · (intro wz hSw; (try dsimp only at hSw); go_simp; try with_reducible rfl)
  try simp only [Act.put, q0, q1, q2]
  refine tk 10 ⟨some 28, .extract (.tmp 18) 0, 23, "ref.go:82", #[eD 9], none⟩ (v := ?_) hHeld ?_ ?_
  rotate_left
  · (intro wz hSw; (try dsimp only at hSw); go_simp; try with_reducible rfl)
  try simp only [Act.put, q0, q1, q2]
  refine tk 11 ⟨some 29, .extract (.tmp 18) 1, 3, "ref.go:82", #[eD 9, eL 12], none⟩ (v := ?_) hHeld ?_ ?_
  rotate_left
  · (intro wz hSw; (try dsimp only at hSw); go_simp; try with_reducible rfl)
  try simp only [Act.put, q0, q1, q2]
  refine tk 12 ⟨some 3, .assign (.tmp 28), 23, "ref.go:82", #[eD 10, eC 8, eP 0, eP 1, eP 2, eP 3, eP 4, eP 5, eP 6, eP 7, eP 8, eP 9, eP 10, eT 11], none⟩ (v := ?_) hHeld ?_ ?_
  rotate_left
  · (intro wz hSw; (try dsimp only at hSw); go_simp; try with_reducible rfl)
  try simp only [Act.put, q0, q1, q2]
  refine tk 13 ⟨some 4, .assign (.tmp 29), 3, "ref.go:82", #[eD 11, eC 12, eP 0, eP 1, eP 2, eP 3, eP 4, eP 5, eP 6, eP 7, eP 8, eP 9, eP 10, eP 11, eP 12], none⟩ (v := ?_) hHeld ?_ ?_
  rotate_left
  · (intro wz hSw; (try dsimp only at hSw); go_simp; try with_reducible rfl)
  try simp only [Act.put, q0, q1, q2]
  refine wpAnyH_done (by kernel_rfl) ?_ _
  have hK0 := Lib.hid hHeld
  clear hHeld hKd cs
  go_wp2_with (fail)
  refine (DD _).mono ?_; rintro e w2 ⟨rfl, hK2⟩
  have hK := hK0.out.trans (hK2.alloc #[.int .i64 k, .int .i64 op, .int .i64 a, .int .i64 b, .int .i64 c, .int .i64 i, .bool u] 57)
  have hI := Lib.hid (Has.new #[.int .i64 k, .int .i64 op, .int .i64 a, .int .i64 b, .int .i64 c, .int .i64 i, .bool u] 57 w2)
  have hM := Lib.hid (hh.out.kept hK)
  have st3 := hM.out.st
  have c3 := st3.1
  have f3 := st3.2
  have p3 := hM.out.pc.1
  have hT := Lib.hid (hK.turn F)
  have hsz : w.heap.size ≤ w2.heap.size := Nat.le_trans hK0.out.size hK2.size
  clear hK hK0 hK2 st3 hh cp cD L DD
  have t1 : (tw == 0) = false := by simpa using ht
  have t2 : (tw != 0) = true := by simpa using ht
  have hS := hM.out.setSt tw
  have hT2 := Lib.hid (hT.out.trans (hS.2.turn hM.out.inE))
  replace hS := Lib.hid hS.1
  clear hM hI hT
  go_upto_region 5 with (fail)
  go_wp2
  go_ret
  exact ⟨rfl, hS.out, hT2.out⟩
set_option maxHeartbeats 2000000 in
theorem rstep_ill {F : Nat → Prop} {E : Nat} {x : X.St} {w : World} (h : RMac F E x w) (D : Nat) (v tw k op a b c i : Int) (u is : Bool) (h0 : x.st = 0)
    (cD : w.cell? ⟨E, 0, none⟩ = some (.pointer (some ⟨D, 0, none⟩)))
    (L : ∀ w', Kept w w' → Calls Tryz.prog 29 #[.pointer (some ⟨D, 0, none⟩), .int .u32 x.pc] w' fun e w'' => e = .returned (.tuple #[.int .u32 v, .int .i64 tw]) ∧ Kept w' w'')
    (DD : ∀ w, Calls Tryz.prog 30 #[.int .u32 v] w fun e w' => e = .returned (.tuple #[.agg #[.int .i64 k, .int .i64 op, .int .i64 a, .int .i64 b, .int .i64 c, .int .i64 i, .bool u], .bool is]) ∧ Kept w w') (ht : tw = 0) (hi : is = false) :
    Calls Tryz.prog 11 #[.pointer (some ⟨E, 0, none⟩)] w fun e w' => e = .returned (.int .i64 2) ∧ RMac F E ⟨x.ws, x.s, x.pc, 2, x.ins, x.outs⟩ w' ∧ Turn F w w' := by
  subst ht
  subst hi
  have cs := h.st.1
  rw [h0] at cs
  have cp := h.pc.1
  have hEw : E < w.heap.size := h.sub E h.inE
  have hh := Lib.hid h
  clear h
  go_enter Tryz.func11, Tryz.ntmps11
  go_upto_region 3 with (fail)
  refine wp_region_held_drew (S := fun wz => Kept w wz) (by kernel_rfl) ?_ (fun hHeld => ?_)
  · exact (Kept.refl w).drew
  refine tk 0 ⟨some 19, .move (.tmp 0), 31, "ref.go:82", #[], none⟩ (v := ?_) hHeld ?_ ?_
  rotate_left
  · (intro wz hSw; (try dsimp only at hSw); go_simp; try with_reducible rfl)
  try simp only [Act.put, q0, q1, q2]
  refine tk 1 ⟨some 20, .nilCheck (.tmp 19), 0, "ref.go:82", #[eD 0], none⟩ (v := ?_) hHeld ?_ ?_
  rotate_left
  · (intro wz hSw; (try dsimp only at hSw); go_simp; try with_reducible rfl)
  try simp only [Act.put, q0, q1, q2]
  refine tk 2 ⟨some 21, .fieldAddr 54 (.tmp 20) 0, 0, "ref.go:82", #[eD 1], none⟩ (v := ?_) hHeld ?_ ?_
  rotate_left
  · (intro wz hSw; (try dsimp only at hSw); go_simp; try with_reducible rfl)
  try simp only [Act.put, q0, q1, q2]
  refine tk 3 ⟨some 22, .load 52 (.tmp 21), 52, "ref.go:82", #[eD 2], none⟩ (v := ?_) hHeld ?_ ?_
  rotate_left
  · (intro wz hSw; (try dsimp only at hSw); have p1 : World.cell? wz ⟨E, 0, none⟩ = some (.pointer (some ⟨D, 0, none⟩)) := (hSw.cell hEw).trans cD; have p2 : World.cell? wz ⟨E, 22, none⟩ = some (.int .u32 x.pc) := (hSw.cell hEw).trans cp; go_simp; try with_reducible rfl)
  try simp only [Act.put, q0, q1, q2]
  refine tk 4 ⟨some 23, .move (.tmp 0), 31, "ref.go:82", #[], none⟩ (v := ?_) hHeld ?_ ?_
  rotate_left
  · (intro wz hSw; (try dsimp only at hSw); go_simp; try with_reducible rfl)
  try simp only [Act.put, q0, q1, q2]
  refine tk 5 ⟨some 24, .nilCheck (.tmp 23), 0, "ref.go:82", #[eD 4], none⟩ (v := ?_) hHeld ?_ ?_
  rotate_left
  · (intro wz hSw; (try dsimp only at hSw); go_simp; try with_reducible rfl)
  try simp only [Act.put, q0, q1, q2]
  refine tk 6 ⟨some 25, .fieldAddr 54 (.tmp 24) 2, 0, "ref.go:82", #[eD 5], none⟩ (v := ?_) hHeld ?_ ?_
  rotate_left
  · (intro wz hSw; (try dsimp only at hSw); go_simp; try with_reducible rfl)
  try simp only [Act.put, q0, q1, q2]
  refine tk 7 ⟨some 26, .load 23 (.tmp 25), 23, "ref.go:82", #[eD 6], none⟩ (v := ?_) hHeld ?_ ?_
  rotate_left
  · (intro wz hSw; (try dsimp only at hSw); have p1 : World.cell? wz ⟨E, 0, none⟩ = some (.pointer (some ⟨D, 0, none⟩)) := (hSw.cell hEw).trans cD; have p2 : World.cell? wz ⟨E, 22, none⟩ = some (.int .u32 x.pc) := (hSw.cell hEw).trans cp; go_simp; try with_reducible rfl)
  try simp only [Act.put, q0, q1, q2]
  refine wpAnyH_ready (rs := [8]) (by kernel_rfl) (by simp) ?_
  refine AllReadyH.cons (o := ⟨some 27, .call { callee := .value (.func 29), args := #[.tmp 22, .tmp 26], argTypes := #[52, 23] }, 69, "ref.go:82", #[eD 3, eD 7], none⟩) rfl (fun K hK => ?_) (AllReadyH.nil)
  go_simp
  go_at_call 29
  refine (L _ hHeld).mono ?_
  rintro e wd ⟨rfl, hKd⟩
  have hN := (show (fun wz => Kept w wz) _ from hHeld.trans hKd)
  clear hHeld
  refine hK.out _ _ hN (fun hHeld => ?_)
  clear hK K hN
  try simp only [Act.put, q0, q1, q2]
  refine tk 9 ⟨some 18, .move (.tmp 27), 69, "ref.go:82", #[eD 8], none⟩ (v := ?_) hHeld ?_ ?_
  rotate_left
  · (intro wz hSw; (try dsimp only at hSw); go_simp; try with_reducible rfl)
  try simp only [Act.put, q0, q1, q2]
  refine tk 10 ⟨some 28, .extract (.tmp 18) 0, 23, "ref.go:82", #[eD 9], none⟩ (v := ?_) hHeld ?_ ?_
  rotate_left
  · (intro wz hSw; (try dsimp only at hSw); go_simp; try with_reducible rfl)
  try simp only [Act.put, q0, q1, q2]
  refine tk 11 ⟨some 29, .extract (.tmp 18) 1, 3, "ref.go:82", #[eD 9, eL 12], none⟩ (v := ?_) hHeld ?_ ?_
  rotate_left
  · (intro wz hSw; (try dsimp only at hSw); go_simp; try with_reducible rfl)
  try simp only [Act.put, q0, q1, q2]
  refine tk 12 ⟨some 3, .assign (.tmp 28), 23, "ref.go:82", #[eD 10, eC 8, eP 0, eP 1, eP 2, eP 3, eP 4, eP 5, eP 6, eP 7, eP 8, eP 9, eP 10, eT 11], none⟩ (v := ?_) hHeld ?_ ?_
  rotate_left
  · (intro wz hSw; (try dsimp only at hSw); go_simp; try with_reducible rfl)
  try simp only [Act.put, q0, q1, q2]
  refine tk 13 ⟨some 4, .assign (.tmp 29), 3, "ref.go:82", #[eD 11, eC 12, eP 0, eP 1, eP 2, eP 3, eP 4, eP 5, eP 6, eP 7, eP 8, eP 9, eP 10, eP 11, eP 12], none⟩ (v := ?_) hHeld ?_ ?_
  rotate_left
  · (intro wz hSw; (try dsimp only at hSw); go_simp; try with_reducible rfl)
  try simp only [Act.put, q0, q1, q2]
  refine wpAnyH_done (by kernel_rfl) ?_ _
  have hK0 := Lib.hid hHeld
  clear hHeld hKd cs
  go_wp2_with (fail)
  refine (DD _).mono ?_; rintro e w2 ⟨rfl, hK2⟩
  have hK := hK0.out.trans (hK2.alloc #[.int .i64 k, .int .i64 op, .int .i64 a, .int .i64 b, .int .i64 c, .int .i64 i, .bool u] 57)
  have hI := Lib.hid (Has.new #[.int .i64 k, .int .i64 op, .int .i64 a, .int .i64 b, .int .i64 c, .int .i64 i, .bool u] 57 w2)
  have hM := Lib.hid (hh.out.kept hK)
  have st3 := hM.out.st
  have c3 := st3.1
  have f3 := st3.2
  have p3 := hM.out.pc.1
  have hT := Lib.hid (hK.turn F)
  have hsz : w.heap.size ≤ w2.heap.size := Nat.le_trans hK0.out.size hK2.size
  clear hK hK0 hK2 st3 hh cp cD L DD
  have hS := hM.out.setSt 2
  have hT2 := Lib.hid (hT.out.trans (hS.2.turn hM.out.inE))
  replace hS := Lib.hid hS.1
  clear hM hI hT
  go_wp2
  go_ret
  exact ⟨rfl, hS.out, hT2.out⟩
set_option maxHeartbeats 2000000 in
theorem rstep_5 {F : Nat → Prop} {E : Nat} {x : X.St} {w : World} (h : RMac F E x w) (D : Nat) (v tw k op a b c i : Int) (u is : Bool) (h0 : x.st = 0)
    (cD : w.cell? ⟨E, 0, none⟩ = some (.pointer (some ⟨D, 0, none⟩)))
    (L : ∀ w', Kept w w' → Calls Tryz.prog 29 #[.pointer (some ⟨D, 0, none⟩), .int .u32 x.pc] w' fun e w'' => e = .returned (.tuple #[.int .u32 v, .int .i64 tw]) ∧ Kept w' w'')
    (DD : ∀ w, Calls Tryz.prog 30 #[.int .u32 v] w fun e w' => e = .returned (.tuple #[.agg #[.int .i64 k, .int .i64 op, .int .i64 a, .int .i64 b, .int .i64 c, .int .i64 i, .bool u], .bool is]) ∧ Kept w w') (x' : X.St) (t y : Int) (ht : tw = 0) (hi : is = true) (y0 : 0 ≤ y) (y1 : y < 4294967296) (hk : k = 5) (hy : (x.pc + 4) % 4294967296 = y)
    (O : ∀ w, RMac F E x w → Calls Tryz.prog 31 #[.pointer (some ⟨E, 0, none⟩), .agg #[.int .i64 k, .int .i64 op, .int .i64 a, .int .i64 b, .int .i64 c, .int .i64 i, .bool u]] w fun e w' => e = .returned (.int .i64 t) ∧ ∃ F', RMac F' E x' w' ∧ Turn F w w' ∧ ∀ k, F' k → F k ∨ w.heap.size ≤ k) :
    Calls Tryz.prog 11 #[.pointer (some ⟨E, 0, none⟩)] w fun e w' => e = .returned (.int .i64 t) ∧ ∃ F', RMac F' E (if t = 0 ∨ t = 1 then ⟨x'.ws, x'.s, y, t, x'.ins, x'.outs⟩ else ⟨x'.ws, x'.s, x'.pc, t, x'.ins, x'.outs⟩) w' ∧ Turn F w w' ∧ ∀ k, F' k → F k ∨ w.heap.size ≤ k := by
  subst ht
  subst hi
  subst hk
  generalize hxe : (if t = 0 ∨ t = 1 then (⟨x'.ws, x'.s, y, t, x'.ins, x'.outs⟩ : X.St) else ⟨x'.ws, x'.s, x'.pc, t, x'.ins, x'.outs⟩) = x2
  have cs := h.st.1
  rw [h0] at cs
  have cp := h.pc.1
  have hEw : E < w.heap.size := h.sub E h.inE
  have hh := Lib.hid h
  clear h
  go_enter Tryz.func11, Tryz.ntmps11
  go_upto_region 3 with (fail)
  refine wp_region_held_drew (S := fun wz => Kept w wz) (by kernel_rfl) ?_ (fun hHeld => ?_)
  · exact (Kept.refl w).drew
  refine tk 0 ⟨some 19, .move (.tmp 0), 31, "ref.go:82", #[], none⟩ (v := ?_) hHeld ?_ ?_
  rotate_left
  · (intro wz hSw; (try dsimp only at hSw); go_simp; try with_reducible rfl)
  try simp only [Act.put, q0, q1, q2]
  refine tk 1 ⟨some 20, .nilCheck (.tmp 19), 0, "ref.go:82", #[eD 0], none⟩ (v := ?_) hHeld ?_ ?_
  rotate_left
  · (intro wz hSw; (try dsimp only at hSw); go_simp; try with_reducible rfl)
  try simp only [Act.put, q0, q1, q2]
  refine tk 2 ⟨some 21, .fieldAddr 54 (.tmp 20) 0, 0, "ref.go:82", #[eD 1], none⟩ (v := ?_) hHeld ?_ ?_
  rotate_left
  · (intro wz hSw; (try dsimp only at hSw); go_simp; try with_reducible rfl)
  try simp only [Act.put, q0, q1, q2]
  refine tk 3 ⟨some 22, .load 52 (.tmp 21), 52, "ref.go:82", #[eD 2], none⟩ (v := ?_) hHeld ?_ ?_
  rotate_left
  · (intro wz hSw; (try dsimp only at hSw); have p1 : World.cell? wz ⟨E, 0, none⟩ = some (.pointer (some ⟨D, 0, none⟩)) := (hSw.cell hEw).trans cD; have p2 : World.cell? wz ⟨E, 22, none⟩ = some (.int .u32 x.pc) := (hSw.cell hEw).trans cp; go_simp; try with_reducible rfl)
  try simp only [Act.put, q0, q1, q2]
  refine tk 4 ⟨some 23, .move (.tmp 0), 31, "ref.go:82", #[], none⟩ (v := ?_) hHeld ?_ ?_
  rotate_left
  · (intro wz hSw; (try dsimp only at hSw); go_simp; try with_reducible rfl)
  try simp only [Act.put, q0, q1, q2]
  refine tk 5 ⟨some 24, .nilCheck (.tmp 23), 0, "ref.go:82", #[eD 4], none⟩ (v := ?_) hHeld ?_ ?_
  rotate_left
  · (intro wz hSw; (try dsimp only at hSw); go_simp; try with_reducible rfl)
  try simp only [Act.put, q0, q1, q2]
  refine tk 6 ⟨some 25, .fieldAddr 54 (.tmp 24) 2, 0, "ref.go:82", #[eD 5], none⟩ (v := ?_) hHeld ?_ ?_
  rotate_left
  · (intro wz hSw; (try dsimp only at hSw); go_simp; try with_reducible rfl)
  try simp only [Act.put, q0, q1, q2]
  refine tk 7 ⟨some 26, .load 23 (.tmp 25), 23, "ref.go:82", #[eD 6], none⟩ (v := ?_) hHeld ?_ ?_
  rotate_left
  · (intro wz hSw; (try dsimp only at hSw); have p1 : World.cell? wz ⟨E, 0, none⟩ = some (.pointer (some ⟨D, 0, none⟩)) := (hSw.cell hEw).trans cD; have p2 : World.cell? wz ⟨E, 22, none⟩ = some (.int .u32 x.pc) := (hSw.cell hEw).trans cp; go_simp; try with_reducible rfl)
  try simp only [Act.put, q0, q1, q2]
  refine wpAnyH_ready (rs := [8]) (by kernel_rfl) (by simp) ?_
  refine AllReadyH.cons (o := ⟨some 27, .call { callee := .value (.func 29), args := #[.tmp 22, .tmp 26], argTypes := #[52, 23] }, 69, "ref.go:82", #[eD 3, eD 7], none⟩) rfl (fun K hK => ?_) (AllReadyH.nil)
  go_simp
  go_at_call 29
  refine (L _ hHeld).mono ?_
  rintro e wd ⟨rfl, hKd⟩
  have hN := (show (fun wz => Kept w wz) _ from hHeld.trans hKd)
  clear hHeld
  refine hK.out _ _ hN (fun hHeld => ?_)
  clear hK K hN
  try simp only [Act.put, q0, q1, q2]
  refine tk 9 ⟨some 18, .move (.tmp 27), 69, "ref.go:82", #[eD 8], none⟩ (v := ?_) hHeld ?_ ?_
  rotate_left
  · (intro wz hSw; (try dsimp only at hSw); go_simp; try with_reducible rfl)
  try simp only [Act.put, q0, q1, q2]
  refine tk 10 ⟨some 28, .extract (.tmp 18) 0, 23, "ref.go:82", #[eD 9], none⟩ (v := ?_) hHeld ?_ ?_
  rotate_left
  · (intro wz hSw; (try dsimp only at hSw); go_simp; try with_reducible rfl)
  try simp only [Act.put, q0, q1, q2]
  refine tk 11 ⟨some 29, .extract (.tmp 18) 1, 3, "ref.go:82", #[eD 9, eL 12], none⟩ (v := ?_) hHeld ?_ ?_
  rotate_left
  · (intro wz hSw; (try dsimp only at hSw); go_simp; try with_reducible rfl)
  try simp only [Act.put, q0, q1, q2]
  refine tk 12 ⟨some 3, .assign (.tmp 28), 23, "ref.go:82", #[eD 10, eC 8, eP 0, eP 1, eP 2, eP 3, eP 4, eP 5, eP 6, eP 7, eP 8, eP 9, eP 10, eT 11], none⟩ (v := ?_) hHeld ?_ ?_
  rotate_left
  · (intro wz hSw; (try dsimp only at hSw); go_simp; try with_reducible rfl)
  try simp only [Act.put, q0, q1, q2]
  refine tk 13 ⟨some 4, .assign (.tmp 29), 3, "ref.go:82", #[eD 11, eC 12, eP 0, eP 1, eP 2, eP 3, eP 4, eP 5, eP 6, eP 7, eP 8, eP 9, eP 10, eP 11, eP 12], none⟩ (v := ?_) hHeld ?_ ?_
  rotate_left
  · (intro wz hSw; (try dsimp only at hSw); go_simp; try with_reducible rfl)
  try simp only [Act.put, q0, q1, q2]
  refine wpAnyH_done (by kernel_rfl) ?_ _
  have hK0 := Lib.hid hHeld
  clear hHeld hKd cs
  go_wp2_with (fail)
  refine (DD _).mono ?_; rintro e w2 ⟨rfl, hK2⟩
  have hK := hK0.out.trans (hK2.alloc #[.int .i64 5, .int .i64 op, .int .i64 a, .int .i64 b, .int .i64 c, .int .i64 i, .bool u] 57)
  have hI := Lib.hid (Has.new #[.int .i64 5, .int .i64 op, .int .i64 a, .int .i64 b, .int .i64 c, .int .i64 i, .bool u] 57 w2)
  have hM := Lib.hid (hh.out.kept hK)
  have st3 := hM.out.st
  have c3 := st3.1
  have f3 := st3.2
  have p3 := hM.out.pc.1
  have hT := Lib.hid (hK.turn F)
  have hsz : w.heap.size ≤ w2.heap.size := Nat.le_trans hK0.out.size hK2.size
  clear hK hK0 hK2 st3 hh cp cD L DD
  have hsw := (Has.lt hI.out)
  go_wp2_with (with_reducible refine load_has rfl 57 _ rfl _ rfl hI.out Tryz.underlying57 rfl (by kernel_rfl) ?_)
  refine (O _ hM.out).mono ?_; rintro e wz ⟨rfl, F', q1, q2, q3⟩
  have hMz := Lib.hid q1
  have hTz := Lib.hid (hT.out.trans q2)
  have hF : ∀ k, F' k → F k ∨ w.heap.size ≤ k := fun k hk => by rcases q3 k hk with h1 | h1; exact Or.inl h1; exact Or.inr (by omega)
  clear q1 q2 q3 hT hM hI O c3 f3 p3
  by_cases t01 : t = 0 ∨ t = 1
  · rw [if_pos t01] at hxe
    subst hxe
    have c25 := hMz.out.st.1
    have f25 := hMz.out.st.2
    have hS := hMz.out.setSt t
    have hB1 := hS.2
    have c27 := hS.1.pc.1
    have f27 := hS.1.pc.2
    have hP := hS.1.setPc y y0 y1
    have hTf := Lib.hid (hTz.out.then ((hB1.trans hP.2).turn (F := F') hMz.out.inE) hF)
    replace hP := Lib.hid hP.1
    replace hS := Lib.hid hS.1
    clear hMz hTz hB1
    rcases t01 with rfl | rfl
    all_goals
      go_upto_region 26 with (fail)
      generalize World.setCell _ ⟨E, 23, none⟩ _ = wq at *
      go_wp2
      go_ret
      exact ⟨rfl, F', hP.out, hTf.out, hF⟩
  · rw [if_neg t01] at hxe
    subst hxe
    have c25 := hMz.out.st.1
    have f25 := hMz.out.st.2
    have hS := hMz.out.setSt t
    have hTf := Lib.hid (hTz.out.then (hS.2.turn (F := F') hMz.out.inE) hF)
    replace hS := Lib.hid hS.1
    clear hMz hTz
    have n0 : ¬ t = 0 := fun e => t01 (Or.inl e)
    have n1 : ¬ t = 1 := fun e => t01 (Or.inr e)
    have n2 : (t == 0) = false := by simpa using n0
    have n3 : (t == 1) = false := by simpa using n1
    go_wp2
    go_ret
    exact ⟨rfl, F', hS.out, hTf.out, hF⟩
end Go.Proofs.YtlmddkciamdldaaGreat

/-
  The document's machine: Step.
-/
namespace Go.Proofs.YtlmddkciamdldaaGreat
open Go.RowKit
set_option linter.unusedVariables false
set_option linter.unusedSimpArgs false
set_option maxRecDepth 100000
set_option maxHeartbeats 2000000 in
theorem rstep_6 {F : Nat → Prop} {E : Nat} {x : X.St} {w : World} (h : RMac F E x w) (D : Nat) (v tw k op a b c i : Int) (u is : Bool) (h0 : x.st = 0)
    (cD : w.cell? ⟨E, 0, none⟩ = some (.pointer (some ⟨D, 0, none⟩)))
    (L : ∀ w', Kept w w' → Calls Tryz.prog 29 #[.pointer (some ⟨D, 0, none⟩), .int .u32 x.pc] w' fun e w'' => e = .returned (.tuple #[.int .u32 v, .int .i64 tw]) ∧ Kept w' w'')
    (DD : ∀ w, Calls Tryz.prog 30 #[.int .u32 v] w fun e w' => e = .returned (.tuple #[.agg #[.int .i64 k, .int .i64 op, .int .i64 a, .int .i64 b, .int .i64 c, .int .i64 i, .bool u], .bool is]) ∧ Kept w w') (S' : A.Regs) (y n : Int) (tk : Bool) (ht : tw = 0) (hi : is = true) (y0 : 0 ≤ y) (y1 : y < 4294967296) (n0 : 0 ≤ n) (n1 : n < 4294967296) (hk : k = 6) (hn : (x.pc + 4) % 4294967296 = n) (c0 : 0 ≤ c) (c1 : c < 16) (i0 : -8388608 ≤ i) (i1 : i < 8388608)
    (CT : ∀ w, Calls Tryz.prog 32 #[.agg (A.cells x.s), .int .i64 op] w fun e w' => e = .returned (.bool tk) ∧ Kept w w')
    (hy : (tk = false ∧ S' = x.s ∧ y = n) ∨ (tk = true ∧ S' = (if u = true then A.set x.s 15 n else x.s) ∧ y = x.s.r c.toNat)) :
    Calls Tryz.prog 11 #[.pointer (some ⟨E, 0, none⟩)] w fun e w' => e = .returned (.int .i64 0) ∧ RMac F E ⟨x.ws, S', y, 0, x.ins, x.outs⟩ w' ∧ Turn F w w' := by
  subst ht
  subst hi
  subst hk
  have cs := h.st.1
  rw [h0] at cs
  have cp := h.pc.1
  have hEw : E < w.heap.size := h.sub E h.inE
  have hh := Lib.hid h
  clear h
  go_enter Tryz.func11, Tryz.ntmps11
  go_upto_region 3 with (fail)
  refine wp_region_held_drew (S := fun wz => Kept w wz) (by kernel_rfl) ?_ (fun hHeld => ?_)
  · exact (Kept.refl w).drew
  refine Go.Proofs.YtlmddkciamdldaaGreat.tk 0 ⟨some 19, .move (.tmp 0), 31, "ref.go:82", #[], none⟩ (v := ?_) hHeld ?_ ?_
  rotate_left
  · (intro wz hSw; (try dsimp only at hSw); go_simp; try with_reducible rfl)
  try simp only [Act.put, q0, q1, q2]
  refine Go.Proofs.YtlmddkciamdldaaGreat.tk 1 ⟨some 20, .nilCheck (.tmp 19), 0, "ref.go:82", #[eD 0], none⟩ (v := ?_) hHeld ?_ ?_
  rotate_left
  · (intro wz hSw; (try dsimp only at hSw); go_simp; try with_reducible rfl)
  try simp only [Act.put, q0, q1, q2]
  refine Go.Proofs.YtlmddkciamdldaaGreat.tk 2 ⟨some 21, .fieldAddr 54 (.tmp 20) 0, 0, "ref.go:82", #[eD 1], none⟩ (v := ?_) hHeld ?_ ?_
  rotate_left
  · (intro wz hSw; (try dsimp only at hSw); go_simp; try with_reducible rfl)
  try simp only [Act.put, q0, q1, q2]
  refine Go.Proofs.YtlmddkciamdldaaGreat.tk 3 ⟨some 22, .load 52 (.tmp 21), 52, "ref.go:82", #[eD 2], none⟩ (v := ?_) hHeld ?_ ?_
  rotate_left
  · (intro wz hSw; (try dsimp only at hSw); have p1 : World.cell? wz ⟨E, 0, none⟩ = some (.pointer (some ⟨D, 0, none⟩)) := (hSw.cell hEw).trans cD; have p2 : World.cell? wz ⟨E, 22, none⟩ = some (.int .u32 x.pc) := (hSw.cell hEw).trans cp; go_simp; try with_reducible rfl)
  try simp only [Act.put, q0, q1, q2]
  refine Go.Proofs.YtlmddkciamdldaaGreat.tk 4 ⟨some 23, .move (.tmp 0), 31, "ref.go:82", #[], none⟩ (v := ?_) hHeld ?_ ?_
  rotate_left
  · (intro wz hSw; (try dsimp only at hSw); go_simp; try with_reducible rfl)
  try simp only [Act.put, q0, q1, q2]
  refine Go.Proofs.YtlmddkciamdldaaGreat.tk 5 ⟨some 24, .nilCheck (.tmp 23), 0, "ref.go:82", #[eD 4], none⟩ (v := ?_) hHeld ?_ ?_
  rotate_left
  · (intro wz hSw; (try dsimp only at hSw); go_simp; try with_reducible rfl)
  try simp only [Act.put, q0, q1, q2]
  refine Go.Proofs.YtlmddkciamdldaaGreat.tk 6 ⟨some 25, .fieldAddr 54 (.tmp 24) 2, 0, "ref.go:82", #[eD 5], none⟩ (v := ?_) hHeld ?_ ?_
  rotate_left
  · (intro wz hSw; (try dsimp only at hSw); go_simp; try with_reducible rfl)
  try simp only [Act.put, q0, q1, q2]
  refine Go.Proofs.YtlmddkciamdldaaGreat.tk 7 ⟨some 26, .load 23 (.tmp 25), 23, "ref.go:82", #[eD 6], none⟩ (v := ?_) hHeld ?_ ?_
  rotate_left
  · (intro wz hSw; (try dsimp only at hSw); have p1 : World.cell? wz ⟨E, 0, none⟩ = some (.pointer (some ⟨D, 0, none⟩)) := (hSw.cell hEw).trans cD; have p2 : World.cell? wz ⟨E, 22, none⟩ = some (.int .u32 x.pc) := (hSw.cell hEw).trans cp; go_simp; try with_reducible rfl)
  try simp only [Act.put, q0, q1, q2]
  refine wpAnyH_ready (rs := [8]) (by kernel_rfl) (by simp) ?_
  refine AllReadyH.cons (o := ⟨some 27, .call { callee := .value (.func 29), args := #[.tmp 22, .tmp 26], argTypes := #[52, 23] }, 69, "ref.go:82", #[eD 3, eD 7], none⟩) rfl (fun K hK => ?_) (AllReadyH.nil)
  go_simp
  go_at_call 29
  refine (L _ hHeld).mono ?_
  rintro e wd ⟨rfl, hKd⟩
  have hN := (show (fun wz => Kept w wz) _ from hHeld.trans hKd)
  clear hHeld
  refine hK.out _ _ hN (fun hHeld => ?_)
  clear hK K hN
  try simp only [Act.put, q0, q1, q2]
  refine Go.Proofs.YtlmddkciamdldaaGreat.tk 9 ⟨some 18, .move (.tmp 27), 69, "ref.go:82", #[eD 8], none⟩ (v := ?_) hHeld ?_ ?_
  rotate_left
  · (intro wz hSw; (try dsimp only at hSw); go_simp; try with_reducible rfl)
  try simp only [Act.put, q0, q1, q2]
  refine Go.Proofs.YtlmddkciamdldaaGreat.tk 10 ⟨some 28, .extract (.tmp 18) 0, 23, "ref.go:82", #[eD 9], none⟩ (v := ?_) hHeld ?_ ?_
  rotate_left
  · (intro wz hSw; (try dsimp only at hSw); go_simp; try with_reducible rfl)
  try simp only [Act.put, q0, q1, q2]
  refine Go.Proofs.YtlmddkciamdldaaGreat.tk 11 ⟨some 29, .extract (.tmp 18) 1, 3, "ref.go:82", #[eD 9, eL 12], none⟩ (v := ?_) hHeld ?_ ?_
  rotate_left
  · (intro wz hSw; (try dsimp only at hSw); go_simp; try with_reducible rfl)
  try simp only [Act.put, q0, q1, q2]
  refine Go.Proofs.YtlmddkciamdldaaGreat.tk 12 ⟨some 3, .assign (.tmp 28), 23, "ref.go:82", #[eD 10, eC 8, eP 0, eP 1, eP 2, eP 3, eP 4, eP 5, eP 6, eP 7, eP 8, eP 9, eP 10, eT 11], none⟩ (v := ?_) hHeld ?_ ?_
  rotate_left
  · (intro wz hSw; (try dsimp only at hSw); go_simp; try with_reducible rfl)
  try simp only [Act.put, q0, q1, q2]
  refine Go.Proofs.YtlmddkciamdldaaGreat.tk 13 ⟨some 4, .assign (.tmp 29), 3, "ref.go:82", #[eD 11, eC 12, eP 0, eP 1, eP 2, eP 3, eP 4, eP 5, eP 6, eP 7, eP 8, eP 9, eP 10, eP 11, eP 12], none⟩ (v := ?_) hHeld ?_ ?_
  rotate_left
  · (intro wz hSw; (try dsimp only at hSw); go_simp; try with_reducible rfl)
  try simp only [Act.put, q0, q1, q2]
  refine wpAnyH_done (by kernel_rfl) ?_ _
  have hK0 := Lib.hid hHeld
  clear hHeld hKd cs
  go_wp2_with (fail)
  refine (DD _).mono ?_; rintro e w2 ⟨rfl, hK2⟩
  have hK := hK0.out.trans (hK2.alloc #[.int .i64 6, .int .i64 op, .int .i64 a, .int .i64 b, .int .i64 c, .int .i64 i, .bool u] 57)
  have hI := Lib.hid (Has.new #[.int .i64 6, .int .i64 op, .int .i64 a, .int .i64 b, .int .i64 c, .int .i64 i, .bool u] 57 w2)
  have hM := Lib.hid (hh.out.kept hK)
  have st3 := hM.out.st
  have c3 := st3.1
  have f3 := st3.2
  have p3 := hM.out.pc.1
  have hT := Lib.hid (hK.turn F)
  have hsz : w.heap.size ≤ w2.heap.size := Nat.le_trans hK0.out.size hK2.size
  clear hK hK0 hK2 st3 hh cp cD L DD
  have w4 : wrap64 (4 * i) = 4 * i := by unfold wrap64; omega
  go_upto_region 18 with (fail)
  generalize w2.heap.size = g at *
  generalize w2.alloc (Obj.cells _ _) = w3 at *
  refine wp_region_held_drew (S := fun wz => Kept w3 wz) (by kernel_rfl) ?_ (fun hHeld => ?_)
  · exact (Kept.refl w3).drew
  refine Go.Proofs.YtlmddkciamdldaaGreat.tk 0 ⟨some 78, .move (.tmp 0), 31, "ref.go:97", #[], none⟩ (v := ?_) hHeld ?_ ?_
  rotate_left
  · (intro wz hSw; (try dsimp only at hSw); go_simp; try with_reducible rfl)
  try simp only [Act.put, q0, q1, q2]
  refine Go.Proofs.YtlmddkciamdldaaGreat.tk 1 ⟨some 79, .nilCheck (.tmp 78), 0, "ref.go:97", #[eD 0], none⟩ (v := ?_) hHeld ?_ ?_
  rotate_left
  · (intro wz hSw; (try dsimp only at hSw); go_simp; try with_reducible rfl)
  try simp only [Act.put, q0, q1, q2]
  refine Go.Proofs.YtlmddkciamdldaaGreat.tk 2 ⟨some 80, .fieldAddr 54 (.tmp 79) 1, 0, "ref.go:97", #[eD 1], none⟩ (v := ?_) hHeld ?_ ?_
  rotate_left
  · (intro wz hSw; (try dsimp only at hSw); go_simp; try with_reducible rfl)
  try simp only [Act.put, q0, q1, q2]
  refine Go.Proofs.YtlmddkciamdldaaGreat.tk 3 ⟨some 81, .load 26 (.tmp 80), 26, "ref.go:97", #[eD 2], none⟩ (v := ?_) hHeld ?_ ?_
  rotate_left
  · (intro wz hSw; refine exec_load_mid 26 (Operand.tmp 80) ?_ E 1 ?_ (A.cells x.s) (hM.out.kept hSw).range Tryz.underlying26 rfl (A.info25 _) <;> rfl)
  try simp only [Act.put, q0, q1, q2]
  refine Go.Proofs.YtlmddkciamdldaaGreat.tk 4 ⟨some 82, .fieldAddr 57 (.tmp 5) 1, 0, "ref.go:97", #[], none⟩ (v := ?_) hHeld ?_ ?_
  rotate_left
  · (intro wz hSw; (try dsimp only at hSw); go_simp; try with_reducible rfl)
  try simp only [Act.put, q0, q1, q2]
  refine Go.Proofs.YtlmddkciamdldaaGreat.tk 5 ⟨some 83, .load 3 (.tmp 82), 3, "ref.go:97", #[eD 4], none⟩ (v := ?_) hHeld ?_ ?_
  rotate_left
  · (intro wz hSw; (try dsimp only at hSw); have p1 : World.cell? wz ⟨g, 1, none⟩ = some (.int .i64 op) := (hI.out.kept hSw).cell 1 _ rfl; go_simp; try with_reducible rfl)
  try simp only [Act.put, q0, q1, q2]
  refine wpAnyH_ready (rs := [6]) (by kernel_rfl) (by simp) ?_
  refine AllReadyH.cons (o := ⟨some 84, .call { callee := .value (.func 32), args := #[.tmp 81, .tmp 83], argTypes := #[26, 3] }, 4, "ref.go:97", #[eD 3, eD 5], none⟩) rfl (fun K hK => ?_) (AllReadyH.nil)
  go_simp
  go_at_call 32
  refine (CT _).mono ?_
  rintro e we ⟨rfl, hKe⟩
  have hN := (show (fun wz => Kept w3 wz) _ from hHeld.trans hKe)
  clear hHeld
  refine hK.out _ _ hN (fun hHeld => ?_)
  clear hK K hN
  try simp only [Act.put, q0, q1, q2]
  refine wpAnyH_done (by kernel_rfl) ?_ _
  have hMe := hM.out.kept hHeld
  have hTe := Lib.hid (hT.out.trans (hHeld.turn F))
  have hIe := hI.out.kept hHeld
  have j0 : we.cell? ⟨g, 0, none⟩ = some (.int .i64 6) := hIe.cell 0 _ rfl
  have j4 : we.cell? ⟨g, 4, none⟩ = some (.int .i64 c) := hIe.cell 4 _ rfl
  have j5 : we.cell? ⟨g, 5, none⟩ = some (.int .i64 i) := hIe.cell 5 _ rfl
  have j6 : we.cell? ⟨g, 6, none⟩ = some (.bool u) := hIe.cell 6 _ rfl
  skip
  replace hIe := Lib.hid hIe
  replace hMe := Lib.hid hMe
  clear hHeld hKe hM hI hT c3 f3 p3 CT
  rcases hy with ⟨rfl, rfl, rfl⟩ | ⟨rfl, hS', hy⟩
  · have c25 := hMe.out.st.1
    have f25 := hMe.out.st.2
    have hS := hMe.out.setSt 0
    have hB1 := hS.2
    have c27 := hS.1.pc.1
    have f27 := hS.1.pc.2
    have hP := hS.1.setPc y y0 y1
    have hTf := Lib.hid (hTe.out.trans ((hB1.trans hP.2).turn (F := F) hMe.out.inE))
    replace hP := Lib.hid hP.1
    replace hS := Lib.hid hS.1
    clear hB1
    go_upto_region 26 with (fail)
    generalize World.setCell _ ⟨E, 23, none⟩ _ = wq at *
    go_wp2
    go_ret
    exact ⟨rfl, hP.out, hTf.out⟩
  · skip
    have k4 := (hMe.out.reg c.toNat (by omega)).1
    replace hy := Lib.hid hy
    go_upto_region 21 with (fail)
    replace hy := hy.out
    refine WS.start 8 (by kernel_rfl) (by kernel_rfl) ?_
    intro wf hwf
    have l4 : wf.cell? ⟨g, 4, none⟩ = some (.int .i64 c) := by rw [hwf]; exact j4
    have l5 : wf.cell? ⟨E, 1 + c.toNat, none⟩ = some (.int .u32 y) := by rw [hwf, hy]; exact k4
    clear hy
    have l6 : wf.cell? ⟨g, 6, none⟩ = some (.bool u) := by rw [hwf]; exact j6
    have hMf := Lib.hid (show RMac F E x wf by rw [hwf]; exact hMe.out.kept (Kept.refl we).drew)
    have hTg := Lib.hid (show Turn F w wf by rw [hwf]; exact hTe.out.drew)
    clear hwf j0 j4 j5 j6 k4 hMe hTe hIe
    simp only [List.take_succ_cons, List.take_zero, List.drop_succ_cons, List.drop_zero]
    iterate 8 (refine WS.step rfl (fun K hK => ?_); go_simp; refine hK _ ?_; clear hK K)
    refine WS.nil ?_
    cases u
    · rw [if_neg (by simp)] at hS'
      subst hS'
      have c25 := hMf.out.st.1
      have f25 := hMf.out.st.2
      have hS := hMf.out.setSt 0
      have hB1 := hS.2
      have c27 := hS.1.pc.1
      have f27 := hS.1.pc.2
      have hP := hS.1.setPc y y0 y1
      have hTf := Lib.hid (hTg.out.trans ((hB1.trans hP.2).turn (F := F) hMf.out.inE))
      replace hP := Lib.hid hP.1
      replace hS := Lib.hid hS.1
      clear hB1
      go_upto_region 26 with (fail)
      generalize World.setCell _ ⟨E, 23, none⟩ _ = wq at *
      go_wp2
      go_ret
      exact ⟨rfl, hP.out, hTf.out⟩
    · rw [if_pos rfl] at hS'
      have k15 := (hMf.out.reg 15 (by omega)).1
      have g15 := (hMf.out.reg 15 (by omega)).2
      have hR15 := hMf.out.setReg 15 (by omega) n n0 n1
      rw [← hS'] at hR15
      clear hS'
      have hT15 := Lib.hid (hTg.out.trans (hR15.2.turn (F := F) hMf.out.inE))
      replace hR15 := Lib.hid hR15.1
      clear hMf hTg
      go_upto_region 24 with (fail)
      generalize World.setCell _ _ _ = wr at *
      have c25 := hR15.out.st.1
      have f25 := hR15.out.st.2
      have hS := hR15.out.setSt 0
      have hB1 := hS.2
      have c27 := hS.1.pc.1
      have f27 := hS.1.pc.2
      have hP := hS.1.setPc y y0 y1
      have hTf := Lib.hid (hT15.out.trans ((hB1.trans hP.2).turn (F := F) hR15.out.inE))
      replace hP := Lib.hid hP.1
      replace hS := Lib.hid hS.1
      clear hB1
      go_upto_region 26 with (fail)
      generalize World.setCell _ ⟨E, 23, none⟩ _ = wq at *
      go_wp2
      go_ret
      exact ⟨rfl, hP.out, hTf.out⟩
set_option maxHeartbeats 2000000 in
theorem rstep_7 {F : Nat → Prop} {E : Nat} {x : X.St} {w : World} (h : RMac F E x w) (D : Nat) (v tw k op a b c i : Int) (u is : Bool) (h0 : x.st = 0)
    (cD : w.cell? ⟨E, 0, none⟩ = some (.pointer (some ⟨D, 0, none⟩)))
    (L : ∀ w', Kept w w' → Calls Tryz.prog 29 #[.pointer (some ⟨D, 0, none⟩), .int .u32 x.pc] w' fun e w'' => e = .returned (.tuple #[.int .u32 v, .int .i64 tw]) ∧ Kept w' w'')
    (DD : ∀ w, Calls Tryz.prog 30 #[.int .u32 v] w fun e w' => e = .returned (.tuple #[.agg #[.int .i64 k, .int .i64 op, .int .i64 a, .int .i64 b, .int .i64 c, .int .i64 i, .bool u], .bool is]) ∧ Kept w w') (S' : A.Regs) (y n : Int) (tk : Bool) (ht : tw = 0) (hi : is = true) (y0 : 0 ≤ y) (y1 : y < 4294967296) (n0 : 0 ≤ n) (n1 : n < 4294967296) (hk : k = 7) (hn : (x.pc + 4) % 4294967296 = n) (c0 : 0 ≤ c) (c1 : c < 16) (i0 : -8388608 ≤ i) (i1 : i < 8388608)
    (CT : ∀ w, Calls Tryz.prog 32 #[.agg (A.cells x.s), .int .i64 op] w fun e w' => e = .returned (.bool tk) ∧ Kept w w')
    (hy : (tk = false ∧ S' = x.s ∧ y = n) ∨ (tk = true ∧ S' = (if u = true then A.set x.s 15 n else x.s) ∧ (n + 4 * i) % 4294967296 = y)) :
    Calls Tryz.prog 11 #[.pointer (some ⟨E, 0, none⟩)] w fun e w' => e = .returned (.int .i64 0) ∧ RMac F E ⟨x.ws, S', y, 0, x.ins, x.outs⟩ w' ∧ Turn F w w' := by
  subst ht
  subst hi
  subst hk
  have cs := h.st.1
  rw [h0] at cs
  have cp := h.pc.1
  have hEw : E < w.heap.size := h.sub E h.inE
  have hh := Lib.hid h
  clear h
  go_enter Tryz.func11, Tryz.ntmps11
  go_upto_region 3 with (fail)
  refine wp_region_held_drew (S := fun wz => Kept w wz) (by kernel_rfl) ?_ (fun hHeld => ?_)
  · exact (Kept.refl w).drew
  refine Go.Proofs.YtlmddkciamdldaaGreat.tk 0 ⟨some 19, .move (.tmp 0), 31, "ref.go:82", #[], none⟩ (v := ?_) hHeld ?_ ?_
  rotate_left
  · (intro wz hSw; (try dsimp only at hSw); go_simp; try with_reducible rfl)
  try simp only [Act.put, q0, q1, q2]
  refine Go.Proofs.YtlmddkciamdldaaGreat.tk 1 ⟨some 20, .nilCheck (.tmp 19), 0, "ref.go:82", #[eD 0], none⟩ (v := ?_) hHeld ?_ ?_
  rotate_left
  · (intro wz hSw; (try dsimp only at hSw); go_simp; try with_reducible rfl)
  try simp only [Act.put, q0, q1, q2]
  refine Go.Proofs.YtlmddkciamdldaaGreat.tk 2 ⟨some 21, .fieldAddr 54 (.tmp 20) 0, 0, "ref.go:82", #[eD 1], none⟩ (v := ?_) hHeld ?_ ?_
  rotate_left
  · (intro wz hSw; (try dsimp only at hSw); go_simp; try with_reducible rfl)
  try simp only [Act.put, q0, q1, q2]
  refine Go.Proofs.YtlmddkciamdldaaGreat.tk 3 ⟨some 22, .load 52 (.tmp 21), 52, "ref.go:82", #[eD 2], none⟩ (v := ?_) hHeld ?_ ?_
  rotate_left
  · (intro wz hSw; (try dsimp only at hSw); have p1 : World.cell? wz ⟨E, 0, none⟩ = some (.pointer (some ⟨D, 0, none⟩)) := (hSw.cell hEw).trans cD; have p2 : World.cell? wz ⟨E, 22, none⟩ = some (.int .u32 x.pc) := (hSw.cell hEw).trans cp; go_simp; try with_reducible rfl)
  try simp only [Act.put, q0, q1, q2]
  refine Go.Proofs.YtlmddkciamdldaaGreat.tk 4 ⟨some 23, .move (.tmp 0), 31, "ref.go:82", #[], none⟩ (v := ?_) hHeld ?_ ?_
  rotate_left
  · (intro wz hSw; (try dsimp only at hSw); go_simp; try with_reducible rfl)
  try simp only [Act.put, q0, q1, q2]
  refine Go.Proofs.YtlmddkciamdldaaGreat.tk 5 ⟨some 24, .nilCheck (.tmp 23), 0, "ref.go:82", #[eD 4], none⟩ (v := ?_) hHeld ?_ ?_
  rotate_left
  · (intro wz hSw; (try dsimp only at hSw); go_simp; try with_reducible rfl)
  try simp only [Act.put, q0, q1, q2]
  refine Go.Proofs.YtlmddkciamdldaaGreat.tk 6 ⟨some 25, .fieldAddr 54 (.tmp 24) 2, 0, "ref.go:82", #[eD 5], none⟩ (v := ?_) hHeld ?_ ?_
  rotate_left
  · (intro wz hSw; (try dsimp only at hSw); go_simp; try with_reducible rfl)
  try simp only [Act.put, q0, q1, q2]
  refine Go.Proofs.YtlmddkciamdldaaGreat.tk 7 ⟨some 26, .load 23 (.tmp 25), 23, "ref.go:82", #[eD 6], none⟩ (v := ?_) hHeld ?_ ?_
  rotate_left
  · (intro wz hSw; (try dsimp only at hSw); have p1 : World.cell? wz ⟨E, 0, none⟩ = some (.pointer (some ⟨D, 0, none⟩)) := (hSw.cell hEw).trans cD; have p2 : World.cell? wz ⟨E, 22, none⟩ = some (.int .u32 x.pc) := (hSw.cell hEw).trans cp; go_simp; try with_reducible rfl)
  try simp only [Act.put, q0, q1, q2]
  refine wpAnyH_ready (rs := [8]) (by kernel_rfl) (by simp) ?_
  refine AllReadyH.cons (o := ⟨some 27, .call { callee := .value (.func 29), args := #[.tmp 22, .tmp 26], argTypes := #[52, 23] }, 69, "ref.go:82", #[eD 3, eD 7], none⟩) rfl (fun K hK => ?_) (AllReadyH.nil)
  go_simp
  go_at_call 29
  refine (L _ hHeld).mono ?_
  rintro e wd ⟨rfl, hKd⟩
  have hN := (show (fun wz => Kept w wz) _ from hHeld.trans hKd)
  clear hHeld
  refine hK.out _ _ hN (fun hHeld => ?_)
  clear hK K hN
  try simp only [Act.put, q0, q1, q2]
  refine Go.Proofs.YtlmddkciamdldaaGreat.tk 9 ⟨some 18, .move (.tmp 27), 69, "ref.go:82", #[eD 8], none⟩ (v := ?_) hHeld ?_ ?_
  rotate_left
  · (intro wz hSw; (try dsimp only at hSw); go_simp; try with_reducible rfl)
  try simp only [Act.put, q0, q1, q2]
  refine Go.Proofs.YtlmddkciamdldaaGreat.tk 10 ⟨some 28, .extract (.tmp 18) 0, 23, "ref.go:82", #[eD 9], none⟩ (v := ?_) hHeld ?_ ?_
  rotate_left
  · (intro wz hSw; (try dsimp only at hSw); go_simp; try with_reducible rfl)
  try simp only [Act.put, q0, q1, q2]
  refine Go.Proofs.YtlmddkciamdldaaGreat.tk 11 ⟨some 29, .extract (.tmp 18) 1, 3, "ref.go:82", #[eD 9, eL 12], none⟩ (v := ?_) hHeld ?_ ?_
  rotate_left
  · (intro wz hSw; (try dsimp only at hSw); go_simp; try with_reducible rfl)
  try simp only [Act.put, q0, q1, q2]
  refine Go.Proofs.YtlmddkciamdldaaGreat.tk 12 ⟨some 3, .assign (.tmp 28), 23, "ref.go:82", #[eD 10, eC 8, eP 0, eP 1, eP 2, eP 3, eP 4, eP 5, eP 6, eP 7, eP 8, eP 9, eP 10, eT 11], none⟩ (v := ?_) hHeld ?_ ?_
  rotate_left
  · (intro wz hSw; (try dsimp only at hSw); go_simp; try with_reducible rfl)
  try simp only [Act.put, q0, q1, q2]
  refine Go.Proofs.YtlmddkciamdldaaGreat.tk 13 ⟨some 4, .assign (.tmp 29), 3, "ref.go:82", #[eD 11, eC 12, eP 0, eP 1, eP 2, eP 3, eP 4, eP 5, eP 6, eP 7, eP 8, eP 9, eP 10, eP 11, eP 12], none⟩ (v := ?_) hHeld ?_ ?_
  rotate_left
  · (intro wz hSw; (try dsimp only at hSw); go_simp; try with_reducible rfl)
  try simp only [Act.put, q0, q1, q2]
  refine wpAnyH_done (by kernel_rfl) ?_ _
  have hK0 := Lib.hid hHeld
  clear hHeld hKd cs
  go_wp2_with (fail)
  refine (DD _).mono ?_; rintro e w2 ⟨rfl, hK2⟩
  have hK := hK0.out.trans (hK2.alloc #[.int .i64 7, .int .i64 op, .int .i64 a, .int .i64 b, .int .i64 c, .int .i64 i, .bool u] 57)
  have hI := Lib.hid (Has.new #[.int .i64 7, .int .i64 op, .int .i64 a, .int .i64 b, .int .i64 c, .int .i64 i, .bool u] 57 w2)
  have hM := Lib.hid (hh.out.kept hK)
  have st3 := hM.out.st
  have c3 := st3.1
  have f3 := st3.2
  have p3 := hM.out.pc.1
  have hT := Lib.hid (hK.turn F)
  have hsz : w.heap.size ≤ w2.heap.size := Nat.le_trans hK0.out.size hK2.size
  clear hK hK0 hK2 st3 hh cp cD L DD
  have w4 : wrap64 (4 * i) = 4 * i := by unfold wrap64; omega
  go_upto_region 18 with (fail)
  generalize w2.heap.size = g at *
  generalize w2.alloc (Obj.cells _ _) = w3 at *
  refine wp_region_held_drew (S := fun wz => Kept w3 wz) (by kernel_rfl) ?_ (fun hHeld => ?_)
  · exact (Kept.refl w3).drew
  refine Go.Proofs.YtlmddkciamdldaaGreat.tk 0 ⟨some 78, .move (.tmp 0), 31, "ref.go:97", #[], none⟩ (v := ?_) hHeld ?_ ?_
  rotate_left
  · (intro wz hSw; (try dsimp only at hSw); go_simp; try with_reducible rfl)
  try simp only [Act.put, q0, q1, q2]
  refine Go.Proofs.YtlmddkciamdldaaGreat.tk 1 ⟨some 79, .nilCheck (.tmp 78), 0, "ref.go:97", #[eD 0], none⟩ (v := ?_) hHeld ?_ ?_
  rotate_left
  · (intro wz hSw; (try dsimp only at hSw); go_simp; try with_reducible rfl)
  try simp only [Act.put, q0, q1, q2]
  refine Go.Proofs.YtlmddkciamdldaaGreat.tk 2 ⟨some 80, .fieldAddr 54 (.tmp 79) 1, 0, "ref.go:97", #[eD 1], none⟩ (v := ?_) hHeld ?_ ?_
  rotate_left
  · (intro wz hSw; (try dsimp only at hSw); go_simp; try with_reducible rfl)
  try simp only [Act.put, q0, q1, q2]
  refine Go.Proofs.YtlmddkciamdldaaGreat.tk 3 ⟨some 81, .load 26 (.tmp 80), 26, "ref.go:97", #[eD 2], none⟩ (v := ?_) hHeld ?_ ?_
  rotate_left
  · (intro wz hSw; refine exec_load_mid 26 (Operand.tmp 80) ?_ E 1 ?_ (A.cells x.s) (hM.out.kept hSw).range Tryz.underlying26 rfl (A.info25 _) <;> rfl)
  try simp only [Act.put, q0, q1, q2]
  refine Go.Proofs.YtlmddkciamdldaaGreat.tk 4 ⟨some 82, .fieldAddr 57 (.tmp 5) 1, 0, "ref.go:97", #[], none⟩ (v := ?_) hHeld ?_ ?_
  rotate_left
  · (intro wz hSw; (try dsimp only at hSw); go_simp; try with_reducible rfl)
  try simp only [Act.put, q0, q1, q2]
  refine Go.Proofs.YtlmddkciamdldaaGreat.tk 5 ⟨some 83, .load 3 (.tmp 82), 3, "ref.go:97", #[eD 4], none⟩ (v := ?_) hHeld ?_ ?_
  rotate_left
  · (intro wz hSw; (try dsimp only at hSw); have p1 : World.cell? wz ⟨g, 1, none⟩ = some (.int .i64 op) := (hI.out.kept hSw).cell 1 _ rfl; go_simp; try with_reducible rfl)
  try simp only [Act.put, q0, q1, q2]
  refine wpAnyH_ready (rs := [6]) (by kernel_rfl) (by simp) ?_
  refine AllReadyH.cons (o := ⟨some 84, .call { callee := .value (.func 32), args := #[.tmp 81, .tmp 83], argTypes := #[26, 3] }, 4, "ref.go:97", #[eD 3, eD 5], none⟩) rfl (fun K hK => ?_) (AllReadyH.nil)
  go_simp
  go_at_call 32
  refine (CT _).mono ?_
  rintro e we ⟨rfl, hKe⟩
  have hN := (show (fun wz => Kept w3 wz) _ from hHeld.trans hKe)
  clear hHeld
  refine hK.out _ _ hN (fun hHeld => ?_)
  clear hK K hN
  try simp only [Act.put, q0, q1, q2]
  refine wpAnyH_done (by kernel_rfl) ?_ _
  have hMe := hM.out.kept hHeld
  have hTe := Lib.hid (hT.out.trans (hHeld.turn F))
  have hIe := hI.out.kept hHeld
  have j0 : we.cell? ⟨g, 0, none⟩ = some (.int .i64 7) := hIe.cell 0 _ rfl
  have j4 : we.cell? ⟨g, 4, none⟩ = some (.int .i64 c) := hIe.cell 4 _ rfl
  have j5 : we.cell? ⟨g, 5, none⟩ = some (.int .i64 i) := hIe.cell 5 _ rfl
  have j6 : we.cell? ⟨g, 6, none⟩ = some (.bool u) := hIe.cell 6 _ rfl
  skip
  replace hIe := Lib.hid hIe
  replace hMe := Lib.hid hMe
  clear hHeld hKe hM hI hT c3 f3 p3 CT
  rcases hy with ⟨rfl, rfl, rfl⟩ | ⟨rfl, hS', hy⟩
  · have c25 := hMe.out.st.1
    have f25 := hMe.out.st.2
    have hS := hMe.out.setSt 0
    have hB1 := hS.2
    have c27 := hS.1.pc.1
    have f27 := hS.1.pc.2
    have hP := hS.1.setPc y y0 y1
    have hTf := Lib.hid (hTe.out.trans ((hB1.trans hP.2).turn (F := F) hMe.out.inE))
    replace hP := Lib.hid hP.1
    replace hS := Lib.hid hS.1
    clear hB1
    go_upto_region 26 with (fail)
    generalize World.setCell _ ⟨E, 23, none⟩ _ = wq at *
    go_wp2
    go_ret
    exact ⟨rfl, hP.out, hTf.out⟩
  · skip
    cases u
    · rw [if_neg (by simp)] at hS'
      subst hS'
      have c25 := hMe.out.st.1
      have f25 := hMe.out.st.2
      have hS := hMe.out.setSt 0
      have hB1 := hS.2
      have c27 := hS.1.pc.1
      have f27 := hS.1.pc.2
      have hP := hS.1.setPc y y0 y1
      have hTf := Lib.hid (hTe.out.trans ((hB1.trans hP.2).turn (F := F) hMe.out.inE))
      replace hP := Lib.hid hP.1
      replace hS := Lib.hid hS.1
      clear hB1
      go_upto_region 26 with (fail)
      generalize World.setCell _ ⟨E, 23, none⟩ _ = wq at *
      go_wp2
      go_ret
      exact ⟨rfl, hP.out, hTf.out⟩
    · rw [if_pos rfl] at hS'
      have k15 := (hMe.out.reg 15 (by omega)).1
      have g15 := (hMe.out.reg 15 (by omega)).2
      have hR15 := hMe.out.setReg 15 (by omega) n n0 n1
      rw [← hS'] at hR15
      clear hS'
      have hT15 := Lib.hid (hTe.out.trans (hR15.2.turn (F := F) hMe.out.inE))
      replace hR15 := Lib.hid hR15.1
      clear hMe hTe
      go_upto_region 24 with (fail)
      generalize World.setCell _ _ _ = wr at *
      have c25 := hR15.out.st.1
      have f25 := hR15.out.st.2
      have hS := hR15.out.setSt 0
      have hB1 := hS.2
      have c27 := hS.1.pc.1
      have f27 := hS.1.pc.2
      have hP := hS.1.setPc y y0 y1
      have hTf := Lib.hid (hT15.out.trans ((hB1.trans hP.2).turn (F := F) hR15.out.inE))
      replace hP := Lib.hid hP.1
      replace hS := Lib.hid hS.1
      clear hB1
      go_upto_region 26 with (fail)
      generalize World.setCell _ ⟨E, 23, none⟩ _ = wq at *
      go_wp2
      go_ret
      exact ⟨rfl, hP.out, hTf.out⟩
end Go.Proofs.YtlmddkciamdldaaGreat

/-
  The document's machine: Step.
-/
namespace Go.Proofs.YtlmddkciamdldaaGreat
open Go.RowKit
set_option linter.unusedVariables false
set_option linter.unusedSimpArgs false
set_option maxRecDepth 100000
set_option maxHeartbeats 2000000 in
theorem rstep_0 {F : Nat → Prop} {E : Nat} {x : X.St} {w : World} (h : RMac F E x w) (D : Nat) (v tw k op a b c i : Int) (u is : Bool) (h0 : x.st = 0)
    (cD : w.cell? ⟨E, 0, none⟩ = some (.pointer (some ⟨D, 0, none⟩)))
    (L : ∀ w', Kept w w' → Calls Tryz.prog 29 #[.pointer (some ⟨D, 0, none⟩), .int .u32 x.pc] w' fun e w'' => e = .returned (.tuple #[.int .u32 v, .int .i64 tw]) ∧ Kept w' w'')
    (DD : ∀ w, Calls Tryz.prog 30 #[.int .u32 v] w fun e w' => e = .returned (.tuple #[.agg #[.int .i64 k, .int .i64 op, .int .i64 a, .int .i64 b, .int .i64 c, .int .i64 i, .bool u], .bool is]) ∧ Kept w w') (S' : A.Regs) (t y : Int) (ht : tw = 0) (hi : is = true) (y0 : 0 ≤ y) (y1 : y < 4294967296) (okS : A.Ok S') (k5 : ¬ k = 5) (k6 : ¬ k = 6) (k7 : ¬ k = 7) (hy : (x.pc + 4) % 4294967296 = y)
    (CD : ∀ w, Calls Tryz.prog 33 #[.agg (A.cells x.s), .agg #[.int .i64 k, .int .i64 op, .int .i64 a, .int .i64 b, .int .i64 c, .int .i64 i, .bool u]] w fun e w' => e = .returned (.tuple #[.agg (A.cells S'), .int .i64 t]) ∧ Kept w w') :
    Calls Tryz.prog 11 #[.pointer (some ⟨E, 0, none⟩)] w fun e w' => e = .returned (.int .i64 t) ∧ ∃ F', RMac F' E (if t = 0 ∨ t = 1 then ⟨x.ws, S', y, t, x.ins, x.outs⟩ else ⟨x.ws, S', x.pc, t, x.ins, x.outs⟩) w' ∧ Turn F w w' ∧ ∀ k, F' k → F k ∨ w.heap.size ≤ k := by
  subst ht
  subst hi
  generalize hxe : (if t = 0 ∨ t = 1 then (⟨x.ws, S', y, t, x.ins, x.outs⟩ : X.St) else ⟨x.ws, S', x.pc, t, x.ins, x.outs⟩) = x2
  have cs := h.st.1
  rw [h0] at cs
  have cp := h.pc.1
  have hEw : E < w.heap.size := h.sub E h.inE
  have hh := Lib.hid h
  clear h
  go_enter Tryz.func11, Tryz.ntmps11
  go_upto_region 3 with (fail)
  refine wp_region_held_drew (S := fun wz => Kept w wz) (by kernel_rfl) ?_ (fun hHeld => ?_)
  · exact (Kept.refl w).drew
  refine tk 0 ⟨some 19, .move (.tmp 0), 31, "ref.go:82", #[], none⟩ (v := ?_) hHeld ?_ ?_
  rotate_left
  · (intro wz hSw; (try dsimp only at hSw); go_simp; try with_reducible rfl)
  try simp only [Act.put, q0, q1, q2]
  refine tk 1 ⟨some 20, .nilCheck (.tmp 19), 0, "ref.go:82", #[eD 0], none⟩ (v := ?_) hHeld ?_ ?_
  rotate_left
  · (intro wz hSw; (try dsimp only at hSw); go_simp; try with_reducible rfl)
  try simp only [Act.put, q0, q1, q2]
  refine tk 2 ⟨some 21, .fieldAddr 54 (.tmp 20) 0, 0, "ref.go:82", #[eD 1], none⟩ (v := ?_) hHeld ?_ ?_
  rotate_left
  · (intro wz hSw; (try dsimp only at hSw); go_simp; try with_reducible rfl)
  try simp only [Act.put, q0, q1, q2]
  refine tk 3 ⟨some 22, .load 52 (.tmp 21), 52, "ref.go:82", #[eD 2], none⟩ (v := ?_) hHeld ?_ ?_
  rotate_left
  · (intro wz hSw; (try dsimp only at hSw); have p1 : World.cell? wz ⟨E, 0, none⟩ = some (.pointer (some ⟨D, 0, none⟩)) := (hSw.cell hEw).trans cD; have p2 : World.cell? wz ⟨E, 22, none⟩ = some (.int .u32 x.pc) := (hSw.cell hEw).trans cp; go_simp; try with_reducible rfl)
  try simp only [Act.put, q0, q1, q2]
  refine tk 4 ⟨some 23, .move (.tmp 0), 31, "ref.go:82", #[], none⟩ (v := ?_) hHeld ?_ ?_
  rotate_left
  · (intro wz hSw; (try dsimp only at hSw); go_simp; try with_reducible rfl)
  try simp only [Act.put, q0, q1, q2]
  refine tk 5 ⟨some 24, .nilCheck (.tmp 23), 0, "ref.go:82", #[eD 4], none⟩ (v := ?_) hHeld ?_ ?_
  rotate_left
  · (intro wz hSw; (try dsimp only at hSw); go_simp; try with_reducible rfl)
  try simp only [Act.put, q0, q1, q2]
  refine tk 6 ⟨some 25, .fieldAddr 54 (.tmp 24) 2, 0, "ref.go:82", #[eD 5], none⟩ (v := ?_) hHeld ?_ ?_
  rotate_left
  · (intro wz hSw; (try dsimp only at hSw); go_simp; try with_reducible rfl)
  try simp only [Act.put, q0, q1, q2]
  refine tk 7 ⟨some 26, .load 23 (.tmp 25), 23, "ref.go:82", #[eD 6], none⟩ (v := ?_) hHeld ?_ ?_
  rotate_left
  · (intro wz hSw; (try dsimp only at hSw); have p1 : World.cell? wz ⟨E, 0, none⟩ = some (.pointer (some ⟨D, 0, none⟩)) := (hSw.cell hEw).trans cD; have p2 : World.cell? wz ⟨E, 22, none⟩ = some (.int .u32 x.pc) := (hSw.cell hEw).trans cp; go_simp; try with_reducible rfl)
  try simp only [Act.put, q0, q1, q2]
  refine wpAnyH_ready (rs := [8]) (by kernel_rfl) (by simp) ?_
  refine AllReadyH.cons (o := ⟨some 27, .call { callee := .value (.func 29), args := #[.tmp 22, .tmp 26], argTypes := #[52, 23] }, 69, "ref.go:82", #[eD 3, eD 7], none⟩) rfl (fun K hK => ?_) (AllReadyH.nil)
  go_simp
  go_at_call 29
  refine (L _ hHeld).mono ?_
  rintro e wd ⟨rfl, hKd⟩
  have hN := (show (fun wz => Kept w wz) _ from hHeld.trans hKd)
  clear hHeld
  refine hK.out _ _ hN (fun hHeld => ?_)
  clear hK K hN
  try simp only [Act.put, q0, q1, q2]
  refine tk 9 ⟨some 18, .move (.tmp 27), 69, "ref.go:82", #[eD 8], none⟩ (v := ?_) hHeld ?_ ?_
  rotate_left
  · (intro wz hSw; (try dsimp only at hSw); go_simp; try with_reducible rfl)
  try simp only [Act.put, q0, q1, q2]
  refine tk 10 ⟨some 28, .extract (.tmp 18) 0, 23, "ref.go:82", #[eD 9], none⟩ (v := ?_) hHeld ?_ ?_
  rotate_left
  · (intro wz hSw; (try dsimp only at hSw); go_simp; try with_reducible rfl)
  try simp only [Act.put, q0, q1, q2]
  refine tk 11 ⟨some 29, .extract (.tmp 18) 1, 3, "ref.go:82", #[eD 9, eL 12], none⟩ (v := ?_) hHeld ?_ ?_
  rotate_left
  · (intro wz hSw; (try dsimp only at hSw); go_simp; try with_reducible rfl)
  try simp only [Act.put, q0, q1, q2]
  refine tk 12 ⟨some 3, .assign (.tmp 28), 23, "ref.go:82", #[eD 10, eC 8, eP 0, eP 1, eP 2, eP 3, eP 4, eP 5, eP 6, eP 7, eP 8, eP 9, eP 10, eT 11], none⟩ (v := ?_) hHeld ?_ ?_
  rotate_left
  · (intro wz hSw; (try dsimp only at hSw); go_simp; try with_reducible rfl)
  try simp only [Act.put, q0, q1, q2]
  refine tk 13 ⟨some 4, .assign (.tmp 29), 3, "ref.go:82", #[eD 11, eC 12, eP 0, eP 1, eP 2, eP 3, eP 4, eP 5, eP 6, eP 7, eP 8, eP 9, eP 10, eP 11, eP 12], none⟩ (v := ?_) hHeld ?_ ?_
  rotate_left
  · (intro wz hSw; (try dsimp only at hSw); go_simp; try with_reducible rfl)
  try simp only [Act.put, q0, q1, q2]
  refine wpAnyH_done (by kernel_rfl) ?_ _
  have hK0 := Lib.hid hHeld
  clear hHeld hKd cs
  go_wp2_with (fail)
  refine (DD _).mono ?_; rintro e w2 ⟨rfl, hK2⟩
  have hK := hK0.out.trans (hK2.alloc #[.int .i64 k, .int .i64 op, .int .i64 a, .int .i64 b, .int .i64 c, .int .i64 i, .bool u] 57)
  have hI := Lib.hid (Has.new #[.int .i64 k, .int .i64 op, .int .i64 a, .int .i64 b, .int .i64 c, .int .i64 i, .bool u] 57 w2)
  have hM := Lib.hid (hh.out.kept hK)
  have st3 := hM.out.st
  have c3 := st3.1
  have f3 := st3.2
  have p3 := hM.out.pc.1
  have hT := Lib.hid (hK.turn F)
  have hsz : w.heap.size ≤ w2.heap.size := Nat.le_trans hK0.out.size hK2.size
  clear hK hK0 hK2 st3 hh cp cD L DD
  have e5 : (k == 5) = false := by simpa using k5
  have e6 : (k == 6) = false := by simpa using k6
  have e7 : (k == 7) = false := by simpa using k7
  have hgE : w2.heap.size ≠ E := by omega
  go_upto_region 13 with (fail)
  generalize w2.heap.size = g at *
  generalize w2.alloc (Obj.cells _ _) = w3 at *
  have hMd := Lib.hid (show RMac F E x w3.drew from hM.out.kept (Kept.refl w3).drew)
  clear hM
  refine wp_region_held_drew (S := fun wz => Has g #[.int .i64 k, .int .i64 op, .int .i64 a, .int .i64 b, .int .i64 c, .int .i64 i, .bool u] 57 wz) (by kernel_rfl) ?_ (fun hHeld => ?_)
  · exact hI.out
  refine tk 0 ⟨some 59, .move (.tmp 0), 31, "ref.go:108", #[], none⟩ (v := ?_) hHeld ?_ ?_
  rotate_left
  · (intro wz hSw; (try dsimp only at hSw); go_simp; try with_reducible rfl)
  try simp only [Act.put, q0, q1, q2]
  refine tk 1 ⟨some 60, .move (.tmp 0), 31, "ref.go:108", #[], none⟩ (v := ?_) hHeld ?_ ?_
  rotate_left
  · (intro wz hSw; (try dsimp only at hSw); go_simp; try with_reducible rfl)
  try simp only [Act.put, q0, q1, q2]
  refine tk 2 ⟨some 61, .nilCheck (.tmp 60), 0, "ref.go:108", #[eD 1], none⟩ (v := ?_) hHeld ?_ ?_
  rotate_left
  · (intro wz hSw; (try dsimp only at hSw); go_simp; try with_reducible rfl)
  try simp only [Act.put, q0, q1, q2]
  refine tk 3 ⟨some 62, .fieldAddr 54 (.tmp 61) 1, 0, "ref.go:108", #[eD 2], none⟩ (v := ?_) hHeld ?_ ?_
  rotate_left
  · (intro wz hSw; (try dsimp only at hSw); go_simp; try with_reducible rfl)
  try simp only [Act.put, q0, q1, q2]
  refine tk 5 ⟨some 64, .load 57 (.tmp 5), 57, "ref.go:108", #[], none⟩ (v := ?_) hHeld ?_ ?_
  rotate_left
  · (intro wz hSw; refine exec_load_has 57 (Operand.tmp 5) ?_ _ ?_ hSw Tryz.underlying57 rfl (by kernel_rfl) <;> rfl)
  try simp only [Act.put, q0, q1, q2]
  refine wpAnyH_ready (rs := [4]) (by kernel_rfl) (by simp) ?_
  refine AllReadyH.cons (o := ⟨some 63, .load 26 (.tmp 62), 26, "ref.go:108", #[eD 3], none⟩) rfl (fun K hK => ?_) (AllReadyH.nil)
  refine wp_load_mid (op := { dst := some 63, op := Op.load 26 (Operand.tmp 62), type := 26, pos := "ref.go:108", after := #[eD 3], guard := none }) 26 _ rfl E 1 rfl (A.cells x.s).toList _ hMd.out.range Tryz.underlying26 rfl (by rw [Array.length_toList]; exact A.info25 _) ?_
  rw [Array.toArray_toList]
  have hN := (show (fun wz => Has g #[.int .i64 k, .int .i64 op, .int .i64 a, .int .i64 b, .int .i64 c, .int .i64 i, .bool u] 57 wz) _ from hHeld)
  clear hHeld
  refine hK.out _ _ hN (fun hHeld => ?_)
  clear hK K hN
  try simp only [Act.put, q0, q1, q2]
  refine wpAnyH_ready (rs := [6]) (by kernel_rfl) (by simp) ?_
  refine AllReadyH.cons (o := ⟨some 65, .call { callee := .value (.func 33), args := #[.tmp 63, .tmp 64], argTypes := #[26, 57] }, 75, "ref.go:108", #[eD 4, eD 5], none⟩) rfl (fun K hK => ?_) (AllReadyH.nil)
  go_simp
  go_at_call 33
  refine (CD _).mono ?_
  rintro e we ⟨rfl, hKe⟩
  have hN := (show (fun wz => Has g #[.int .i64 k, .int .i64 op, .int .i64 a, .int .i64 b, .int .i64 c, .int .i64 i, .bool u] 57 wz) _ from hHeld.kept hKe)
  clear hHeld
  refine hK.out _ _ hN (fun hHeld => ?_)
  clear hK K hN
  try simp only [Act.put, q0, q1, q2]
  refine tk 7 ⟨some 58, .move (.tmp 65), 75, "ref.go:108", #[eD 6], none⟩ (v := ?_) hHeld ?_ ?_
  rotate_left
  · (intro wz hSw; (try dsimp only at hSw); go_simp; try with_reducible rfl)
  try simp only [Act.put, q0, q1, q2]
  refine tk 8 ⟨some 66, .extract (.tmp 58) 0, 26, "ref.go:108", #[eD 7], none⟩ (v := ?_) hHeld ?_ ?_
  rotate_left
  · (intro wz hSw; (try dsimp only at hSw); go_simp; try with_reducible rfl)
  try simp only [Act.put, q0, q1, q2]
  refine tk 9 ⟨some 67, .extract (.tmp 58) 1, 3, "ref.go:108", #[eD 7, eL 12], none⟩ (v := ?_) hHeld ?_ ?_
  rotate_left
  · (intro wz hSw; (try dsimp only at hSw); go_simp; try with_reducible rfl)
  try simp only [Act.put, q0, q1, q2]
  refine tk 10 ⟨some 68, .nilCheck (.tmp 59), 0, "ref.go:108", #[eD 0, eP 0, eP 1, eP 2, eP 3, eP 4, eP 5, eP 6, eP 7, eP 8, eT 9], none⟩ (v := ?_) hHeld ?_ ?_
  rotate_left
  · (intro wz hSw; (try dsimp only at hSw); go_simp; try with_reducible rfl)
  try simp only [Act.put, q0, q1, q2]
  refine tk 11 ⟨some 69, .fieldAddr 54 (.tmp 68) 1, 0, "ref.go:108", #[eD 10, eP 0, eP 1, eP 2, eP 3, eP 4, eP 5, eP 6, eP 7, eP 8, eT 9], none⟩ (v := ?_) hHeld ?_ ?_
  rotate_left
  · (intro wz hSw; (try dsimp only at hSw); go_simp; try with_reducible rfl)
  try simp only [Act.put, q0, q1, q2]
  refine wpAnyH_ready (rs := [12]) (by kernel_rfl) (by simp) ?_
  refine AllReadyH.cons (o := ⟨none, .store 26 (.tmp 69) (.tmp 66), 0, "ref.go:108", #[eD 11, eD 8, eC 6, eP 0, eP 1, eP 2, eP 3, eP 4, eP 5, eP 6, eP 7, eP 8, eT 9], none⟩) rfl (fun K hK => ?_) (AllReadyH.nil)
  have hMe := hMd.out.kept hKe
  have hthe := hMe.there
  refine wp_store_mid (op := { dst := none, op := Op.store 26 (Operand.tmp 69) (Operand.tmp 66), type := 0, pos := "ref.go:108", after := #[eD 11, eD 8, eC 6, eP 0, eP 1, eP 2, eP 3, eP 4, eP 5, eP 6, eP 7, eP 8, eT 9], guard := none }) 26 _ _ rfl E 1 (A.cells S') rfl rfl hthe (A.info25 _) (A.one_cells _) ?_
  have hR := hMe.setRegs S' okS
  generalize World.setCells _ _ _ _ = wf at *
  have hN := (show (fun wz => Has g #[.int .i64 k, .int .i64 op, .int .i64 a, .int .i64 b, .int .i64 c, .int .i64 i, .bool u] 57 wz) _ from hR.2.has hgE hHeld)
  clear hHeld
  refine hK.out _ _ hN (fun hHeld => ?_)
  clear hK K hN
  try simp only [Act.put, q0, q1, q2]
  refine tk 13 ⟨some 4, .assign (.tmp 67), 3, "ref.go:108", #[eD 9, eC 12, eP 0, eP 1, eP 2, eP 3, eP 4, eP 5, eP 6, eP 7, eP 8, eP 9, eP 10, eP 11, eP 12], none⟩ (v := ?_) hHeld ?_ ?_
  rotate_left
  · (intro wz hSw; (try dsimp only at hSw); go_simp; try with_reducible rfl)
  try simp only [Act.put, q0, q1, q2]
  refine wpAnyH_done (by kernel_rfl) ?_ _
  have hMz := Lib.hid hR.1
  have hTz := Lib.hid (hT.out.trans ((((Kept.refl w3).drew.trans hKe).turn F).trans (hR.2.turn hMe.inE)))
  have hF : ∀ k, F k → F k ∨ w.heap.size ≤ k := fun k hk => Or.inl hk
  clear hR hMe hMd hHeld hKe hT hI c3 f3 p3 CD
  by_cases t01 : t = 0 ∨ t = 1
  · rw [if_pos t01] at hxe
    subst hxe
    have c25 := hMz.out.st.1
    have f25 := hMz.out.st.2
    have hS := hMz.out.setSt t
    have hB1 := hS.2
    have c27 := hS.1.pc.1
    have f27 := hS.1.pc.2
    have hP := hS.1.setPc y y0 y1
    have hTf := Lib.hid (hTz.out.then ((hB1.trans hP.2).turn (F := F) hMz.out.inE) hF)
    replace hP := Lib.hid hP.1
    replace hS := Lib.hid hS.1
    clear hMz hTz hB1
    rcases t01 with rfl | rfl
    all_goals
      go_upto_region 26 with (fail)
      generalize World.setCell _ ⟨E, 23, none⟩ _ = wq at *
      go_wp2
      go_ret
      exact ⟨rfl, F, hP.out, hTf.out, hF⟩
  · rw [if_neg t01] at hxe
    subst hxe
    have c25 := hMz.out.st.1
    have f25 := hMz.out.st.2
    have hS := hMz.out.setSt t
    have hTf := Lib.hid (hTz.out.then (hS.2.turn (F := F) hMz.out.inE) hF)
    replace hS := Lib.hid hS.1
    clear hMz hTz
    have n0 : ¬ t = 0 := fun e => t01 (Or.inl e)
    have n1 : ¬ t = 1 := fun e => t01 (Or.inr e)
    have n2 : (t == 0) = false := by simpa using n0
    have n3 : (t == 1) = false := by simpa using n1
    go_wp2
    go_ret
    exact ⟨rfl, F, hS.out, hTf.out, hF⟩
end Go.Proofs.YtlmddkciamdldaaGreat

/-
  The document's machine: Step as a whole; two machines side by side.
-/
namespace Go.Proofs.YtlmddkciamdldaaGreat
open Go.RowKit
set_option linter.unusedVariables false
set_option linter.unusedSimpArgs false
set_option maxRecDepth 100000
theorem rstep_any {F : Nat → Prop} {E : Nat} {x : X.St} {w : World} (h : RMac F E x w) (hn : x.outs.length < 1000000) :
    Calls Tryz.prog 11 #[.pointer (some ⟨E, 0, none⟩)] w fun e w' => e = .returned (.int .i64 (X.step x).st) ∧ ∃ F', RMac F' E (X.step x) w' ∧ Turn F w w' ∧ ∀ k, F' k → F k ∨ w.heap.size ≤ k := by
  by_cases h0 : x.st = 0
  · have hb := h.bounds
    have hW := X.word_ok x.ws x.pc hb.2.2.2.1
    obtain ⟨D, cD, L⟩ := h.word
    have DD := fun w => rdec_any (M.word x.ws x.pc) hW w
    have e0 : X.step x = ⟨(X.nextX x).ws, (X.nextX x).s, (X.nextX x).pc, X.nextT x, (X.nextX x).ins, (X.nextX x).outs⟩ := by unfold X.step; rw [if_pos h0]
    by_cases ht : M.wt x.ws x.pc = 0
    · by_cases hi : I.is (M.word x.ws x.pc) = true
      · have e1 : X.nextT x = X.doT x (I.dec (M.word x.ws x.pc)) := by unfold X.nextT; rw [if_pos ht, if_pos hi]
        have e2 : X.nextX x = if X.doT x (I.dec (M.word x.ws x.pc)) = 0 ∨ X.doT x (I.dec (M.word x.ws x.pc)) = 1 then ⟨(X.doX x (I.dec (M.word x.ws x.pc))).ws, X.doS x (I.dec (M.word x.ws x.pc)), X.doP x (I.dec (M.word x.ws x.pc)), x.st, (X.doX x (I.dec (M.word x.ws x.pc))).ins, (X.doX x (I.dec (M.word x.ws x.pc))).outs⟩ else X.doX x (I.dec (M.word x.ws x.pc)) := by unfold X.nextX; rw [if_pos ⟨ht, hi⟩]
        have hm := I.dec_may _ hi
        have es : X.step x = if X.doT x (I.dec (M.word x.ws x.pc)) = 0 ∨ X.doT x (I.dec (M.word x.ws x.pc)) = 1 then ⟨(X.doX x (I.dec (M.word x.ws x.pc))).ws, X.doS x (I.dec (M.word x.ws x.pc)), X.doP x (I.dec (M.word x.ws x.pc)), X.doT x (I.dec (M.word x.ws x.pc)), (X.doX x (I.dec (M.word x.ws x.pc))).ins, (X.doX x (I.dec (M.word x.ws x.pc))).outs⟩ else ⟨(X.doX x (I.dec (M.word x.ws x.pc))).ws, x.s, x.pc, X.doT x (I.dec (M.word x.ws x.pc)), (X.doX x (I.dec (M.word x.ws x.pc))).ins, (X.doX x (I.dec (M.word x.ws x.pc))).outs⟩ := by
          rw [e0, e1, e2]
          have hq := X.doX_eq x (I.dec (M.word x.ws x.pc))
          by_cases c : X.doT x (I.dec (M.word x.ws x.pc)) = 0 ∨ X.doT x (I.dec (M.word x.ws x.pc)) = 1
          · rw [if_pos c, if_pos c]
          · rw [if_neg c, if_neg c, hq.1, hq.2.1]
        rw [es]
        clear e0 e1 e2 es
        generalize I.dec (M.word x.ws x.pc) = j at *
        obtain ⟨k, op, a, b, c, i, u⟩ := j
        have hbe := X.beh_ok x
        have hc := hm.1
        simp only at hc
        by_cases k5 : k = 5
        · subst k5
          have hP : X.doP x ⟨5, op, a, b, c, i, u⟩ = X.beh x := by unfold X.doP; rw [if_neg (by simp)]
          refine (rstep_5 h D _ _ 5 op a b c i u _ h0 cD L DD (X.mvX x ⟨5, op, a, b, c, i, u⟩) _ (X.beh x) ht hi hbe.1 hbe.2 rfl rfl fun w' h' => rmove_any h' op a b c i u hm hn).mono ?_
          rintro e w' ⟨he, F', p1, p2, p3⟩
          have hx : (if X.doT x ⟨5, op, a, b, c, i, u⟩ = 0 ∨ X.doT x ⟨5, op, a, b, c, i, u⟩ = 1 then (⟨(X.mvX x ⟨5, op, a, b, c, i, u⟩).ws, (X.mvX x ⟨5, op, a, b, c, i, u⟩).s, X.beh x, X.doT x ⟨5, op, a, b, c, i, u⟩, (X.mvX x ⟨5, op, a, b, c, i, u⟩).ins, (X.mvX x ⟨5, op, a, b, c, i, u⟩).outs⟩ : X.St) else ⟨(X.mvX x ⟨5, op, a, b, c, i, u⟩).ws, (X.mvX x ⟨5, op, a, b, c, i, u⟩).s, (X.mvX x ⟨5, op, a, b, c, i, u⟩).pc, X.doT x ⟨5, op, a, b, c, i, u⟩, (X.mvX x ⟨5, op, a, b, c, i, u⟩).ins, (X.mvX x ⟨5, op, a, b, c, i, u⟩).outs⟩)
              = if X.doT x ⟨5, op, a, b, c, i, u⟩ = 0 ∨ X.doT x ⟨5, op, a, b, c, i, u⟩ = 1 then ⟨(X.doX x ⟨5, op, a, b, c, i, u⟩).ws, X.doS x ⟨5, op, a, b, c, i, u⟩, X.doP x ⟨5, op, a, b, c, i, u⟩, X.doT x ⟨5, op, a, b, c, i, u⟩, (X.doX x ⟨5, op, a, b, c, i, u⟩).ins, (X.doX x ⟨5, op, a, b, c, i, u⟩).outs⟩ else ⟨(X.doX x ⟨5, op, a, b, c, i, u⟩).ws, x.s, x.pc, X.doT x ⟨5, op, a, b, c, i, u⟩, (X.doX x ⟨5, op, a, b, c, i, u⟩).ins, (X.doX x ⟨5, op, a, b, c, i, u⟩).outs⟩ := by
            unfold X.mvX
            by_cases t01 : X.doT x ⟨5, op, a, b, c, i, u⟩ = 0 ∨ X.doT x ⟨5, op, a, b, c, i, u⟩ = 1
            · rw [if_pos t01, if_pos t01, if_pos t01, hP]
            · rw [if_neg t01, if_neg t01, if_neg t01]
          rw [hx] at p1
          refine ⟨?_, F', p1, p2, p3⟩
          rw [he]
          split <;> rfl
        · have hX : X.doX x ⟨k, op, a, b, c, i, u⟩ = x := by unfold X.doX; rw [if_neg k5]
          by_cases k67 : k = 6 ∨ k = 7
          · have e1 : X.doS x ⟨k, op, a, b, c, i, u⟩ = X.brS x.s (X.beh x) op u := by unfold X.doS; rw [if_neg k5, if_pos k67]
            have e2 : X.doP x ⟨k, op, a, b, c, i, u⟩ = X.brP x.s (X.beh x) k op c i := by unfold X.doP; rw [if_pos k67]
            have e3 : X.doT x ⟨k, op, a, b, c, i, u⟩ = 0 := by unfold X.doT; rw [if_neg k5, if_pos k67]
            rw [e1, e2, e3, hX, if_pos (Or.inl rfl)]
            have hp := X.brP_ok x.s (X.beh x) k op c i hb.1 hbe.1 hbe.2 (by omega)
            have hm2 := hm.2
            simp only at hm2
            have fin : ∀ (e : Ending) (w' : World), (e = .returned (.int .i64 0) ∧ RMac F E ⟨x.ws, X.brS x.s (X.beh x) op u, X.brP x.s (X.beh x) k op c i, 0, x.ins, x.outs⟩ w' ∧ Turn F w w') → e = .returned (.int .i64 0) ∧ ∃ F', RMac F' E ⟨x.ws, X.brS x.s (X.beh x) op u, X.brP x.s (X.beh x) k op c i, 0, x.ins, x.outs⟩ w' ∧ Turn F w w' ∧ ∀ k, F' k → F k ∨ w.heap.size ≤ k := fun e w' hh => ⟨hh.1, F, hh.2.1, hh.2.2, fun k hk => Or.inl hk⟩
            rcases k67 with rfl | rfl
            · refine (rstep_6 h D _ _ 6 op a b c i u _ h0 cD L DD _ _ (X.beh x) (A.taken x.s op) ht hi hp.1 hp.2 hbe.1 hbe.2 rfl rfl (by omega) (by omega) (by omega) (by omega) (fun w => rtaken_any x.s op w) ?_).mono fun e w' hh => fin e w' hh
              cases htk : A.taken x.s op
              · exact Or.inl ⟨rfl, by unfold X.brS; rw [if_neg (by rw [htk]; simp)], by unfold X.brP; rw [if_neg (by rw [htk]; simp)]⟩
              · refine Or.inr ⟨rfl, ?_, by unfold X.brP; rw [if_pos htk, if_pos rfl]⟩
                unfold X.brS
                cases u
                · rw [if_neg (by simp), if_neg (by simp)]
                · rw [if_pos ⟨htk, rfl⟩, if_pos rfl]
            · refine (rstep_7 h D _ _ 7 op a b c i u _ h0 cD L DD _ _ (X.beh x) (A.taken x.s op) ht hi hp.1 hp.2 hbe.1 hbe.2 rfl rfl (by omega) (by omega) (by omega) (by omega) (fun w => rtaken_any x.s op w) ?_).mono fun e w' hh => fin e w' hh
              cases htk : A.taken x.s op
              · exact Or.inl ⟨rfl, by unfold X.brS; rw [if_neg (by rw [htk]; simp)], by unfold X.brP; rw [if_neg (by rw [htk]; simp)]⟩
              · refine Or.inr ⟨rfl, ?_, by unfold X.brP; rw [if_pos htk, if_neg (by omega)]⟩
                unfold X.brS
                cases u
                · rw [if_neg (by simp), if_neg (by simp)]
                · rw [if_pos ⟨htk, rfl⟩, if_pos rfl]
          · have e1 : X.doS x ⟨k, op, a, b, c, i, u⟩ = (A.run x.s ⟨k, op, a, b, c, i, u⟩).1 := by unfold X.doS; rw [if_neg k5, if_neg k67]
            have e2 : X.doP x ⟨k, op, a, b, c, i, u⟩ = X.beh x := by unfold X.doP; rw [if_neg k67]
            have e3 : X.doT x ⟨k, op, a, b, c, i, u⟩ = (A.run x.s ⟨k, op, a, b, c, i, u⟩).2 := by unfold X.doT; rw [if_neg k5, if_neg k67]
            rw [e1, e2, e3, hX]
            refine (rstep_0 h D _ _ k op a b c i u _ h0 cD L DD _ _ (X.beh x) ht hi hbe.1 hbe.2 (A.run_ok _ _ hb.1) k5 (fun e => k67 (Or.inl e)) (fun e => k67 (Or.inr e)) rfl fun w => rdo_run x.s k op a b c i u hb.1 w).mono ?_
            rintro e w' ⟨he, F', p1, p2, p3⟩
            have hx : (if (A.run x.s ⟨k, op, a, b, c, i, u⟩).2 = 0 ∨ (A.run x.s ⟨k, op, a, b, c, i, u⟩).2 = 1 then (⟨x.ws, (A.run x.s ⟨k, op, a, b, c, i, u⟩).1, X.beh x, (A.run x.s ⟨k, op, a, b, c, i, u⟩).2, x.ins, x.outs⟩ : X.St) else ⟨x.ws, (A.run x.s ⟨k, op, a, b, c, i, u⟩).1, x.pc, (A.run x.s ⟨k, op, a, b, c, i, u⟩).2, x.ins, x.outs⟩)
                = if (A.run x.s ⟨k, op, a, b, c, i, u⟩).2 = 0 ∨ (A.run x.s ⟨k, op, a, b, c, i, u⟩).2 = 1 then ⟨x.ws, (A.run x.s ⟨k, op, a, b, c, i, u⟩).1, X.beh x, (A.run x.s ⟨k, op, a, b, c, i, u⟩).2, x.ins, x.outs⟩ else ⟨x.ws, x.s, x.pc, (A.run x.s ⟨k, op, a, b, c, i, u⟩).2, x.ins, x.outs⟩ := by
              by_cases t01 : (A.run x.s ⟨k, op, a, b, c, i, u⟩).2 = 0 ∨ (A.run x.s ⟨k, op, a, b, c, i, u⟩).2 = 1
              · rw [if_pos t01, if_pos t01]
              · have hs : (A.run x.s ⟨k, op, a, b, c, i, u⟩).1 = x.s := by
                  unfold A.run at t01 ⊢
                  split
                  · rfl
                  · split
                    · rfl
                    · rename_i h1 h2
                      rw [if_neg h1, if_neg h2] at t01
                      exact absurd (Or.inl rfl) t01
                rw [if_neg t01, if_neg t01, hs]
            rw [hx] at p1
            refine ⟨?_, F', p1, p2, p3⟩
            rw [he]
            split <;> rfl
      · have hi : I.is (M.word x.ws x.pc) = false := by simpa using hi
        have e1 : X.nextT x = 2 := by unfold X.nextT; rw [if_pos ht, if_neg (by rw [hi]; simp)]
        have e2 : X.nextX x = x := by unfold X.nextX; rw [if_neg (by rw [hi]; simp)]
        rw [e0, e1, e2]
        exact (rstep_ill h D _ _ _ _ _ _ _ _ _ _ h0 cD L DD ht hi).mono fun e w' hh => ⟨hh.1, F, hh.2.1, hh.2.2, fun k hk => Or.inl hk⟩
    · have e1 : X.nextT x = M.wt x.ws x.pc := by unfold X.nextT; rw [if_neg ht]
      have e2 : X.nextX x = x := by unfold X.nextX; rw [if_neg (fun h => ht h.1)]
      rw [e0, e1, e2]
      exact (rstep_trap h D _ _ _ _ _ _ _ _ _ _ h0 cD L DD ht).mono fun e w' hh => ⟨hh.1, F, hh.2.1, hh.2.2, fun k hk => Or.inl hk⟩
  · have e : X.step x = x := by unfold X.step; rw [if_neg h0]
    rw [e]
    refine (rstep_no h h0).mono ?_
    rintro e w' ⟨he, rfl⟩
    exact ⟨he, F, h, Turn.refl F w, fun k hk => Or.inl hk⟩
end Go.Proofs.YtlmddkciamdldaaGreat
