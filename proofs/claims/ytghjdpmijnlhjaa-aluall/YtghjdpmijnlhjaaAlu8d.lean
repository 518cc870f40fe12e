/-
  The contract of the document's Do, of a register and a number, the rest.
-/
import Derived.Test.YtghjdpmijnlhjaaAlu7
import Derived.Test.YtghjdpmijnlhjaaRmay
namespace Go.Proofs.Ytghjdpmijnlhjaa
open Go.RowKit
set_option linter.unusedVariables false
set_option linter.unusedSimpArgs false
set_option maxRecDepth 100000 in
set_option maxHeartbeats 2000000 in
theorem rdo_2_8t (s : A.Regs) (a b c i bv cv X : Int) (C V : Bool) (ha0 : 0 ≤ a) (ha1 : a < 16) (hb0 : 0 ≤ b) (hb1 : b < 16) (hc0 : 0 ≤ c) (hc1 : c < 16) (b0 : 0 ≤ bv) (b1 : bv < 4294967296) (n0 : 0 ≤ i % 4294967296) (n1 : i % 4294967296 < 4294967296) (hbv : s.r b.toNat = bv) (hcv : s.r c.toNat = cv) (hx0 : 0 ≤ X) (hx1 : X < 4294967296) (w : World)
    (HM : Hid (∀ w, Calls Try.prog 19 #[.agg #[.int .i64 2, .int .i64 8, .int .i64 a, .int .i64 b, .int .i64 c, .int .i64 i, .bool true]] w fun e w' => e = .returned (.bool true) ∧ Kept w w'))
    (HC : Hid (∀ w, Calls Try.prog 22 #[.int .u32 bv, .int .u32 (i % 4294967296), .bool s.c] w fun e w' => e = .returned (.tuple #[.int .u32 X, .bool C, .bool V]) ∧ w = w')) :
    Calls Try.prog 12 #[.agg (A.cells s), .agg #[.int .i64 2, .int .i64 8, .int .i64 a, .int .i64 b, .int .i64 c, .int .i64 i, .bool true]] w fun e w' => e = .returned (.tuple #[.agg (A.cells (A.show' (A.set (A.setV (A.setC s C) V) a.toNat X) X)), .int .i64 0]) ∧ Kept w w' := by
  go_enter Try.func12, Try.ntmps12
  go_wp2_with fail
  refine (HM.out _).mono ?_; rintro e w2 ⟨rfl, hK2⟩
  have hX : Has (w.heap.size + 2) (A.cells A.none') 25 w2 := (Has.new2 _ _ _ _ _).kept hK2
  have hR : Has w.heap.size (A.cells s) 25 w2 := (((Has.new _ _ _).alloc _).alloc _).kept hK2
  have hI := ((Has.new1 _ _ _ _).alloc _).kept hK2
  have hK := ((((Kept.refl w).alloc _ _).alloc _ _).alloc _ _).trans hK2
  have hl := hX.lt
  clear hK2
  have q0 := hI.cell 0 _ rfl
  have q3 := hI.cell 3 _ rfl
  have q4 := hI.cell 4 _ rfl
  have q5 := hI.cell 5 _ rfl
  have qb := hR.cell b.toNat _ (A.cell_r s b.toNat (by omega))
  have qc := hR.cell c.toNat _ (A.cell_r s c.toNat (by omega))
  rw [hbv] at qb
  rw [hcv] at qc
  replace hX := Lib.hid hX
  replace hR := Lib.hid hR
  replace hI := Lib.hid hI
  replace hK := Lib.hid hK
  go_upto_region 14 with (first
    | (with_reducible refine load_has (o := ⟨some 48, _, _, _, _, _⟩) rfl 25 _ rfl _ rfl hR.out Try.underlying25 rfl (A.info25 _) ?_)
    | (with_reducible refine store_last (o := ⟨none, Op.store 25 (.tmp 9) _, _, _, _, _⟩) rfl 25 _ _ rfl _ _ rfl rfl rfl (A.info25 _) (by kernel_rfl) (A.one_cells _) ?_))
  clear q0 q3 q4 q5 qb qc
  replace hX := hX.out.alloc (.cells (A.cells s) 25)
  replace hR := hR.out.alloc (.cells (A.cells s) 25)
  replace hI := hI.out.alloc (.cells (A.cells s) 25)
  replace hK := hK.out.alloc (A.cells s) 25
  have hT := Has.new (A.cells s) 25 w2
  generalize w2.heap.size = B9 at *
  generalize w2.alloc _ = w3 at *
  have q0 := hI.cell 0 _ rfl
  have q1 := hI.cell 1 _ rfl
  have q6 := hI.cell 6 _ rfl
  have qh := hR.cell 16 _ (A.cell_h s)
  have qq := hR.cell 19 _ (A.cell_c s)
  have t16 := hT.cell 16 _ (A.cell_h s)
  have t19 := hT.cell 19 _ (A.cell_c s)
  have t20 := hT.cell 20 _ (A.cell_v s)
  have f16 := hT.free 16
  have f19 := hT.free 19
  have f20 := hT.free 20
  replace hX := Lib.hid hX
  replace hR := Lib.hid hR
  replace hI := Lib.hid hI
  replace hK := Lib.hid hK
  replace hT := Lib.hid hT
  go_upto_region 38 with (go_at_call 22; refine (HC.out _).mono ?_; rintro e w4 ⟨rfl, rfl⟩)
  clear q0 q1 q6 qh qq t16 t19 t20 f16 f19 f20
  replace hT := Lib.hid (hT.out.set 19 (.bool C))
  rw [A.set_c] at hT
  replace hX := Lib.hid (hX.out.other (p := ⟨B9, 19, none⟩) (Nat.ne_of_lt hl) (.bool C))
  replace hI := Lib.hid (hI.out.other (p := ⟨B9, 19, none⟩) (Nat.ne_of_lt (by show w.heap.size + 1 < B9; omega)) (.bool C))
  replace hK := Lib.hid (hK.out.setCell (p := ⟨B9, 19, none⟩) (by show w.heap.size ≤ B9; omega) (.bool C))
  replace hT := Lib.hid (hT.out.set 20 (.bool V))
  rw [A.set_v] at hT
  replace hX := Lib.hid (hX.out.other (p := ⟨B9, 20, none⟩) (Nat.ne_of_lt hl) (.bool V))
  replace hI := Lib.hid (hI.out.other (p := ⟨B9, 20, none⟩) (Nat.ne_of_lt (by show w.heap.size + 1 < B9; omega)) (.bool V))
  replace hK := Lib.hid (hK.out.setCell (p := ⟨B9, 20, none⟩) (by show w.heap.size ≤ B9; omega) (.bool V))
  generalize World.setCell _ _ _ = w4 at *
  have q2 := hI.out.cell 2 _ rfl
  have ta := hT.out.cell a.toNat _ (A.cell_r (A.setV (A.setC s C) V) a.toNat (by omega))
  have fa := hT.out.free a.toNat
  go_upto_region 39 with (fail)
  clear q2 ta fa
  replace hT := Lib.hid (hT.out.set a.toNat (.int .u32 X))
  rw [A.set_r (A.setV (A.setC s C) V) a.toNat (by omega) X] at hT
  replace hX := Lib.hid (hX.out.other (p := ⟨B9, a.toNat, none⟩) (Nat.ne_of_lt hl) (.int .u32 X))
  replace hK := Lib.hid (hK.out.setCell (p := ⟨B9, a.toNat, none⟩) (by show w.heap.size ≤ B9; omega) (.int .u32 X))
  clear hI hR
  generalize World.setCell _ _ _ = w5 at *
  go_wp2_with (first
    | (with_reducible refine load_has (o := ⟨some 194, _, _, _, _, _⟩) rfl 25 _ rfl _ rfl hT.out Try.underlying25 rfl (A.info25 _) ?_)
    | (with_reducible refine store_has (o := ⟨none, Op.store 25 (.tmp 4) _, _, _, _, _⟩) rfl 25 _ _ rfl _ _ rfl rfl hX.out (A.info25 _) (by kernel_rfl) (A.one_cells _) ?_)
    | (go_at_call 26; (refine (rshow_any _ X hx0 hx1 _).mono ?_; rintro e w7 ⟨rfl, hK7⟩); (replace hX := Lib.hid (hX.out.kept hK7)); (replace hK := Lib.hid (hK.out.trans hK7)); clear hK7))
  exact bodyPost_ret (results_has2 rfl (w.heap.size + 2) rfl (hX.out.row _) Try.underlying25 rfl (A.info25 _)) rfl ⟨rfl, hK.out.row (by omega) _⟩
set_option maxRecDepth 100000 in
set_option maxHeartbeats 2000000 in
theorem rdo_2_8f (s : A.Regs) (a b c i bv cv X : Int) (C V : Bool) (ha0 : 0 ≤ a) (ha1 : a < 16) (hb0 : 0 ≤ b) (hb1 : b < 16) (hc0 : 0 ≤ c) (hc1 : c < 16) (b0 : 0 ≤ bv) (b1 : bv < 4294967296) (n0 : 0 ≤ i % 4294967296) (n1 : i % 4294967296 < 4294967296) (hbv : s.r b.toNat = bv) (hcv : s.r c.toNat = cv) (hx0 : 0 ≤ X) (hx1 : X < 4294967296) (w : World)
    (HM : Hid (∀ w, Calls Try.prog 19 #[.agg #[.int .i64 2, .int .i64 8, .int .i64 a, .int .i64 b, .int .i64 c, .int .i64 i, .bool false]] w fun e w' => e = .returned (.bool true) ∧ Kept w w'))
    (HC : Hid (∀ w, Calls Try.prog 22 #[.int .u32 bv, .int .u32 (i % 4294967296), .bool false] w fun e w' => e = .returned (.tuple #[.int .u32 X, .bool C, .bool V]) ∧ w = w')) :
    Calls Try.prog 12 #[.agg (A.cells s), .agg #[.int .i64 2, .int .i64 8, .int .i64 a, .int .i64 b, .int .i64 c, .int .i64 i, .bool false]] w fun e w' => e = .returned (.tuple #[.agg (A.cells (A.show' (A.set (A.setV (A.setC s C) V) a.toNat X) X)), .int .i64 0]) ∧ Kept w w' := by
  go_enter Try.func12, Try.ntmps12
  go_wp2_with fail
  refine (HM.out _).mono ?_; rintro e w2 ⟨rfl, hK2⟩
  have hX : Has (w.heap.size + 2) (A.cells A.none') 25 w2 := (Has.new2 _ _ _ _ _).kept hK2
  have hR : Has w.heap.size (A.cells s) 25 w2 := (((Has.new _ _ _).alloc _).alloc _).kept hK2
  have hI := ((Has.new1 _ _ _ _).alloc _).kept hK2
  have hK := ((((Kept.refl w).alloc _ _).alloc _ _).alloc _ _).trans hK2
  have hl := hX.lt
  clear hK2
  have q0 := hI.cell 0 _ rfl
  have q3 := hI.cell 3 _ rfl
  have q4 := hI.cell 4 _ rfl
  have q5 := hI.cell 5 _ rfl
  have qb := hR.cell b.toNat _ (A.cell_r s b.toNat (by omega))
  have qc := hR.cell c.toNat _ (A.cell_r s c.toNat (by omega))
  rw [hbv] at qb
  rw [hcv] at qc
  replace hX := Lib.hid hX
  replace hR := Lib.hid hR
  replace hI := Lib.hid hI
  replace hK := Lib.hid hK
  go_upto_region 14 with (first
    | (with_reducible refine load_has (o := ⟨some 48, _, _, _, _, _⟩) rfl 25 _ rfl _ rfl hR.out Try.underlying25 rfl (A.info25 _) ?_)
    | (with_reducible refine store_last (o := ⟨none, Op.store 25 (.tmp 9) _, _, _, _, _⟩) rfl 25 _ _ rfl _ _ rfl rfl rfl (A.info25 _) (by kernel_rfl) (A.one_cells _) ?_))
  clear q0 q3 q4 q5 qb qc
  replace hX := hX.out.alloc (.cells (A.cells s) 25)
  replace hR := hR.out.alloc (.cells (A.cells s) 25)
  replace hI := hI.out.alloc (.cells (A.cells s) 25)
  replace hK := hK.out.alloc (A.cells s) 25
  have hT := Has.new (A.cells s) 25 w2
  generalize w2.heap.size = B9 at *
  generalize w2.alloc _ = w3 at *
  have q0 := hI.cell 0 _ rfl
  have q1 := hI.cell 1 _ rfl
  have q6 := hI.cell 6 _ rfl
  have qh := hR.cell 16 _ (A.cell_h s)
  have qq := hR.cell 19 _ (A.cell_c s)
  have t16 := hT.cell 16 _ (A.cell_h s)
  have t19 := hT.cell 19 _ (A.cell_c s)
  have t20 := hT.cell 20 _ (A.cell_v s)
  have f16 := hT.free 16
  have f19 := hT.free 19
  have f20 := hT.free 20
  replace hX := Lib.hid hX
  replace hR := Lib.hid hR
  replace hI := Lib.hid hI
  replace hK := Lib.hid hK
  replace hT := Lib.hid hT
  go_upto_region 38 with (go_at_call 22; refine (HC.out _).mono ?_; rintro e w4 ⟨rfl, rfl⟩)
  clear q0 q1 q6 qh qq t16 t19 t20 f16 f19 f20
  replace hT := Lib.hid (hT.out.set 19 (.bool C))
  rw [A.set_c] at hT
  replace hX := Lib.hid (hX.out.other (p := ⟨B9, 19, none⟩) (Nat.ne_of_lt hl) (.bool C))
  replace hI := Lib.hid (hI.out.other (p := ⟨B9, 19, none⟩) (Nat.ne_of_lt (by show w.heap.size + 1 < B9; omega)) (.bool C))
  replace hK := Lib.hid (hK.out.setCell (p := ⟨B9, 19, none⟩) (by show w.heap.size ≤ B9; omega) (.bool C))
  replace hT := Lib.hid (hT.out.set 20 (.bool V))
  rw [A.set_v] at hT
  replace hX := Lib.hid (hX.out.other (p := ⟨B9, 20, none⟩) (Nat.ne_of_lt hl) (.bool V))
  replace hI := Lib.hid (hI.out.other (p := ⟨B9, 20, none⟩) (Nat.ne_of_lt (by show w.heap.size + 1 < B9; omega)) (.bool V))
  replace hK := Lib.hid (hK.out.setCell (p := ⟨B9, 20, none⟩) (by show w.heap.size ≤ B9; omega) (.bool V))
  generalize World.setCell _ _ _ = w4 at *
  have q2 := hI.out.cell 2 _ rfl
  have ta := hT.out.cell a.toNat _ (A.cell_r (A.setV (A.setC s C) V) a.toNat (by omega))
  have fa := hT.out.free a.toNat
  go_upto_region 39 with (fail)
  clear q2 ta fa
  replace hT := Lib.hid (hT.out.set a.toNat (.int .u32 X))
  rw [A.set_r (A.setV (A.setC s C) V) a.toNat (by omega) X] at hT
  replace hX := Lib.hid (hX.out.other (p := ⟨B9, a.toNat, none⟩) (Nat.ne_of_lt hl) (.int .u32 X))
  replace hK := Lib.hid (hK.out.setCell (p := ⟨B9, a.toNat, none⟩) (by show w.heap.size ≤ B9; omega) (.int .u32 X))
  clear hI hR
  generalize World.setCell _ _ _ = w5 at *
  go_wp2_with (first
    | (with_reducible refine load_has (o := ⟨some 194, _, _, _, _, _⟩) rfl 25 _ rfl _ rfl hT.out Try.underlying25 rfl (A.info25 _) ?_)
    | (with_reducible refine store_has (o := ⟨none, Op.store 25 (.tmp 4) _, _, _, _, _⟩) rfl 25 _ _ rfl _ _ rfl rfl hX.out (A.info25 _) (by kernel_rfl) (A.one_cells _) ?_)
    | (go_at_call 26; (refine (rshow_any _ X hx0 hx1 _).mono ?_; rintro e w7 ⟨rfl, hK7⟩); (replace hX := Lib.hid (hX.out.kept hK7)); (replace hK := Lib.hid (hK.out.trans hK7)); clear hK7))
  exact bodyPost_ret (results_has2 rfl (w.heap.size + 2) rfl (hX.out.row _) Try.underlying25 rfl (A.info25 _)) rfl ⟨rfl, hK.out.row (by omega) _⟩
set_option maxRecDepth 100000 in
set_option maxHeartbeats 2000000 in
theorem rdo_2_9t (s : A.Regs) (a b c i bv cv X : Int) (C V : Bool) (ha0 : 0 ≤ a) (ha1 : a < 16) (hb0 : 0 ≤ b) (hb1 : b < 16) (hc0 : 0 ≤ c) (hc1 : c < 16) (b0 : 0 ≤ bv) (b1 : bv < 4294967296) (n0 : 0 ≤ i % 4294967296) (n1 : i % 4294967296 < 4294967296) (hbv : s.r b.toNat = bv) (hcv : s.r c.toNat = cv) (hx0 : 0 ≤ X) (hx1 : X < 4294967296) (w : World)
    (HM : Hid (∀ w, Calls Try.prog 19 #[.agg #[.int .i64 2, .int .i64 9, .int .i64 a, .int .i64 b, .int .i64 c, .int .i64 i, .bool true]] w fun e w' => e = .returned (.bool true) ∧ Kept w w'))
    (HC : Hid (∀ w, Calls Try.prog 23 #[.int .u32 bv, .int .u32 (i % 4294967296), .bool s.c] w fun e w' => e = .returned (.tuple #[.int .u32 X, .bool C, .bool V]) ∧ w = w')) :
    Calls Try.prog 12 #[.agg (A.cells s), .agg #[.int .i64 2, .int .i64 9, .int .i64 a, .int .i64 b, .int .i64 c, .int .i64 i, .bool true]] w fun e w' => e = .returned (.tuple #[.agg (A.cells (A.show' (A.set (A.setV (A.setC s C) V) a.toNat X) X)), .int .i64 0]) ∧ Kept w w' := by
  go_enter Try.func12, Try.ntmps12
  go_wp2_with fail
  refine (HM.out _).mono ?_; rintro e w2 ⟨rfl, hK2⟩
  have hX : Has (w.heap.size + 2) (A.cells A.none') 25 w2 := (Has.new2 _ _ _ _ _).kept hK2
  have hR : Has w.heap.size (A.cells s) 25 w2 := (((Has.new _ _ _).alloc _).alloc _).kept hK2
  have hI := ((Has.new1 _ _ _ _).alloc _).kept hK2
  have hK := ((((Kept.refl w).alloc _ _).alloc _ _).alloc _ _).trans hK2
  have hl := hX.lt
  clear hK2
  have q0 := hI.cell 0 _ rfl
  have q3 := hI.cell 3 _ rfl
  have q4 := hI.cell 4 _ rfl
  have q5 := hI.cell 5 _ rfl
  have qb := hR.cell b.toNat _ (A.cell_r s b.toNat (by omega))
  have qc := hR.cell c.toNat _ (A.cell_r s c.toNat (by omega))
  rw [hbv] at qb
  rw [hcv] at qc
  replace hX := Lib.hid hX
  replace hR := Lib.hid hR
  replace hI := Lib.hid hI
  replace hK := Lib.hid hK
  go_upto_region 14 with (first
    | (with_reducible refine load_has (o := ⟨some 48, _, _, _, _, _⟩) rfl 25 _ rfl _ rfl hR.out Try.underlying25 rfl (A.info25 _) ?_)
    | (with_reducible refine store_last (o := ⟨none, Op.store 25 (.tmp 9) _, _, _, _, _⟩) rfl 25 _ _ rfl _ _ rfl rfl rfl (A.info25 _) (by kernel_rfl) (A.one_cells _) ?_))
  clear q0 q3 q4 q5 qb qc
  replace hX := hX.out.alloc (.cells (A.cells s) 25)
  replace hR := hR.out.alloc (.cells (A.cells s) 25)
  replace hI := hI.out.alloc (.cells (A.cells s) 25)
  replace hK := hK.out.alloc (A.cells s) 25
  have hT := Has.new (A.cells s) 25 w2
  generalize w2.heap.size = B9 at *
  generalize w2.alloc _ = w3 at *
  have q0 := hI.cell 0 _ rfl
  have q1 := hI.cell 1 _ rfl
  have q6 := hI.cell 6 _ rfl
  have qh := hR.cell 16 _ (A.cell_h s)
  have qq := hR.cell 19 _ (A.cell_c s)
  have t16 := hT.cell 16 _ (A.cell_h s)
  have t19 := hT.cell 19 _ (A.cell_c s)
  have t20 := hT.cell 20 _ (A.cell_v s)
  have f16 := hT.free 16
  have f19 := hT.free 19
  have f20 := hT.free 20
  replace hX := Lib.hid hX
  replace hR := Lib.hid hR
  replace hI := Lib.hid hI
  replace hK := Lib.hid hK
  replace hT := Lib.hid hT
  go_upto_region 38 with (go_at_call 23; refine (HC.out _).mono ?_; rintro e w4 ⟨rfl, rfl⟩)
  clear q0 q1 q6 qh qq t16 t19 t20 f16 f19 f20
  replace hT := Lib.hid (hT.out.set 19 (.bool C))
  rw [A.set_c] at hT
  replace hX := Lib.hid (hX.out.other (p := ⟨B9, 19, none⟩) (Nat.ne_of_lt hl) (.bool C))
  replace hI := Lib.hid (hI.out.other (p := ⟨B9, 19, none⟩) (Nat.ne_of_lt (by show w.heap.size + 1 < B9; omega)) (.bool C))
  replace hK := Lib.hid (hK.out.setCell (p := ⟨B9, 19, none⟩) (by show w.heap.size ≤ B9; omega) (.bool C))
  replace hT := Lib.hid (hT.out.set 20 (.bool V))
  rw [A.set_v] at hT
  replace hX := Lib.hid (hX.out.other (p := ⟨B9, 20, none⟩) (Nat.ne_of_lt hl) (.bool V))
  replace hI := Lib.hid (hI.out.other (p := ⟨B9, 20, none⟩) (Nat.ne_of_lt (by show w.heap.size + 1 < B9; omega)) (.bool V))
  replace hK := Lib.hid (hK.out.setCell (p := ⟨B9, 20, none⟩) (by show w.heap.size ≤ B9; omega) (.bool V))
  generalize World.setCell _ _ _ = w4 at *
  have q2 := hI.out.cell 2 _ rfl
  have ta := hT.out.cell a.toNat _ (A.cell_r (A.setV (A.setC s C) V) a.toNat (by omega))
  have fa := hT.out.free a.toNat
  go_upto_region 39 with (fail)
  clear q2 ta fa
  replace hT := Lib.hid (hT.out.set a.toNat (.int .u32 X))
  rw [A.set_r (A.setV (A.setC s C) V) a.toNat (by omega) X] at hT
  replace hX := Lib.hid (hX.out.other (p := ⟨B9, a.toNat, none⟩) (Nat.ne_of_lt hl) (.int .u32 X))
  replace hK := Lib.hid (hK.out.setCell (p := ⟨B9, a.toNat, none⟩) (by show w.heap.size ≤ B9; omega) (.int .u32 X))
  clear hI hR
  generalize World.setCell _ _ _ = w5 at *
  go_wp2_with (first
    | (with_reducible refine load_has (o := ⟨some 194, _, _, _, _, _⟩) rfl 25 _ rfl _ rfl hT.out Try.underlying25 rfl (A.info25 _) ?_)
    | (with_reducible refine store_has (o := ⟨none, Op.store 25 (.tmp 4) _, _, _, _, _⟩) rfl 25 _ _ rfl _ _ rfl rfl hX.out (A.info25 _) (by kernel_rfl) (A.one_cells _) ?_)
    | (go_at_call 26; (refine (rshow_any _ X hx0 hx1 _).mono ?_; rintro e w7 ⟨rfl, hK7⟩); (replace hX := Lib.hid (hX.out.kept hK7)); (replace hK := Lib.hid (hK.out.trans hK7)); clear hK7))
  exact bodyPost_ret (results_has2 rfl (w.heap.size + 2) rfl (hX.out.row _) Try.underlying25 rfl (A.info25 _)) rfl ⟨rfl, hK.out.row (by omega) _⟩
set_option maxRecDepth 100000 in
set_option maxHeartbeats 2000000 in
theorem rdo_2_9f (s : A.Regs) (a b c i bv cv X : Int) (C V : Bool) (ha0 : 0 ≤ a) (ha1 : a < 16) (hb0 : 0 ≤ b) (hb1 : b < 16) (hc0 : 0 ≤ c) (hc1 : c < 16) (b0 : 0 ≤ bv) (b1 : bv < 4294967296) (n0 : 0 ≤ i % 4294967296) (n1 : i % 4294967296 < 4294967296) (hbv : s.r b.toNat = bv) (hcv : s.r c.toNat = cv) (hx0 : 0 ≤ X) (hx1 : X < 4294967296) (w : World)
    (HM : Hid (∀ w, Calls Try.prog 19 #[.agg #[.int .i64 2, .int .i64 9, .int .i64 a, .int .i64 b, .int .i64 c, .int .i64 i, .bool false]] w fun e w' => e = .returned (.bool true) ∧ Kept w w'))
    (HC : Hid (∀ w, Calls Try.prog 23 #[.int .u32 bv, .int .u32 (i % 4294967296), .bool false] w fun e w' => e = .returned (.tuple #[.int .u32 X, .bool C, .bool V]) ∧ w = w')) :
    Calls Try.prog 12 #[.agg (A.cells s), .agg #[.int .i64 2, .int .i64 9, .int .i64 a, .int .i64 b, .int .i64 c, .int .i64 i, .bool false]] w fun e w' => e = .returned (.tuple #[.agg (A.cells (A.show' (A.set (A.setV (A.setC s C) V) a.toNat X) X)), .int .i64 0]) ∧ Kept w w' := by
  go_enter Try.func12, Try.ntmps12
  go_wp2_with fail
  refine (HM.out _).mono ?_; rintro e w2 ⟨rfl, hK2⟩
  have hX : Has (w.heap.size + 2) (A.cells A.none') 25 w2 := (Has.new2 _ _ _ _ _).kept hK2
  have hR : Has w.heap.size (A.cells s) 25 w2 := (((Has.new _ _ _).alloc _).alloc _).kept hK2
  have hI := ((Has.new1 _ _ _ _).alloc _).kept hK2
  have hK := ((((Kept.refl w).alloc _ _).alloc _ _).alloc _ _).trans hK2
  have hl := hX.lt
  clear hK2
  have q0 := hI.cell 0 _ rfl
  have q3 := hI.cell 3 _ rfl
  have q4 := hI.cell 4 _ rfl
  have q5 := hI.cell 5 _ rfl
  have qb := hR.cell b.toNat _ (A.cell_r s b.toNat (by omega))
  have qc := hR.cell c.toNat _ (A.cell_r s c.toNat (by omega))
  rw [hbv] at qb
  rw [hcv] at qc
  replace hX := Lib.hid hX
  replace hR := Lib.hid hR
  replace hI := Lib.hid hI
  replace hK := Lib.hid hK
  go_upto_region 14 with (first
    | (with_reducible refine load_has (o := ⟨some 48, _, _, _, _, _⟩) rfl 25 _ rfl _ rfl hR.out Try.underlying25 rfl (A.info25 _) ?_)
    | (with_reducible refine store_last (o := ⟨none, Op.store 25 (.tmp 9) _, _, _, _, _⟩) rfl 25 _ _ rfl _ _ rfl rfl rfl (A.info25 _) (by kernel_rfl) (A.one_cells _) ?_))
  clear q0 q3 q4 q5 qb qc
  replace hX := hX.out.alloc (.cells (A.cells s) 25)
  replace hR := hR.out.alloc (.cells (A.cells s) 25)
  replace hI := hI.out.alloc (.cells (A.cells s) 25)
  replace hK := hK.out.alloc (A.cells s) 25
  have hT := Has.new (A.cells s) 25 w2
  generalize w2.heap.size = B9 at *
  generalize w2.alloc _ = w3 at *
  have q0 := hI.cell 0 _ rfl
  have q1 := hI.cell 1 _ rfl
  have q6 := hI.cell 6 _ rfl
  have qh := hR.cell 16 _ (A.cell_h s)
  have qq := hR.cell 19 _ (A.cell_c s)
  have t16 := hT.cell 16 _ (A.cell_h s)
  have t19 := hT.cell 19 _ (A.cell_c s)
  have t20 := hT.cell 20 _ (A.cell_v s)
  have f16 := hT.free 16
  have f19 := hT.free 19
  have f20 := hT.free 20
  replace hX := Lib.hid hX
  replace hR := Lib.hid hR
  replace hI := Lib.hid hI
  replace hK := Lib.hid hK
  replace hT := Lib.hid hT
  go_upto_region 38 with (go_at_call 23; refine (HC.out _).mono ?_; rintro e w4 ⟨rfl, rfl⟩)
  clear q0 q1 q6 qh qq t16 t19 t20 f16 f19 f20
  replace hT := Lib.hid (hT.out.set 19 (.bool C))
  rw [A.set_c] at hT
  replace hX := Lib.hid (hX.out.other (p := ⟨B9, 19, none⟩) (Nat.ne_of_lt hl) (.bool C))
  replace hI := Lib.hid (hI.out.other (p := ⟨B9, 19, none⟩) (Nat.ne_of_lt (by show w.heap.size + 1 < B9; omega)) (.bool C))
  replace hK := Lib.hid (hK.out.setCell (p := ⟨B9, 19, none⟩) (by show w.heap.size ≤ B9; omega) (.bool C))
  replace hT := Lib.hid (hT.out.set 20 (.bool V))
  rw [A.set_v] at hT
  replace hX := Lib.hid (hX.out.other (p := ⟨B9, 20, none⟩) (Nat.ne_of_lt hl) (.bool V))
  replace hI := Lib.hid (hI.out.other (p := ⟨B9, 20, none⟩) (Nat.ne_of_lt (by show w.heap.size + 1 < B9; omega)) (.bool V))
  replace hK := Lib.hid (hK.out.setCell (p := ⟨B9, 20, none⟩) (by show w.heap.size ≤ B9; omega) (.bool V))
  generalize World.setCell _ _ _ = w4 at *
  have q2 := hI.out.cell 2 _ rfl
  have ta := hT.out.cell a.toNat _ (A.cell_r (A.setV (A.setC s C) V) a.toNat (by omega))
  have fa := hT.out.free a.toNat
  go_upto_region 39 with (fail)
  clear q2 ta fa
  replace hT := Lib.hid (hT.out.set a.toNat (.int .u32 X))
  rw [A.set_r (A.setV (A.setC s C) V) a.toNat (by omega) X] at hT
  replace hX := Lib.hid (hX.out.other (p := ⟨B9, a.toNat, none⟩) (Nat.ne_of_lt hl) (.int .u32 X))
  replace hK := Lib.hid (hK.out.setCell (p := ⟨B9, a.toNat, none⟩) (by show w.heap.size ≤ B9; omega) (.int .u32 X))
  clear hI hR
  generalize World.setCell _ _ _ = w5 at *
  go_wp2_with (first
    | (with_reducible refine load_has (o := ⟨some 194, _, _, _, _, _⟩) rfl 25 _ rfl _ rfl hT.out Try.underlying25 rfl (A.info25 _) ?_)
    | (with_reducible refine store_has (o := ⟨none, Op.store 25 (.tmp 4) _, _, _, _, _⟩) rfl 25 _ _ rfl _ _ rfl rfl hX.out (A.info25 _) (by kernel_rfl) (A.one_cells _) ?_)
    | (go_at_call 26; (refine (rshow_any _ X hx0 hx1 _).mono ?_; rintro e w7 ⟨rfl, hK7⟩); (replace hX := Lib.hid (hX.out.kept hK7)); (replace hK := Lib.hid (hK.out.trans hK7)); clear hK7))
  exact bodyPost_ret (results_has2 rfl (w.heap.size + 2) rfl (hX.out.row _) Try.underlying25 rfl (A.info25 _)) rfl ⟨rfl, hK.out.row (by omega) _⟩
set_option maxRecDepth 100000 in
set_option maxHeartbeats 2000000 in
theorem rdo_2_10 (s : A.Regs) (a b c i bv cv X : Int) (u : Bool) (H : Int) (ha0 : 0 ≤ a) (ha1 : a < 16) (hb0 : 0 ≤ b) (hb1 : b < 16) (hc0 : 0 ≤ c) (hc1 : c < 16) (b0 : 0 ≤ bv) (b1 : bv < 4294967296) (n0 : 0 ≤ i % 4294967296) (n1 : i % 4294967296 < 4294967296) (hbv : s.r b.toNat = bv) (hcv : s.r c.toNat = cv) (hx0 : 0 ≤ X) (hx1 : X < 4294967296) (w : World)
    (HM : Hid (∀ w, Calls Try.prog 19 #[.agg #[.int .i64 2, .int .i64 10, .int .i64 a, .int .i64 b, .int .i64 c, .int .i64 i, .bool u]] w fun e w' => e = .returned (.bool true) ∧ Kept w w'))
    (HC : Hid (∀ w, Calls Try.prog 24 #[.int .u32 bv, .int .u32 (i % 4294967296), .bool u] w fun e w' => e = .returned (.tuple #[.int .u32 X, .int .u32 H]) ∧ w = w')) :
    Calls Try.prog 12 #[.agg (A.cells s), .agg #[.int .i64 2, .int .i64 10, .int .i64 a, .int .i64 b, .int .i64 c, .int .i64 i, .bool u]] w fun e w' => e = .returned (.tuple #[.agg (A.cells (A.show' (A.set (A.setH s H) a.toNat X) X)), .int .i64 0]) ∧ Kept w w' := by
  go_enter Try.func12, Try.ntmps12
  go_wp2_with fail
  refine (HM.out _).mono ?_; rintro e w2 ⟨rfl, hK2⟩
  have hX : Has (w.heap.size + 2) (A.cells A.none') 25 w2 := (Has.new2 _ _ _ _ _).kept hK2
  have hR : Has w.heap.size (A.cells s) 25 w2 := (((Has.new _ _ _).alloc _).alloc _).kept hK2
  have hI := ((Has.new1 _ _ _ _).alloc _).kept hK2
  have hK := ((((Kept.refl w).alloc _ _).alloc _ _).alloc _ _).trans hK2
  have hl := hX.lt
  clear hK2
  have q0 := hI.cell 0 _ rfl
  have q3 := hI.cell 3 _ rfl
  have q4 := hI.cell 4 _ rfl
  have q5 := hI.cell 5 _ rfl
  have qb := hR.cell b.toNat _ (A.cell_r s b.toNat (by omega))
  have qc := hR.cell c.toNat _ (A.cell_r s c.toNat (by omega))
  rw [hbv] at qb
  rw [hcv] at qc
  replace hX := Lib.hid hX
  replace hR := Lib.hid hR
  replace hI := Lib.hid hI
  replace hK := Lib.hid hK
  go_upto_region 14 with (first
    | (with_reducible refine load_has (o := ⟨some 48, _, _, _, _, _⟩) rfl 25 _ rfl _ rfl hR.out Try.underlying25 rfl (A.info25 _) ?_)
    | (with_reducible refine store_last (o := ⟨none, Op.store 25 (.tmp 9) _, _, _, _, _⟩) rfl 25 _ _ rfl _ _ rfl rfl rfl (A.info25 _) (by kernel_rfl) (A.one_cells _) ?_))
  clear q0 q3 q4 q5 qb qc
  replace hX := hX.out.alloc (.cells (A.cells s) 25)
  replace hR := hR.out.alloc (.cells (A.cells s) 25)
  replace hI := hI.out.alloc (.cells (A.cells s) 25)
  replace hK := hK.out.alloc (A.cells s) 25
  have hT := Has.new (A.cells s) 25 w2
  generalize w2.heap.size = B9 at *
  generalize w2.alloc _ = w3 at *
  have q0 := hI.cell 0 _ rfl
  have q1 := hI.cell 1 _ rfl
  have q6 := hI.cell 6 _ rfl
  have qh := hR.cell 16 _ (A.cell_h s)
  have qq := hR.cell 19 _ (A.cell_c s)
  have t16 := hT.cell 16 _ (A.cell_h s)
  have t19 := hT.cell 19 _ (A.cell_c s)
  have t20 := hT.cell 20 _ (A.cell_v s)
  have f16 := hT.free 16
  have f19 := hT.free 19
  have f20 := hT.free 20
  replace hX := Lib.hid hX
  replace hR := Lib.hid hR
  replace hI := Lib.hid hI
  replace hK := Lib.hid hK
  replace hT := Lib.hid hT
  go_upto_region 38 with (go_at_call 24; refine (HC.out _).mono ?_; rintro e w4 ⟨rfl, rfl⟩)
  clear q0 q1 q6 qh qq t16 t19 t20 f16 f19 f20
  replace hT := Lib.hid (hT.out.set 16 (.int .u32 H))
  rw [A.set_h] at hT
  replace hX := Lib.hid (hX.out.other (p := ⟨B9, 16, none⟩) (Nat.ne_of_lt hl) (.int .u32 H))
  replace hI := Lib.hid (hI.out.other (p := ⟨B9, 16, none⟩) (Nat.ne_of_lt (by show w.heap.size + 1 < B9; omega)) (.int .u32 H))
  replace hK := Lib.hid (hK.out.setCell (p := ⟨B9, 16, none⟩) (by show w.heap.size ≤ B9; omega) (.int .u32 H))
  generalize World.setCell _ _ _ = w4 at *
  have q2 := hI.out.cell 2 _ rfl
  have ta := hT.out.cell a.toNat _ (A.cell_r (A.setH s H) a.toNat (by omega))
  have fa := hT.out.free a.toNat
  go_upto_region 39 with (fail)
  clear q2 ta fa
  replace hT := Lib.hid (hT.out.set a.toNat (.int .u32 X))
  rw [A.set_r (A.setH s H) a.toNat (by omega) X] at hT
  replace hX := Lib.hid (hX.out.other (p := ⟨B9, a.toNat, none⟩) (Nat.ne_of_lt hl) (.int .u32 X))
  replace hK := Lib.hid (hK.out.setCell (p := ⟨B9, a.toNat, none⟩) (by show w.heap.size ≤ B9; omega) (.int .u32 X))
  clear hI hR
  generalize World.setCell _ _ _ = w5 at *
  go_wp2_with (first
    | (with_reducible refine load_has (o := ⟨some 194, _, _, _, _, _⟩) rfl 25 _ rfl _ rfl hT.out Try.underlying25 rfl (A.info25 _) ?_)
    | (with_reducible refine store_has (o := ⟨none, Op.store 25 (.tmp 4) _, _, _, _, _⟩) rfl 25 _ _ rfl _ _ rfl rfl hX.out (A.info25 _) (by kernel_rfl) (A.one_cells _) ?_)
    | (go_at_call 26; (refine (rshow_any _ X hx0 hx1 _).mono ?_; rintro e w7 ⟨rfl, hK7⟩); (replace hX := Lib.hid (hX.out.kept hK7)); (replace hK := Lib.hid (hK.out.trans hK7)); clear hK7))
  exact bodyPost_ret (results_has2 rfl (w.heap.size + 2) rfl (hX.out.row _) Try.underlying25 rfl (A.info25 _)) rfl ⟨rfl, hK.out.row (by omega) _⟩
set_option maxRecDepth 100000 in
set_option maxHeartbeats 2000000 in
theorem rdo_2_11 (s : A.Regs) (a b c i bv cv X : Int) (u : Bool) (H : Int) (ha0 : 0 ≤ a) (ha1 : a < 16) (hb0 : 0 ≤ b) (hb1 : b < 16) (hc0 : 0 ≤ c) (hc1 : c < 16) (b0 : 0 ≤ bv) (b1 : bv < 4294967296) (n0 : 0 ≤ i % 4294967296) (n1 : i % 4294967296 < 4294967296) (hbv : s.r b.toNat = bv) (hcv : s.r c.toNat = cv) (hx0 : 0 ≤ X) (hx1 : X < 4294967296) (w : World)
    (HM : Hid (∀ w, Calls Try.prog 19 #[.agg #[.int .i64 2, .int .i64 11, .int .i64 a, .int .i64 b, .int .i64 c, .int .i64 i, .bool u]] w fun e w' => e = .returned (.bool true) ∧ Kept w w'))
    (HC : Hid (∀ w, Calls Try.prog 25 #[.int .u32 bv, .int .u32 (i % 4294967296)] w fun e w' => e = .returned (.tuple #[.int .u32 X, .int .u32 H, .bool true]) ∧ w = w')) :
    Calls Try.prog 12 #[.agg (A.cells s), .agg #[.int .i64 2, .int .i64 11, .int .i64 a, .int .i64 b, .int .i64 c, .int .i64 i, .bool u]] w fun e w' => e = .returned (.tuple #[.agg (A.cells (A.show' (A.set (A.setH s H) a.toNat X) X)), .int .i64 0]) ∧ Kept w w' := by
  go_enter Try.func12, Try.ntmps12
  go_wp2_with fail
  refine (HM.out _).mono ?_; rintro e w2 ⟨rfl, hK2⟩
  have hX : Has (w.heap.size + 2) (A.cells A.none') 25 w2 := (Has.new2 _ _ _ _ _).kept hK2
  have hR : Has w.heap.size (A.cells s) 25 w2 := (((Has.new _ _ _).alloc _).alloc _).kept hK2
  have hI := ((Has.new1 _ _ _ _).alloc _).kept hK2
  have hK := ((((Kept.refl w).alloc _ _).alloc _ _).alloc _ _).trans hK2
  have hl := hX.lt
  clear hK2
  have q0 := hI.cell 0 _ rfl
  have q3 := hI.cell 3 _ rfl
  have q4 := hI.cell 4 _ rfl
  have q5 := hI.cell 5 _ rfl
  have qb := hR.cell b.toNat _ (A.cell_r s b.toNat (by omega))
  have qc := hR.cell c.toNat _ (A.cell_r s c.toNat (by omega))
  rw [hbv] at qb
  rw [hcv] at qc
  replace hX := Lib.hid hX
  replace hR := Lib.hid hR
  replace hI := Lib.hid hI
  replace hK := Lib.hid hK
  go_upto_region 14 with (first
    | (with_reducible refine load_has (o := ⟨some 48, _, _, _, _, _⟩) rfl 25 _ rfl _ rfl hR.out Try.underlying25 rfl (A.info25 _) ?_)
    | (with_reducible refine store_last (o := ⟨none, Op.store 25 (.tmp 9) _, _, _, _, _⟩) rfl 25 _ _ rfl _ _ rfl rfl rfl (A.info25 _) (by kernel_rfl) (A.one_cells _) ?_))
  clear q0 q3 q4 q5 qb qc
  replace hX := hX.out.alloc (.cells (A.cells s) 25)
  replace hR := hR.out.alloc (.cells (A.cells s) 25)
  replace hI := hI.out.alloc (.cells (A.cells s) 25)
  replace hK := hK.out.alloc (A.cells s) 25
  have hT := Has.new (A.cells s) 25 w2
  generalize w2.heap.size = B9 at *
  generalize w2.alloc _ = w3 at *
  have q0 := hI.cell 0 _ rfl
  have q1 := hI.cell 1 _ rfl
  have q6 := hI.cell 6 _ rfl
  have qh := hR.cell 16 _ (A.cell_h s)
  have qq := hR.cell 19 _ (A.cell_c s)
  have t16 := hT.cell 16 _ (A.cell_h s)
  have t19 := hT.cell 19 _ (A.cell_c s)
  have t20 := hT.cell 20 _ (A.cell_v s)
  have f16 := hT.free 16
  have f19 := hT.free 19
  have f20 := hT.free 20
  replace hX := Lib.hid hX
  replace hR := Lib.hid hR
  replace hI := Lib.hid hI
  replace hK := Lib.hid hK
  replace hT := Lib.hid hT
  go_upto_region 38 with (go_at_call 25; refine (HC.out _).mono ?_; rintro e w4 ⟨rfl, rfl⟩)
  clear q0 q1 q6 qh qq t16 t19 t20 f16 f19 f20
  replace hT := Lib.hid (hT.out.set 16 (.int .u32 H))
  rw [A.set_h] at hT
  replace hX := Lib.hid (hX.out.other (p := ⟨B9, 16, none⟩) (Nat.ne_of_lt hl) (.int .u32 H))
  replace hI := Lib.hid (hI.out.other (p := ⟨B9, 16, none⟩) (Nat.ne_of_lt (by show w.heap.size + 1 < B9; omega)) (.int .u32 H))
  replace hK := Lib.hid (hK.out.setCell (p := ⟨B9, 16, none⟩) (by show w.heap.size ≤ B9; omega) (.int .u32 H))
  generalize World.setCell _ _ _ = w4 at *
  have q2 := hI.out.cell 2 _ rfl
  have ta := hT.out.cell a.toNat _ (A.cell_r (A.setH s H) a.toNat (by omega))
  have fa := hT.out.free a.toNat
  go_upto_region 39 with (fail)
  clear q2 ta fa
  replace hT := Lib.hid (hT.out.set a.toNat (.int .u32 X))
  rw [A.set_r (A.setH s H) a.toNat (by omega) X] at hT
  replace hX := Lib.hid (hX.out.other (p := ⟨B9, a.toNat, none⟩) (Nat.ne_of_lt hl) (.int .u32 X))
  replace hK := Lib.hid (hK.out.setCell (p := ⟨B9, a.toNat, none⟩) (by show w.heap.size ≤ B9; omega) (.int .u32 X))
  clear hI hR
  generalize World.setCell _ _ _ = w5 at *
  go_wp2_with (first
    | (with_reducible refine load_has (o := ⟨some 194, _, _, _, _, _⟩) rfl 25 _ rfl _ rfl hT.out Try.underlying25 rfl (A.info25 _) ?_)
    | (with_reducible refine store_has (o := ⟨none, Op.store 25 (.tmp 4) _, _, _, _, _⟩) rfl 25 _ _ rfl _ _ rfl rfl hX.out (A.info25 _) (by kernel_rfl) (A.one_cells _) ?_)
    | (go_at_call 26; (refine (rshow_any _ X hx0 hx1 _).mono ?_; rintro e w7 ⟨rfl, hK7⟩); (replace hX := Lib.hid (hX.out.kept hK7)); (replace hK := Lib.hid (hK.out.trans hK7)); clear hK7))
  exact bodyPost_ret (results_has2 rfl (w.heap.size + 2) rfl (hX.out.row _) Try.underlying25 rfl (A.info25 _)) rfl ⟨rfl, hK.out.row (by omega) _⟩
set_option maxRecDepth 100000 in
set_option maxHeartbeats 2000000 in
theorem rdo_2_11n (s : A.Regs) (a b c i bv cv X : Int) (u : Bool) (ha0 : 0 ≤ a) (ha1 : a < 16) (hb0 : 0 ≤ b) (hb1 : b < 16) (hc0 : 0 ≤ c) (hc1 : c < 16) (b0 : 0 ≤ bv) (b1 : bv < 4294967296) (n0 : 0 ≤ i % 4294967296) (n1 : i % 4294967296 < 4294967296) (hbv : s.r b.toNat = bv) (hcv : s.r c.toNat = cv) (hx0 : 0 ≤ X) (hx1 : X < 4294967296) (w : World)
    (HM : Hid (∀ w, Calls Try.prog 19 #[.agg #[.int .i64 2, .int .i64 11, .int .i64 a, .int .i64 b, .int .i64 c, .int .i64 i, .bool u]] w fun e w' => e = .returned (.bool true) ∧ Kept w w'))
    (HC : Hid (∀ w, Calls Try.prog 25 #[.int .u32 bv, .int .u32 (i % 4294967296)] w fun e w' => e = .returned (.tuple #[.int .u32 0, .int .u32 0, .bool false]) ∧ w = w')) :
    Calls Try.prog 12 #[.agg (A.cells s), .agg #[.int .i64 2, .int .i64 11, .int .i64 a, .int .i64 b, .int .i64 c, .int .i64 i, .bool u]] w fun e w' => e = .returned (.tuple #[.agg (A.cells s), .int .i64 5]) ∧ Kept w w' := by
  go_enter Try.func12, Try.ntmps12
  go_wp2_with fail
  refine (HM.out _).mono ?_; rintro e w2 ⟨rfl, hK2⟩
  have hX : Has (w.heap.size + 2) (A.cells A.none') 25 w2 := (Has.new2 _ _ _ _ _).kept hK2
  have hR : Has w.heap.size (A.cells s) 25 w2 := (((Has.new _ _ _).alloc _).alloc _).kept hK2
  have hI := ((Has.new1 _ _ _ _).alloc _).kept hK2
  have hK := ((((Kept.refl w).alloc _ _).alloc _ _).alloc _ _).trans hK2
  have hl := hX.lt
  clear hK2
  have q0 := hI.cell 0 _ rfl
  have q3 := hI.cell 3 _ rfl
  have q4 := hI.cell 4 _ rfl
  have q5 := hI.cell 5 _ rfl
  have qb := hR.cell b.toNat _ (A.cell_r s b.toNat (by omega))
  have qc := hR.cell c.toNat _ (A.cell_r s c.toNat (by omega))
  rw [hbv] at qb
  rw [hcv] at qc
  replace hX := Lib.hid hX
  replace hR := Lib.hid hR
  replace hI := Lib.hid hI
  replace hK := Lib.hid hK
  go_upto_region 14 with (first
    | (with_reducible refine load_has (o := ⟨some 48, _, _, _, _, _⟩) rfl 25 _ rfl _ rfl hR.out Try.underlying25 rfl (A.info25 _) ?_)
    | (with_reducible refine store_last (o := ⟨none, Op.store 25 (.tmp 9) _, _, _, _, _⟩) rfl 25 _ _ rfl _ _ rfl rfl rfl (A.info25 _) (by kernel_rfl) (A.one_cells _) ?_))
  clear q0 q3 q4 q5 qb qc
  replace hX := hX.out.alloc (.cells (A.cells s) 25)
  replace hR := hR.out.alloc (.cells (A.cells s) 25)
  replace hI := hI.out.alloc (.cells (A.cells s) 25)
  replace hK := hK.out.alloc (A.cells s) 25
  have hT := Has.new (A.cells s) 25 w2
  generalize w2.heap.size = B9 at *
  generalize w2.alloc _ = w3 at *
  have q0 := hI.cell 0 _ rfl
  have q1 := hI.cell 1 _ rfl
  have q6 := hI.cell 6 _ rfl
  have qh := hR.cell 16 _ (A.cell_h s)
  have qq := hR.cell 19 _ (A.cell_c s)
  have t16 := hT.cell 16 _ (A.cell_h s)
  have t19 := hT.cell 19 _ (A.cell_c s)
  have t20 := hT.cell 20 _ (A.cell_v s)
  have f16 := hT.free 16
  have f19 := hT.free 19
  have f20 := hT.free 20
  replace hX := Lib.hid hX
  replace hR := Lib.hid hR
  replace hI := Lib.hid hI
  replace hK := Lib.hid hK
  replace hT := Lib.hid hT
  go_wp2_with (first
    | (go_at_call 25; refine (HC.out _).mono ?_; rintro e w4 ⟨rfl, rfl⟩)
    | (with_reducible refine load_has (o := ⟨some 58, _, _, _, _, _⟩) rfl 25 _ rfl _ rfl hR.out Try.underlying25 rfl (A.info25 _) ?_)
    | (with_reducible refine store_has (o := ⟨none, Op.store 25 (.tmp 4) _, _, _, _, _⟩) rfl 25 _ _ rfl _ _ rfl rfl hX.out (A.info25 _) (by kernel_rfl) (A.one_cells _) ?_))
  exact bodyPost_ret (results_has2 rfl (w.heap.size + 2) rfl (hX.out.row _) Try.underlying25 rfl (A.info25 _)) rfl ⟨rfl, hK.out.row (by omega) _⟩
end Go.Proofs.Ytghjdpmijnlhjaa
