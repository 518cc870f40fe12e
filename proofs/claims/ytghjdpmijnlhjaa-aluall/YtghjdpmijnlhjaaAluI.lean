/-
  The walk of the law AluAll.
-/
import Derived.Test.YtghjdpmijnlhjaaAluE
import Derived.Test.YtghjdpmijnlhjaaAluR
import Derived.Test.YtghjdpmijnlhjaaIsaF
namespace Go.Proofs.Ytghjdpmijnlhjaa
open Go.RowKit
set_option linter.unusedVariables false
set_option linter.unusedSimpArgs false
structure A.Al (s P : A.Regs) (J : Array Value) (B B8 B10 : Nat) (w w' : World) : Prop where
  kept : Kept w w'
  hS : Has B (A.cells s) 25 w'
  hJ : Has (B + 1) J 27 w'
  h8 : Has B8 (A.cells P) 25 w'
  h10 : Has B10 (A.cells P) 25 w'
theorem A.Al.step {s P : A.Regs} {J : Array Value} {B B8 B10 : Nat} {w w1 w2 : World} (h : A.Al s P J B B8 B10 w w1) (hK : Kept w1 w2) : A.Al s P J B B8 B10 w w2 :=
  ⟨h.kept.trans hK, h.hS.kept hK, h.hJ.kept hK, h.h8.kept hK, h.h10.kept hK⟩
theorem A.Al.row {s P : A.Regs} {J : Array Value} {B B8 B10 : Nat} {w w1 : World} (h : A.Al s P J B B8 B10 w w1) {BZ : Nat} (lS : B < BZ) (lJ : B + 1 < BZ) (l8 : B8 < BZ) (l10 : B10 < BZ) (lK : w.heap.size ≤ BZ) (cs : Array Value) : A.Al s P J B B8 B10 w (w1.setRow BZ cs) :=
  ⟨h.kept.row lK _, h.hS.rowOther (Nat.ne_of_lt lS) _, h.hJ.rowOther (Nat.ne_of_lt lJ) _, h.h8.rowOther (Nat.ne_of_lt l8) _, h.h10.rowOther (Nat.ne_of_lt l10) _⟩
set_option maxRecDepth 100000 in
set_option maxHeartbeats 2000000 in
theorem walk_All_at (s P Q : A.Regs) (k0 op0 a0 b0 c0 i0 k op a b c i cond q1 q2 : Int) (u0 u : Bool) (tk : Int → Bool) (w : World)
    (CF : Hid (∀ w, Calls Try.prog 13 #[.agg #[.int .i64 k0, .int .i64 op0, .int .i64 a0, .int .i64 b0, .int .i64 c0, .int .i64 i0, .bool u0]] w fun e w' => e = .returned (.agg #[.int .i64 k, .int .i64 op, .int .i64 a, .int .i64 b, .int .i64 c, .int .i64 i, .bool u]) ∧ Kept w w'))
    (C1 : Hid (∀ w, Calls Try.prog 11 #[.agg (A.cells (s)), .agg #[.int .i64 k0, .int .i64 op0, .int .i64 a0, .int .i64 b0, .int .i64 c0, .int .i64 i0, .bool u0]] w fun e w' => e = .returned (.tuple #[.agg (A.cells (P)), .int .i64 q1]) ∧ Kept w w'))
    (C2 : Hid (∀ w, Calls Try.prog 12 #[.agg (A.cells (s)), .agg #[.int .i64 k0, .int .i64 op0, .int .i64 a0, .int .i64 b0, .int .i64 c0, .int .i64 i0, .bool u0]] w fun e w' => e = .returned (.tuple #[.agg (A.cells (P)), .int .i64 q1]) ∧ Kept w w'))
    (C3 : Hid (∀ w, Calls Try.prog 11 #[.agg (A.cells (s)), .agg #[.int .i64 k, .int .i64 op, .int .i64 a, .int .i64 b, .int .i64 c, .int .i64 i, .bool u]] w fun e w' => e = .returned (.tuple #[.agg (A.cells (Q)), .int .i64 q2]) ∧ Kept w w'))
    (C4 : Hid (∀ w, Calls Try.prog 12 #[.agg (A.cells (s)), .agg #[.int .i64 k, .int .i64 op, .int .i64 a, .int .i64 b, .int .i64 c, .int .i64 i, .bool u]] w fun e w' => e = .returned (.tuple #[.agg (A.cells (Q)), .int .i64 q2]) ∧ Kept w w'))
    (KT : Hid (∀ z w, Calls Try.prog 14 #[.agg (A.cells s), .int .i64 z] w fun e w' => e = .returned (.bool (tk z)) ∧ Kept w w'))
    (KR : Hid (∀ z w, Calls Try.prog 15 #[.agg (A.cells s), .int .i64 z] w fun e w' => e = .returned (.bool (tk z)) ∧ Kept w w')) :
    Calls Try.prog 3 #[.agg (A.cells s), .agg #[.int .i64 k0, .int .i64 op0, .int .i64 a0, .int .i64 b0, .int .i64 c0, .int .i64 i0, .bool u0], .int .i64 cond] w fun e w' => e = .returned (.bool true) ∧ Below w.heap.size w w' := by
  go_enter Try.func3, Try.ntmps3
  go_wp2_with fail
  refine (shown_any _).mono ?_; rintro e w1 ⟨rfl, hK1⟩
  have hS := ((Has.new (A.cells s) 25 w).alloc _).kept hK1
  have hJ := (Has.new1 (#[.int .i64 k0, .int .i64 op0, .int .i64 a0, .int .i64 b0, .int .i64 c0, .int .i64 i0, .bool u0]) 27 w _).kept hK1
  have hK := (((Kept.refl w).alloc _ _).alloc _ _).trans hK1
  clear hK1
  skip
  replace hS := Lib.hid hS
  replace hJ := Lib.hid hJ
  replace hK := Lib.hid hK
  generalize hBe : w.heap.size = B at hS hJ ⊢
  have hB : w.heap.size ≤ B := by omega
  clear hBe
  go_wp2_with (first
    | (with_reducible refine load_has (o := ⟨some 19, _, _, _, _, _⟩) rfl 25 _ rfl _ rfl hS.out Try.underlying25 rfl (A.info25 _) ?_)
    | (with_reducible refine load_has (o := ⟨some 20, _, _, _, _, _⟩) rfl 27 _ rfl _ rfl hJ.out Try.underlying27 rfl (by kernel_rfl) ?_))
  refine (C1.out _).mono ?_; rintro e w2 ⟨rfl, hK3⟩
  replace hS := Lib.hid (hS.out.kept hK3)
  replace hJ := Lib.hid (hJ.out.kept hK3)
  replace hK := Lib.hid (hK.out.trans hK3)
  clear hK3
  go_upto_region 3 with (first
    | (with_reducible refine store_last (o := ⟨none, Op.store 25 (.tmp 8) _, _, _, _, _⟩) rfl 25 _ _ rfl _ _ rfl rfl rfl (A.info25 _) (by kernel_rfl) (A.one_cells _) ?_))
  replace hS := Lib.hid (hS.out.alloc (.cells (A.cells P) 25))
  replace hJ := Lib.hid (hJ.out.alloc (.cells (A.cells P) 25))
  replace hK := Lib.hid (hK.out.alloc (A.cells P) 25)
  have h8 := Lib.hid (Has.new (A.cells P) 25 w2)
  generalize w2.heap.size = B8 at *
  generalize World.alloc w2 _ = w3 at *
  go_wp2_with (first
    | (with_reducible refine load_has (o := ⟨some 25, _, _, _, _, _⟩) rfl 25 _ rfl _ rfl hS.out Try.underlying25 rfl (A.info25 _) ?_)
    | (with_reducible refine load_has (o := ⟨some 26, _, _, _, _, _⟩) rfl 27 _ rfl _ rfl hJ.out Try.underlying27 rfl (by kernel_rfl) ?_))
  refine (C2.out _).mono ?_; rintro e w4 ⟨rfl, hK3⟩
  replace hS := Lib.hid (hS.out.kept hK3)
  replace hJ := Lib.hid (hJ.out.kept hK3)
  replace h8 := Lib.hid (h8.out.kept hK3)
  replace hK := Lib.hid (hK.out.trans hK3)
  clear hK3
  go_upto_region 4 with (first
    | (with_reducible refine store_last (o := ⟨none, Op.store 25 (.tmp 10) _, _, _, _, _⟩) rfl 25 _ _ rfl _ _ rfl rfl rfl (A.info25 _) (by kernel_rfl) (A.one_cells _) ?_))
  replace hS := Lib.hid (hS.out.alloc (.cells (A.cells P) 25))
  replace hJ := Lib.hid (hJ.out.alloc (.cells (A.cells P) 25))
  replace h8 := Lib.hid (h8.out.alloc (.cells (A.cells P) 25))
  replace hK := Lib.hid (hK.out.alloc (A.cells P) 25)
  have h10 := Lib.hid (Has.new (A.cells P) 25 w4)
  generalize w4.heap.size = B10 at *
  generalize World.alloc w4 _ = w5 at *
  have hM : A.Al s P #[.int .i64 k0, .int .i64 op0, .int .i64 a0, .int .i64 b0, .int .i64 c0, .int .i64 i0, .bool u0] B B8 B10 w w5 := ⟨hK.out, hS.out, hJ.out, h8.out, h10.out⟩
  clear hK hS hJ h8 h10
  replace hM := Lib.hid hM
  go_cut [12, 13] from 17 (fun p q wx => ∃ B12 : Nat, p = .pointer (some ⟨B12, 0, none⟩) ∧ q = .int .i64 q2 ∧ Hid (A.Al s P #[.int .i64 k0, .int .i64 op0, .int .i64 a0, .int .i64 b0, .int .i64 c0, .int .i64 i0, .bool u0] B B8 B10 w wx) ∧ Hid (Has B12 (A.cells Q) 25 wx))
  case first =>
    refine wp_region_held_drew (S := A.Al s P #[.int .i64 k0, .int .i64 op0, .int .i64 a0, .int .i64 b0, .int .i64 c0, .int .i64 i0, .bool u0] B B8 B10 w) (by kernel_rfl) ?_ (fun hHeld => ?_)
    · exact hM.out.step (Kept.refl _).drew
    refine wpAnyH_take (i := 0) (oi := { dst := some 31, op := Op.load 25 (Operand.tmp 3), type := 25, pos := "law.go:24", after := #[], guard := none }) (v := ?_) rfl (by kernel_rfl) (by kernel_rfl) (by kernel_rfl) (fun _ _ _ h => h) (Or.inl ⟨rfl, ?_⟩) hHeld ?_
    rotate_left
    · (intro wz hSw; refine exec_load_has 25 (Operand.tmp 3) ?_ _ ?_ hSw.hS Try.underlying25 rfl (A.info25 _) <;> rfl)
    try simp only [Act.put, List.setIfInBounds_toArray, List.set_cons_zero, List.set_cons_succ]
    refine wpAnyH_take (i := 1) (oi := { dst := some 32, op := Op.load 27 (Operand.tmp 4), type := 27, pos := "law.go:24", after := #[], guard := none }) (v := ?_) rfl (by kernel_rfl) (by kernel_rfl) (by kernel_rfl) (fun _ _ _ h => h) (Or.inl ⟨rfl, ?_⟩) hHeld ?_
    rotate_left
    · (intro wz hSw; refine exec_load_has 27 (Operand.tmp 4) ?_ _ ?_ hSw.hJ Try.underlying27 rfl (by kernel_rfl) <;> rfl)
    try simp only [Act.put, List.setIfInBounds_toArray, List.set_cons_zero, List.set_cons_succ]
    refine wpAnyH_ready (rs := [2, 7]) (by kernel_rfl) (by simp) ?_
    refine AllReadyH.cons (o := { dst := some 33, op := Op.call { callee := Callee.value (Operand.func 13), args := #[Operand.tmp 32], argTypes := #[27] }, type := 27, pos := "law.go:24", after := #[{ on := 1, ground := Ground.data }], guard := none }) rfl (fun K hK => ?_) (AllReadyH.cons (o := { dst := some 12, op := Op.alloc 25, type := 0, pos := "law.go:24", after := #[], guard := none }) rfl (fun K hK => ?_) (AllReadyH.nil))
    · go_simp
      go_at_call 13
      refine (CF.out _).mono ?_
      rintro e wf ⟨rfl, hK5⟩
      have hN := (show (A.Al s P #[.int .i64 k0, .int .i64 op0, .int .i64 a0, .int .i64 b0, .int .i64 c0, .int .i64 i0, .bool u0] B B8 B10 w) _ from hHeld.step hK5)
      clear hHeld
      refine hK.out _ _ hN (fun hHeld => ?_)
      clear hK K hN
      try simp only [Act.put, List.setIfInBounds_toArray, List.set_cons_zero, List.set_cons_succ]
      refine wpAnyH_ready (rs := [3, 7]) (by kernel_rfl) (by simp) ?_
      refine AllReadyH.cons (o := { dst := some 34, op := Op.call { callee := Callee.value (Operand.func 11), args := #[Operand.tmp 31, Operand.tmp 33], argTypes := #[25, 27] }, type := 29, pos := "law.go:24", after := #[{ on := 0, ground := Ground.data }, { on := 2, ground := Ground.data }, { on := 2, ground := Ground.chain }], guard := none }) rfl (fun K hK => ?_) (AllReadyH.cons (o := { dst := some 12, op := Op.alloc 25, type := 0, pos := "law.go:24", after := #[], guard := none }) rfl (fun K hK => ?_) (AllReadyH.nil))
      · go_simp
        go_at_call 11
        refine (C3.out _).mono ?_
        rintro e wd ⟨rfl, hK5⟩
        have hN := (show (A.Al s P #[.int .i64 k0, .int .i64 op0, .int .i64 a0, .int .i64 b0, .int .i64 c0, .int .i64 i0, .bool u0] B B8 B10 w) _ from hHeld.step hK5)
        clear hHeld
        refine hK.out _ _ hN (fun hHeld => ?_)
        clear hK K hN
        try simp only [Act.put, List.setIfInBounds_toArray, List.set_cons_zero, List.set_cons_succ]
        refine wpAnyH_take (i := 4) (oi := { dst := some 30, op := Op.move (Operand.tmp 34), type := 29, pos := "law.go:24", after := #[{ on := 3, ground := Ground.data }], guard := none }) (v := ?_) rfl (by kernel_rfl) (by kernel_rfl) (by kernel_rfl) (fun _ _ _ h => h) (Or.inl ⟨rfl, ?_⟩) hHeld ?_
        rotate_left
        · (intro wz hSw; (try dsimp only at hSw); go_simp; try with_reducible rfl)
        try simp only [Act.put, List.setIfInBounds_toArray, List.set_cons_zero, List.set_cons_succ]
        refine wpAnyH_take (i := 5) (oi := { dst := some 35, op := Op.extract (Operand.tmp 30) 0, type := 25, pos := "law.go:24", after := #[{ on := 4, ground := Ground.data }], guard := none }) (v := ?_) rfl (by kernel_rfl) (by kernel_rfl) (by kernel_rfl) (fun _ _ _ h => h) (Or.inl ⟨rfl, ?_⟩) hHeld ?_
        rotate_left
        · (intro wz hSw; (try dsimp only at hSw); go_simp; try with_reducible rfl)
        try simp only [Act.put, List.setIfInBounds_toArray, List.set_cons_zero, List.set_cons_succ]
        refine wpAnyH_take (i := 6) (oi := { dst := some 36, op := Op.extract (Operand.tmp 30) 1, type := 3, pos := "law.go:24", after := #[{ on := 4, ground := Ground.data }, { on := 8, ground := Ground.gcOnly Departure.lateStores }], guard := none }) (v := ?_) rfl (by kernel_rfl) (by kernel_rfl) (by kernel_rfl) (fun _ _ _ h => h) (Or.inl ⟨rfl, ?_⟩) hHeld ?_
        rotate_left
        · (intro wz hSw; (try dsimp only at hSw); go_simp; try with_reducible rfl)
        try simp only [Act.put, List.setIfInBounds_toArray, List.set_cons_zero, List.set_cons_succ]
        refine wpAnyH_ready (rs := [7]) (by kernel_rfl) (by simp) ?_
        refine AllReadyH.cons (o := { dst := some 12, op := Op.alloc 25, type := 0, pos := "law.go:24", after := #[], guard := none }) rfl (fun K hK => ?_) (AllReadyH.nil)
        have lS := hHeld.hS.lt
        have lJ := hHeld.hJ.lt
        have l8 := hHeld.h8.lt
        have l10 := hHeld.h10.lt
        have lK := hHeld.kept.size
        go_simp
        have hZ := Has.new #[.int .u32 0, .int .u32 0, .int .u32 0, .int .u32 0, .int .u32 0, .int .u32 0, .int .u32 0, .int .u32 0, .int .u32 0, .int .u32 0, .int .u32 0, .int .u32 0, .int .u32 0, .int .u32 0, .int .u32 0, .int .u32 0, .int .u32 0, .bool false, .bool false, .bool false, .bool false] 25 wd
        have hN := (show (A.Al s P #[.int .i64 k0, .int .i64 op0, .int .i64 a0, .int .i64 b0, .int .i64 c0, .int .i64 i0, .bool u0] B B8 B10 w) _ from hHeld.step ((Kept.refl _).alloc #[.int .u32 0, .int .u32 0, .int .u32 0, .int .u32 0, .int .u32 0, .int .u32 0, .int .u32 0, .int .u32 0, .int .u32 0, .int .u32 0, .int .u32 0, .int .u32 0, .int .u32 0, .int .u32 0, .int .u32 0, .int .u32 0, .int .u32 0, .bool false, .bool false, .bool false, .bool false] 25))
        clear hHeld
        refine hK.out _ _ hN (fun hHeld => ?_)
        clear hK K hN
        try simp only [Act.put, List.setIfInBounds_toArray, List.set_cons_zero, List.set_cons_succ]
        refine wpAnyH_ready (rs := [8]) (by kernel_rfl) (by simp) ?_
        refine AllReadyH.cons (o := { dst := none, op := Op.store 25 (Operand.tmp 12) (Operand.tmp 35), type := 0, pos := "law.go:24", after := #[{ on := 7, ground := Ground.data }, { on := 5, ground := Ground.data }, { on := 3, ground := Ground.chain }, { on := 0, ground := Ground.phase }, { on := 1, ground := Ground.phase }, { on := 2, ground := Ground.phase }, { on := 3, ground := Ground.phase }, { on := 4, ground := Ground.phase }, { on := 5, ground := Ground.phase }, { on := 6, ground := Ground.textOnly Departure.lateStores }, { on := 7, ground := Ground.phase }], guard := none }) rfl (fun K hK => ?_) (AllReadyH.nil)
        refine wp_store_row (o := { dst := none, op := Op.store 25 (Operand.tmp 12) (Operand.tmp 35), type := 0, pos := "law.go:24", after := #[{ on := 7, ground := Ground.data }, { on := 5, ground := Ground.data }, { on := 3, ground := Ground.chain }, { on := 0, ground := Ground.phase }, { on := 1, ground := Ground.phase }, { on := 2, ground := Ground.phase }, { on := 3, ground := Ground.phase }, { on := 4, ground := Ground.phase }, { on := 5, ground := Ground.phase }, { on := 6, ground := Ground.textOnly Departure.lateStores }, { on := 7, ground := Ground.phase }], guard := none }) 25 _ _ rfl _ (A.cells Q) ?_ ?_ 25 _ hZ (A.info25 _) (by kernel_rfl) (A.one_cells _) ?_
        · rfl
        · rfl
        replace hZ := hZ.row (A.cells Q)
        have hN := (show (A.Al s P #[.int .i64 k0, .int .i64 op0, .int .i64 a0, .int .i64 b0, .int .i64 c0, .int .i64 i0, .bool u0] B B8 B10 w) _ from hHeld.row lS lJ l8 l10 lK (A.cells Q))
        clear hHeld
        refine hK.out _ _ hN (fun hHeld => ?_)
        clear hK K hN
        try simp only [Act.put, List.setIfInBounds_toArray, List.set_cons_zero, List.set_cons_succ]
        refine wpAnyH_take (i := 9) (oi := { dst := some 13, op := Op.assign (Operand.tmp 36), type := 3, pos := "law.go:24", after := #[{ on := 6, ground := Ground.data }, { on := 8, ground := Ground.chain }, { on := 0, ground := Ground.phase }, { on := 1, ground := Ground.phase }, { on := 2, ground := Ground.phase }, { on := 3, ground := Ground.phase }, { on := 4, ground := Ground.phase }, { on := 5, ground := Ground.phase }, { on := 6, ground := Ground.phase }, { on := 7, ground := Ground.phase }, { on := 8, ground := Ground.phase }], guard := none }) (v := ?_) rfl (by kernel_rfl) (by kernel_rfl) (by kernel_rfl) (fun _ _ _ h => h) (Or.inl ⟨rfl, ?_⟩) hHeld ?_
        rotate_left
        · (intro wz hSw; (try dsimp only at hSw); go_simp; try with_reducible rfl)
        try simp only [Act.put, List.setIfInBounds_toArray, List.set_cons_zero, List.set_cons_succ]
        refine wpAnyH_done (by kernel_rfl) ?_ _
        generalize World.setRow _ _ _ = wF at hHeld hZ
        go_wp2_with fail
        go_meet
        case rel => exact ⟨_, rfl, rfl, Lib.hid hHeld, Lib.hid hZ⟩
      · have lS := hHeld.hS.lt
        have lJ := hHeld.hJ.lt
        have l8 := hHeld.h8.lt
        have l10 := hHeld.h10.lt
        have lK := hHeld.kept.size
        go_simp
        have hZ := Has.new #[.int .u32 0, .int .u32 0, .int .u32 0, .int .u32 0, .int .u32 0, .int .u32 0, .int .u32 0, .int .u32 0, .int .u32 0, .int .u32 0, .int .u32 0, .int .u32 0, .int .u32 0, .int .u32 0, .int .u32 0, .int .u32 0, .int .u32 0, .bool false, .bool false, .bool false, .bool false] 25 wf
        have hN := (show (A.Al s P #[.int .i64 k0, .int .i64 op0, .int .i64 a0, .int .i64 b0, .int .i64 c0, .int .i64 i0, .bool u0] B B8 B10 w) _ from hHeld.step ((Kept.refl _).alloc #[.int .u32 0, .int .u32 0, .int .u32 0, .int .u32 0, .int .u32 0, .int .u32 0, .int .u32 0, .int .u32 0, .int .u32 0, .int .u32 0, .int .u32 0, .int .u32 0, .int .u32 0, .int .u32 0, .int .u32 0, .int .u32 0, .int .u32 0, .bool false, .bool false, .bool false, .bool false] 25))
        clear hHeld
        refine hK.out _ _ hN (fun hHeld => ?_)
        clear hK K hN
        try simp only [Act.put, List.setIfInBounds_toArray, List.set_cons_zero, List.set_cons_succ]
        refine wpAnyH_ready (rs := [3]) (by kernel_rfl) (by simp) ?_
        refine AllReadyH.cons (o := { dst := some 34, op := Op.call { callee := Callee.value (Operand.func 11), args := #[Operand.tmp 31, Operand.tmp 33], argTypes := #[25, 27] }, type := 29, pos := "law.go:24", after := #[{ on := 0, ground := Ground.data }, { on := 2, ground := Ground.data }, { on := 2, ground := Ground.chain }], guard := none }) rfl (fun K hK => ?_) (AllReadyH.nil)
        go_simp
        go_at_call 11
        refine (C3.out _).mono ?_
        rintro e wd ⟨rfl, hK5⟩
        replace hZ := hZ.kept hK5
        have hN := (show (A.Al s P #[.int .i64 k0, .int .i64 op0, .int .i64 a0, .int .i64 b0, .int .i64 c0, .int .i64 i0, .bool u0] B B8 B10 w) _ from hHeld.step hK5)
        clear hHeld
        refine hK.out _ _ hN (fun hHeld => ?_)
        clear hK K hN
        try simp only [Act.put, List.setIfInBounds_toArray, List.set_cons_zero, List.set_cons_succ]
        refine wpAnyH_take (i := 4) (oi := { dst := some 30, op := Op.move (Operand.tmp 34), type := 29, pos := "law.go:24", after := #[{ on := 3, ground := Ground.data }], guard := none }) (v := ?_) rfl (by kernel_rfl) (by kernel_rfl) (by kernel_rfl) (fun _ _ _ h => h) (Or.inl ⟨rfl, ?_⟩) hHeld ?_
        rotate_left
        · (intro wz hSw; (try dsimp only at hSw); go_simp; try with_reducible rfl)
        try simp only [Act.put, List.setIfInBounds_toArray, List.set_cons_zero, List.set_cons_succ]
        refine wpAnyH_take (i := 5) (oi := { dst := some 35, op := Op.extract (Operand.tmp 30) 0, type := 25, pos := "law.go:24", after := #[{ on := 4, ground := Ground.data }], guard := none }) (v := ?_) rfl (by kernel_rfl) (by kernel_rfl) (by kernel_rfl) (fun _ _ _ h => h) (Or.inl ⟨rfl, ?_⟩) hHeld ?_
        rotate_left
        · (intro wz hSw; (try dsimp only at hSw); go_simp; try with_reducible rfl)
        try simp only [Act.put, List.setIfInBounds_toArray, List.set_cons_zero, List.set_cons_succ]
        refine wpAnyH_take (i := 6) (oi := { dst := some 36, op := Op.extract (Operand.tmp 30) 1, type := 3, pos := "law.go:24", after := #[{ on := 4, ground := Ground.data }, { on := 8, ground := Ground.gcOnly Departure.lateStores }], guard := none }) (v := ?_) rfl (by kernel_rfl) (by kernel_rfl) (by kernel_rfl) (fun _ _ _ h => h) (Or.inl ⟨rfl, ?_⟩) hHeld ?_
        rotate_left
        · (intro wz hSw; (try dsimp only at hSw); go_simp; try with_reducible rfl)
        try simp only [Act.put, List.setIfInBounds_toArray, List.set_cons_zero, List.set_cons_succ]
        refine wpAnyH_ready (rs := [8]) (by kernel_rfl) (by simp) ?_
        refine AllReadyH.cons (o := { dst := none, op := Op.store 25 (Operand.tmp 12) (Operand.tmp 35), type := 0, pos := "law.go:24", after := #[{ on := 7, ground := Ground.data }, { on := 5, ground := Ground.data }, { on := 3, ground := Ground.chain }, { on := 0, ground := Ground.phase }, { on := 1, ground := Ground.phase }, { on := 2, ground := Ground.phase }, { on := 3, ground := Ground.phase }, { on := 4, ground := Ground.phase }, { on := 5, ground := Ground.phase }, { on := 6, ground := Ground.textOnly Departure.lateStores }, { on := 7, ground := Ground.phase }], guard := none }) rfl (fun K hK => ?_) (AllReadyH.nil)
        refine wp_store_row (o := { dst := none, op := Op.store 25 (Operand.tmp 12) (Operand.tmp 35), type := 0, pos := "law.go:24", after := #[{ on := 7, ground := Ground.data }, { on := 5, ground := Ground.data }, { on := 3, ground := Ground.chain }, { on := 0, ground := Ground.phase }, { on := 1, ground := Ground.phase }, { on := 2, ground := Ground.phase }, { on := 3, ground := Ground.phase }, { on := 4, ground := Ground.phase }, { on := 5, ground := Ground.phase }, { on := 6, ground := Ground.textOnly Departure.lateStores }, { on := 7, ground := Ground.phase }], guard := none }) 25 _ _ rfl _ (A.cells Q) ?_ ?_ 25 _ hZ (A.info25 _) (by kernel_rfl) (A.one_cells _) ?_
        · rfl
        · rfl
        replace hZ := hZ.row (A.cells Q)
        have hN := (show (A.Al s P #[.int .i64 k0, .int .i64 op0, .int .i64 a0, .int .i64 b0, .int .i64 c0, .int .i64 i0, .bool u0] B B8 B10 w) _ from hHeld.row lS lJ l8 l10 lK (A.cells Q))
        clear hHeld
        refine hK.out _ _ hN (fun hHeld => ?_)
        clear hK K hN
        try simp only [Act.put, List.setIfInBounds_toArray, List.set_cons_zero, List.set_cons_succ]
        refine wpAnyH_take (i := 9) (oi := { dst := some 13, op := Op.assign (Operand.tmp 36), type := 3, pos := "law.go:24", after := #[{ on := 6, ground := Ground.data }, { on := 8, ground := Ground.chain }, { on := 0, ground := Ground.phase }, { on := 1, ground := Ground.phase }, { on := 2, ground := Ground.phase }, { on := 3, ground := Ground.phase }, { on := 4, ground := Ground.phase }, { on := 5, ground := Ground.phase }, { on := 6, ground := Ground.phase }, { on := 7, ground := Ground.phase }, { on := 8, ground := Ground.phase }], guard := none }) (v := ?_) rfl (by kernel_rfl) (by kernel_rfl) (by kernel_rfl) (fun _ _ _ h => h) (Or.inl ⟨rfl, ?_⟩) hHeld ?_
        rotate_left
        · (intro wz hSw; (try dsimp only at hSw); go_simp; try with_reducible rfl)
        try simp only [Act.put, List.setIfInBounds_toArray, List.set_cons_zero, List.set_cons_succ]
        refine wpAnyH_done (by kernel_rfl) ?_ _
        generalize World.setRow _ _ _ = wF at hHeld hZ
        go_wp2_with fail
        go_meet
        case rel => exact ⟨_, rfl, rfl, Lib.hid hHeld, Lib.hid hZ⟩
    · have lS := hHeld.hS.lt
      have lJ := hHeld.hJ.lt
      have l8 := hHeld.h8.lt
      have l10 := hHeld.h10.lt
      have lK := hHeld.kept.size
      go_simp
      have hZ := Has.new #[.int .u32 0, .int .u32 0, .int .u32 0, .int .u32 0, .int .u32 0, .int .u32 0, .int .u32 0, .int .u32 0, .int .u32 0, .int .u32 0, .int .u32 0, .int .u32 0, .int .u32 0, .int .u32 0, .int .u32 0, .int .u32 0, .int .u32 0, .bool false, .bool false, .bool false, .bool false] 25 w5.drew
      have hN := (show (A.Al s P #[.int .i64 k0, .int .i64 op0, .int .i64 a0, .int .i64 b0, .int .i64 c0, .int .i64 i0, .bool u0] B B8 B10 w) _ from hHeld.step ((Kept.refl _).alloc #[.int .u32 0, .int .u32 0, .int .u32 0, .int .u32 0, .int .u32 0, .int .u32 0, .int .u32 0, .int .u32 0, .int .u32 0, .int .u32 0, .int .u32 0, .int .u32 0, .int .u32 0, .int .u32 0, .int .u32 0, .int .u32 0, .int .u32 0, .bool false, .bool false, .bool false, .bool false] 25))
      clear hHeld
      refine hK.out _ _ hN (fun hHeld => ?_)
      clear hK K hN
      try simp only [Act.put, List.setIfInBounds_toArray, List.set_cons_zero, List.set_cons_succ]
      refine wpAnyH_ready (rs := [2]) (by kernel_rfl) (by simp) ?_
      refine AllReadyH.cons (o := { dst := some 33, op := Op.call { callee := Callee.value (Operand.func 13), args := #[Operand.tmp 32], argTypes := #[27] }, type := 27, pos := "law.go:24", after := #[{ on := 1, ground := Ground.data }], guard := none }) rfl (fun K hK => ?_) (AllReadyH.nil)
      go_simp
      go_at_call 13
      refine (CF.out _).mono ?_
      rintro e wf ⟨rfl, hK5⟩
      replace hZ := hZ.kept hK5
      have hN := (show (A.Al s P #[.int .i64 k0, .int .i64 op0, .int .i64 a0, .int .i64 b0, .int .i64 c0, .int .i64 i0, .bool u0] B B8 B10 w) _ from hHeld.step hK5)
      clear hHeld
      refine hK.out _ _ hN (fun hHeld => ?_)
      clear hK K hN
      try simp only [Act.put, List.setIfInBounds_toArray, List.set_cons_zero, List.set_cons_succ]
      refine wpAnyH_ready (rs := [3]) (by kernel_rfl) (by simp) ?_
      refine AllReadyH.cons (o := { dst := some 34, op := Op.call { callee := Callee.value (Operand.func 11), args := #[Operand.tmp 31, Operand.tmp 33], argTypes := #[25, 27] }, type := 29, pos := "law.go:24", after := #[{ on := 0, ground := Ground.data }, { on := 2, ground := Ground.data }, { on := 2, ground := Ground.chain }], guard := none }) rfl (fun K hK => ?_) (AllReadyH.nil)
      go_simp
      go_at_call 11
      refine (C3.out _).mono ?_
      rintro e wd ⟨rfl, hK5⟩
      replace hZ := hZ.kept hK5
      have hN := (show (A.Al s P #[.int .i64 k0, .int .i64 op0, .int .i64 a0, .int .i64 b0, .int .i64 c0, .int .i64 i0, .bool u0] B B8 B10 w) _ from hHeld.step hK5)
      clear hHeld
      refine hK.out _ _ hN (fun hHeld => ?_)
      clear hK K hN
      try simp only [Act.put, List.setIfInBounds_toArray, List.set_cons_zero, List.set_cons_succ]
      refine wpAnyH_take (i := 4) (oi := { dst := some 30, op := Op.move (Operand.tmp 34), type := 29, pos := "law.go:24", after := #[{ on := 3, ground := Ground.data }], guard := none }) (v := ?_) rfl (by kernel_rfl) (by kernel_rfl) (by kernel_rfl) (fun _ _ _ h => h) (Or.inl ⟨rfl, ?_⟩) hHeld ?_
      rotate_left
      · (intro wz hSw; (try dsimp only at hSw); go_simp; try with_reducible rfl)
      try simp only [Act.put, List.setIfInBounds_toArray, List.set_cons_zero, List.set_cons_succ]
      refine wpAnyH_take (i := 5) (oi := { dst := some 35, op := Op.extract (Operand.tmp 30) 0, type := 25, pos := "law.go:24", after := #[{ on := 4, ground := Ground.data }], guard := none }) (v := ?_) rfl (by kernel_rfl) (by kernel_rfl) (by kernel_rfl) (fun _ _ _ h => h) (Or.inl ⟨rfl, ?_⟩) hHeld ?_
      rotate_left
      · (intro wz hSw; (try dsimp only at hSw); go_simp; try with_reducible rfl)
      try simp only [Act.put, List.setIfInBounds_toArray, List.set_cons_zero, List.set_cons_succ]
      refine wpAnyH_take (i := 6) (oi := { dst := some 36, op := Op.extract (Operand.tmp 30) 1, type := 3, pos := "law.go:24", after := #[{ on := 4, ground := Ground.data }, { on := 8, ground := Ground.gcOnly Departure.lateStores }], guard := none }) (v := ?_) rfl (by kernel_rfl) (by kernel_rfl) (by kernel_rfl) (fun _ _ _ h => h) (Or.inl ⟨rfl, ?_⟩) hHeld ?_
      rotate_left
      · (intro wz hSw; (try dsimp only at hSw); go_simp; try with_reducible rfl)
      try simp only [Act.put, List.setIfInBounds_toArray, List.set_cons_zero, List.set_cons_succ]
      refine wpAnyH_ready (rs := [8]) (by kernel_rfl) (by simp) ?_
      refine AllReadyH.cons (o := { dst := none, op := Op.store 25 (Operand.tmp 12) (Operand.tmp 35), type := 0, pos := "law.go:24", after := #[{ on := 7, ground := Ground.data }, { on := 5, ground := Ground.data }, { on := 3, ground := Ground.chain }, { on := 0, ground := Ground.phase }, { on := 1, ground := Ground.phase }, { on := 2, ground := Ground.phase }, { on := 3, ground := Ground.phase }, { on := 4, ground := Ground.phase }, { on := 5, ground := Ground.phase }, { on := 6, ground := Ground.textOnly Departure.lateStores }, { on := 7, ground := Ground.phase }], guard := none }) rfl (fun K hK => ?_) (AllReadyH.nil)
      refine wp_store_row (o := { dst := none, op := Op.store 25 (Operand.tmp 12) (Operand.tmp 35), type := 0, pos := "law.go:24", after := #[{ on := 7, ground := Ground.data }, { on := 5, ground := Ground.data }, { on := 3, ground := Ground.chain }, { on := 0, ground := Ground.phase }, { on := 1, ground := Ground.phase }, { on := 2, ground := Ground.phase }, { on := 3, ground := Ground.phase }, { on := 4, ground := Ground.phase }, { on := 5, ground := Ground.phase }, { on := 6, ground := Ground.textOnly Departure.lateStores }, { on := 7, ground := Ground.phase }], guard := none }) 25 _ _ rfl _ (A.cells Q) ?_ ?_ 25 _ hZ (A.info25 _) (by kernel_rfl) (A.one_cells _) ?_
      · rfl
      · rfl
      replace hZ := hZ.row (A.cells Q)
      have hN := (show (A.Al s P #[.int .i64 k0, .int .i64 op0, .int .i64 a0, .int .i64 b0, .int .i64 c0, .int .i64 i0, .bool u0] B B8 B10 w) _ from hHeld.row lS lJ l8 l10 lK (A.cells Q))
      clear hHeld
      refine hK.out _ _ hN (fun hHeld => ?_)
      clear hK K hN
      try simp only [Act.put, List.setIfInBounds_toArray, List.set_cons_zero, List.set_cons_succ]
      refine wpAnyH_take (i := 9) (oi := { dst := some 13, op := Op.assign (Operand.tmp 36), type := 3, pos := "law.go:24", after := #[{ on := 6, ground := Ground.data }, { on := 8, ground := Ground.chain }, { on := 0, ground := Ground.phase }, { on := 1, ground := Ground.phase }, { on := 2, ground := Ground.phase }, { on := 3, ground := Ground.phase }, { on := 4, ground := Ground.phase }, { on := 5, ground := Ground.phase }, { on := 6, ground := Ground.phase }, { on := 7, ground := Ground.phase }, { on := 8, ground := Ground.phase }], guard := none }) (v := ?_) rfl (by kernel_rfl) (by kernel_rfl) (by kernel_rfl) (fun _ _ _ h => h) (Or.inl ⟨rfl, ?_⟩) hHeld ?_
      rotate_left
      · (intro wz hSw; (try dsimp only at hSw); go_simp; try with_reducible rfl)
      try simp only [Act.put, List.setIfInBounds_toArray, List.set_cons_zero, List.set_cons_succ]
      refine wpAnyH_done (by kernel_rfl) ?_ _
      generalize World.setRow _ _ _ = wF at hHeld hZ
      go_wp2_with fail
      go_meet
      case rel => exact ⟨_, rfl, rfl, Lib.hid hHeld, Lib.hid hZ⟩
  obtain ⟨B12, rfl, rfl, hM2, h12⟩ := hcut
  clear hM
  go_upto_region 5 with (fail)
  go_cut [14, 15] from 17 (fun p q wx => ∃ B14 : Nat, p = .pointer (some ⟨B14, 0, none⟩) ∧ q = .int .i64 q2 ∧ Hid (A.Al s P #[.int .i64 k0, .int .i64 op0, .int .i64 a0, .int .i64 b0, .int .i64 c0, .int .i64 i0, .bool u0] B B8 B10 w wx) ∧ Hid (Has B12 (A.cells Q) 25 wx) ∧ Hid (Has B14 (A.cells Q) 25 wx))
  case first =>
    refine wp_region_held_drew (S := fun w' => A.Al s P #[.int .i64 k0, .int .i64 op0, .int .i64 a0, .int .i64 b0, .int .i64 c0, .int .i64 i0, .bool u0] B B8 B10 w w' ∧ Has B12 (A.cells Q) 25 w') (by kernel_rfl) ?_ (fun hHeld => ?_)
    · exact ⟨hM2.out.step (Kept.refl _).drew, h12.out.drew⟩
    refine wpAnyH_take (i := 0) (oi := { dst := some 38, op := Op.load 25 (Operand.tmp 3), type := 25, pos := "law.go:25", after := #[], guard := none }) (v := ?_) rfl (by kernel_rfl) (by kernel_rfl) (by kernel_rfl) (fun _ _ _ h => h) (Or.inl ⟨rfl, ?_⟩) hHeld ?_
    rotate_left
    · (intro wz hSw; refine exec_load_has 25 (Operand.tmp 3) ?_ _ ?_ hSw.1.hS Try.underlying25 rfl (A.info25 _) <;> rfl)
    try simp only [Act.put, List.setIfInBounds_toArray, List.set_cons_zero, List.set_cons_succ]
    refine wpAnyH_take (i := 1) (oi := { dst := some 39, op := Op.load 27 (Operand.tmp 4), type := 27, pos := "law.go:25", after := #[], guard := none }) (v := ?_) rfl (by kernel_rfl) (by kernel_rfl) (by kernel_rfl) (fun _ _ _ h => h) (Or.inl ⟨rfl, ?_⟩) hHeld ?_
    rotate_left
    · (intro wz hSw; refine exec_load_has 27 (Operand.tmp 4) ?_ _ ?_ hSw.1.hJ Try.underlying27 rfl (by kernel_rfl) <;> rfl)
    try simp only [Act.put, List.setIfInBounds_toArray, List.set_cons_zero, List.set_cons_succ]
    refine wpAnyH_ready (rs := [2, 7]) (by kernel_rfl) (by simp) ?_
    refine AllReadyH.cons (o := { dst := some 40, op := Op.call { callee := Callee.value (Operand.func 13), args := #[Operand.tmp 39], argTypes := #[27] }, type := 27, pos := "law.go:25", after := #[{ on := 1, ground := Ground.data }], guard := none }) rfl (fun K hK => ?_) (AllReadyH.cons (o := { dst := some 14, op := Op.alloc 25, type := 0, pos := "law.go:25", after := #[], guard := none }) rfl (fun K hK => ?_) (AllReadyH.nil))
    · go_simp
      go_at_call 13
      refine (CF.out _).mono ?_
      rintro e wf ⟨rfl, hK5⟩
      have hN := (show (fun w' => A.Al s P #[.int .i64 k0, .int .i64 op0, .int .i64 a0, .int .i64 b0, .int .i64 c0, .int .i64 i0, .bool u0] B B8 B10 w w' ∧ Has B12 (A.cells Q) 25 w') _ from ⟨hHeld.1.step hK5, hHeld.2.kept hK5⟩)
      clear hHeld
      refine hK.out _ _ hN (fun hHeld => ?_)
      clear hK K hN
      try simp only [Act.put, List.setIfInBounds_toArray, List.set_cons_zero, List.set_cons_succ]
      refine wpAnyH_ready (rs := [3, 7]) (by kernel_rfl) (by simp) ?_
      refine AllReadyH.cons (o := { dst := some 41, op := Op.call { callee := Callee.value (Operand.func 12), args := #[Operand.tmp 38, Operand.tmp 40], argTypes := #[25, 27] }, type := 29, pos := "law.go:25", after := #[{ on := 0, ground := Ground.data }, { on := 2, ground := Ground.data }, { on := 2, ground := Ground.chain }], guard := none }) rfl (fun K hK => ?_) (AllReadyH.cons (o := { dst := some 14, op := Op.alloc 25, type := 0, pos := "law.go:25", after := #[], guard := none }) rfl (fun K hK => ?_) (AllReadyH.nil))
      · go_simp
        go_at_call 12
        refine (C4.out _).mono ?_
        rintro e wd ⟨rfl, hK5⟩
        have hN := (show (fun w' => A.Al s P #[.int .i64 k0, .int .i64 op0, .int .i64 a0, .int .i64 b0, .int .i64 c0, .int .i64 i0, .bool u0] B B8 B10 w w' ∧ Has B12 (A.cells Q) 25 w') _ from ⟨hHeld.1.step hK5, hHeld.2.kept hK5⟩)
        clear hHeld
        refine hK.out _ _ hN (fun hHeld => ?_)
        clear hK K hN
        try simp only [Act.put, List.setIfInBounds_toArray, List.set_cons_zero, List.set_cons_succ]
        refine wpAnyH_take (i := 4) (oi := { dst := some 37, op := Op.move (Operand.tmp 41), type := 29, pos := "law.go:25", after := #[{ on := 3, ground := Ground.data }], guard := none }) (v := ?_) rfl (by kernel_rfl) (by kernel_rfl) (by kernel_rfl) (fun _ _ _ h => h) (Or.inl ⟨rfl, ?_⟩) hHeld ?_
        rotate_left
        · (intro wz hSw; (try dsimp only at hSw); go_simp; try with_reducible rfl)
        try simp only [Act.put, List.setIfInBounds_toArray, List.set_cons_zero, List.set_cons_succ]
        refine wpAnyH_take (i := 5) (oi := { dst := some 42, op := Op.extract (Operand.tmp 37) 0, type := 25, pos := "law.go:25", after := #[{ on := 4, ground := Ground.data }], guard := none }) (v := ?_) rfl (by kernel_rfl) (by kernel_rfl) (by kernel_rfl) (fun _ _ _ h => h) (Or.inl ⟨rfl, ?_⟩) hHeld ?_
        rotate_left
        · (intro wz hSw; (try dsimp only at hSw); go_simp; try with_reducible rfl)
        try simp only [Act.put, List.setIfInBounds_toArray, List.set_cons_zero, List.set_cons_succ]
        refine wpAnyH_take (i := 6) (oi := { dst := some 43, op := Op.extract (Operand.tmp 37) 1, type := 3, pos := "law.go:25", after := #[{ on := 4, ground := Ground.data }, { on := 8, ground := Ground.gcOnly Departure.lateStores }], guard := none }) (v := ?_) rfl (by kernel_rfl) (by kernel_rfl) (by kernel_rfl) (fun _ _ _ h => h) (Or.inl ⟨rfl, ?_⟩) hHeld ?_
        rotate_left
        · (intro wz hSw; (try dsimp only at hSw); go_simp; try with_reducible rfl)
        try simp only [Act.put, List.setIfInBounds_toArray, List.set_cons_zero, List.set_cons_succ]
        refine wpAnyH_ready (rs := [7]) (by kernel_rfl) (by simp) ?_
        refine AllReadyH.cons (o := { dst := some 14, op := Op.alloc 25, type := 0, pos := "law.go:25", after := #[], guard := none }) rfl (fun K hK => ?_) (AllReadyH.nil)
        have lS := hHeld.1.hS.lt
        have lJ := hHeld.1.hJ.lt
        have l8 := hHeld.1.h8.lt
        have l10 := hHeld.1.h10.lt
        have lK := hHeld.1.kept.size
        have lm := hHeld.2.lt
        go_simp
        have hZ := Has.new #[.int .u32 0, .int .u32 0, .int .u32 0, .int .u32 0, .int .u32 0, .int .u32 0, .int .u32 0, .int .u32 0, .int .u32 0, .int .u32 0, .int .u32 0, .int .u32 0, .int .u32 0, .int .u32 0, .int .u32 0, .int .u32 0, .int .u32 0, .bool false, .bool false, .bool false, .bool false] 25 wd
        have hN := (show (fun w' => A.Al s P #[.int .i64 k0, .int .i64 op0, .int .i64 a0, .int .i64 b0, .int .i64 c0, .int .i64 i0, .bool u0] B B8 B10 w w' ∧ Has B12 (A.cells Q) 25 w') _ from ⟨hHeld.1.step ((Kept.refl _).alloc #[.int .u32 0, .int .u32 0, .int .u32 0, .int .u32 0, .int .u32 0, .int .u32 0, .int .u32 0, .int .u32 0, .int .u32 0, .int .u32 0, .int .u32 0, .int .u32 0, .int .u32 0, .int .u32 0, .int .u32 0, .int .u32 0, .int .u32 0, .bool false, .bool false, .bool false, .bool false] 25), hHeld.2.kept ((Kept.refl _).alloc #[.int .u32 0, .int .u32 0, .int .u32 0, .int .u32 0, .int .u32 0, .int .u32 0, .int .u32 0, .int .u32 0, .int .u32 0, .int .u32 0, .int .u32 0, .int .u32 0, .int .u32 0, .int .u32 0, .int .u32 0, .int .u32 0, .int .u32 0, .bool false, .bool false, .bool false, .bool false] 25)⟩)
        clear hHeld
        refine hK.out _ _ hN (fun hHeld => ?_)
        clear hK K hN
        try simp only [Act.put, List.setIfInBounds_toArray, List.set_cons_zero, List.set_cons_succ]
        refine wpAnyH_ready (rs := [8]) (by kernel_rfl) (by simp) ?_
        refine AllReadyH.cons (o := { dst := none, op := Op.store 25 (Operand.tmp 14) (Operand.tmp 42), type := 0, pos := "law.go:25", after := #[{ on := 7, ground := Ground.data }, { on := 5, ground := Ground.data }, { on := 3, ground := Ground.chain }, { on := 0, ground := Ground.phase }, { on := 1, ground := Ground.phase }, { on := 2, ground := Ground.phase }, { on := 3, ground := Ground.phase }, { on := 4, ground := Ground.phase }, { on := 5, ground := Ground.phase }, { on := 6, ground := Ground.textOnly Departure.lateStores }, { on := 7, ground := Ground.phase }], guard := none }) rfl (fun K hK => ?_) (AllReadyH.nil)
        refine wp_store_row (o := { dst := none, op := Op.store 25 (Operand.tmp 14) (Operand.tmp 42), type := 0, pos := "law.go:25", after := #[{ on := 7, ground := Ground.data }, { on := 5, ground := Ground.data }, { on := 3, ground := Ground.chain }, { on := 0, ground := Ground.phase }, { on := 1, ground := Ground.phase }, { on := 2, ground := Ground.phase }, { on := 3, ground := Ground.phase }, { on := 4, ground := Ground.phase }, { on := 5, ground := Ground.phase }, { on := 6, ground := Ground.textOnly Departure.lateStores }, { on := 7, ground := Ground.phase }], guard := none }) 25 _ _ rfl _ (A.cells Q) ?_ ?_ 25 _ hZ (A.info25 _) (by kernel_rfl) (A.one_cells _) ?_
        · rfl
        · rfl
        replace hZ := hZ.row (A.cells Q)
        have hN := (show (fun w' => A.Al s P #[.int .i64 k0, .int .i64 op0, .int .i64 a0, .int .i64 b0, .int .i64 c0, .int .i64 i0, .bool u0] B B8 B10 w w' ∧ Has B12 (A.cells Q) 25 w') _ from ⟨hHeld.1.row lS lJ l8 l10 lK (A.cells Q), hHeld.2.rowOther (Nat.ne_of_lt lm) (A.cells Q)⟩)
        clear hHeld
        refine hK.out _ _ hN (fun hHeld => ?_)
        clear hK K hN
        try simp only [Act.put, List.setIfInBounds_toArray, List.set_cons_zero, List.set_cons_succ]
        refine wpAnyH_take (i := 9) (oi := { dst := some 15, op := Op.assign (Operand.tmp 43), type := 3, pos := "law.go:25", after := #[{ on := 6, ground := Ground.data }, { on := 8, ground := Ground.chain }, { on := 0, ground := Ground.phase }, { on := 1, ground := Ground.phase }, { on := 2, ground := Ground.phase }, { on := 3, ground := Ground.phase }, { on := 4, ground := Ground.phase }, { on := 5, ground := Ground.phase }, { on := 6, ground := Ground.phase }, { on := 7, ground := Ground.phase }, { on := 8, ground := Ground.phase }], guard := none }) (v := ?_) rfl (by kernel_rfl) (by kernel_rfl) (by kernel_rfl) (fun _ _ _ h => h) (Or.inl ⟨rfl, ?_⟩) hHeld ?_
        rotate_left
        · (intro wz hSw; (try dsimp only at hSw); go_simp; try with_reducible rfl)
        try simp only [Act.put, List.setIfInBounds_toArray, List.set_cons_zero, List.set_cons_succ]
        refine wpAnyH_done (by kernel_rfl) ?_ _
        generalize World.setRow _ _ _ = wF at hHeld hZ
        go_wp2_with fail
        go_meet
        case rel => exact ⟨_, rfl, rfl, Lib.hid hHeld.1, Lib.hid hHeld.2, Lib.hid hZ⟩
      · have lS := hHeld.1.hS.lt
        have lJ := hHeld.1.hJ.lt
        have l8 := hHeld.1.h8.lt
        have l10 := hHeld.1.h10.lt
        have lK := hHeld.1.kept.size
        have lm := hHeld.2.lt
        go_simp
        have hZ := Has.new #[.int .u32 0, .int .u32 0, .int .u32 0, .int .u32 0, .int .u32 0, .int .u32 0, .int .u32 0, .int .u32 0, .int .u32 0, .int .u32 0, .int .u32 0, .int .u32 0, .int .u32 0, .int .u32 0, .int .u32 0, .int .u32 0, .int .u32 0, .bool false, .bool false, .bool false, .bool false] 25 wf
        have hN := (show (fun w' => A.Al s P #[.int .i64 k0, .int .i64 op0, .int .i64 a0, .int .i64 b0, .int .i64 c0, .int .i64 i0, .bool u0] B B8 B10 w w' ∧ Has B12 (A.cells Q) 25 w') _ from ⟨hHeld.1.step ((Kept.refl _).alloc #[.int .u32 0, .int .u32 0, .int .u32 0, .int .u32 0, .int .u32 0, .int .u32 0, .int .u32 0, .int .u32 0, .int .u32 0, .int .u32 0, .int .u32 0, .int .u32 0, .int .u32 0, .int .u32 0, .int .u32 0, .int .u32 0, .int .u32 0, .bool false, .bool false, .bool false, .bool false] 25), hHeld.2.kept ((Kept.refl _).alloc #[.int .u32 0, .int .u32 0, .int .u32 0, .int .u32 0, .int .u32 0, .int .u32 0, .int .u32 0, .int .u32 0, .int .u32 0, .int .u32 0, .int .u32 0, .int .u32 0, .int .u32 0, .int .u32 0, .int .u32 0, .int .u32 0, .int .u32 0, .bool false, .bool false, .bool false, .bool false] 25)⟩)
        clear hHeld
        refine hK.out _ _ hN (fun hHeld => ?_)
        clear hK K hN
        try simp only [Act.put, List.setIfInBounds_toArray, List.set_cons_zero, List.set_cons_succ]
        refine wpAnyH_ready (rs := [3]) (by kernel_rfl) (by simp) ?_
        refine AllReadyH.cons (o := { dst := some 41, op := Op.call { callee := Callee.value (Operand.func 12), args := #[Operand.tmp 38, Operand.tmp 40], argTypes := #[25, 27] }, type := 29, pos := "law.go:25", after := #[{ on := 0, ground := Ground.data }, { on := 2, ground := Ground.data }, { on := 2, ground := Ground.chain }], guard := none }) rfl (fun K hK => ?_) (AllReadyH.nil)
        go_simp
        go_at_call 12
        refine (C4.out _).mono ?_
        rintro e wd ⟨rfl, hK5⟩
        replace hZ := hZ.kept hK5
        have hN := (show (fun w' => A.Al s P #[.int .i64 k0, .int .i64 op0, .int .i64 a0, .int .i64 b0, .int .i64 c0, .int .i64 i0, .bool u0] B B8 B10 w w' ∧ Has B12 (A.cells Q) 25 w') _ from ⟨hHeld.1.step hK5, hHeld.2.kept hK5⟩)
        clear hHeld
        refine hK.out _ _ hN (fun hHeld => ?_)
        clear hK K hN
        try simp only [Act.put, List.setIfInBounds_toArray, List.set_cons_zero, List.set_cons_succ]
        refine wpAnyH_take (i := 4) (oi := { dst := some 37, op := Op.move (Operand.tmp 41), type := 29, pos := "law.go:25", after := #[{ on := 3, ground := Ground.data }], guard := none }) (v := ?_) rfl (by kernel_rfl) (by kernel_rfl) (by kernel_rfl) (fun _ _ _ h => h) (Or.inl ⟨rfl, ?_⟩) hHeld ?_
        rotate_left
        · (intro wz hSw; (try dsimp only at hSw); go_simp; try with_reducible rfl)
        try simp only [Act.put, List.setIfInBounds_toArray, List.set_cons_zero, List.set_cons_succ]
        refine wpAnyH_take (i := 5) (oi := { dst := some 42, op := Op.extract (Operand.tmp 37) 0, type := 25, pos := "law.go:25", after := #[{ on := 4, ground := Ground.data }], guard := none }) (v := ?_) rfl (by kernel_rfl) (by kernel_rfl) (by kernel_rfl) (fun _ _ _ h => h) (Or.inl ⟨rfl, ?_⟩) hHeld ?_
        rotate_left
        · (intro wz hSw; (try dsimp only at hSw); go_simp; try with_reducible rfl)
        try simp only [Act.put, List.setIfInBounds_toArray, List.set_cons_zero, List.set_cons_succ]
        refine wpAnyH_take (i := 6) (oi := { dst := some 43, op := Op.extract (Operand.tmp 37) 1, type := 3, pos := "law.go:25", after := #[{ on := 4, ground := Ground.data }, { on := 8, ground := Ground.gcOnly Departure.lateStores }], guard := none }) (v := ?_) rfl (by kernel_rfl) (by kernel_rfl) (by kernel_rfl) (fun _ _ _ h => h) (Or.inl ⟨rfl, ?_⟩) hHeld ?_
        rotate_left
        · (intro wz hSw; (try dsimp only at hSw); go_simp; try with_reducible rfl)
        try simp only [Act.put, List.setIfInBounds_toArray, List.set_cons_zero, List.set_cons_succ]
        refine wpAnyH_ready (rs := [8]) (by kernel_rfl) (by simp) ?_
        refine AllReadyH.cons (o := { dst := none, op := Op.store 25 (Operand.tmp 14) (Operand.tmp 42), type := 0, pos := "law.go:25", after := #[{ on := 7, ground := Ground.data }, { on := 5, ground := Ground.data }, { on := 3, ground := Ground.chain }, { on := 0, ground := Ground.phase }, { on := 1, ground := Ground.phase }, { on := 2, ground := Ground.phase }, { on := 3, ground := Ground.phase }, { on := 4, ground := Ground.phase }, { on := 5, ground := Ground.phase }, { on := 6, ground := Ground.textOnly Departure.lateStores }, { on := 7, ground := Ground.phase }], guard := none }) rfl (fun K hK => ?_) (AllReadyH.nil)
        refine wp_store_row (o := { dst := none, op := Op.store 25 (Operand.tmp 14) (Operand.tmp 42), type := 0, pos := "law.go:25", after := #[{ on := 7, ground := Ground.data }, { on := 5, ground := Ground.data }, { on := 3, ground := Ground.chain }, { on := 0, ground := Ground.phase }, { on := 1, ground := Ground.phase }, { on := 2, ground := Ground.phase }, { on := 3, ground := Ground.phase }, { on := 4, ground := Ground.phase }, { on := 5, ground := Ground.phase }, { on := 6, ground := Ground.textOnly Departure.lateStores }, { on := 7, ground := Ground.phase }], guard := none }) 25 _ _ rfl _ (A.cells Q) ?_ ?_ 25 _ hZ (A.info25 _) (by kernel_rfl) (A.one_cells _) ?_
        · rfl
        · rfl
        replace hZ := hZ.row (A.cells Q)
        have hN := (show (fun w' => A.Al s P #[.int .i64 k0, .int .i64 op0, .int .i64 a0, .int .i64 b0, .int .i64 c0, .int .i64 i0, .bool u0] B B8 B10 w w' ∧ Has B12 (A.cells Q) 25 w') _ from ⟨hHeld.1.row lS lJ l8 l10 lK (A.cells Q), hHeld.2.rowOther (Nat.ne_of_lt lm) (A.cells Q)⟩)
        clear hHeld
        refine hK.out _ _ hN (fun hHeld => ?_)
        clear hK K hN
        try simp only [Act.put, List.setIfInBounds_toArray, List.set_cons_zero, List.set_cons_succ]
        refine wpAnyH_take (i := 9) (oi := { dst := some 15, op := Op.assign (Operand.tmp 43), type := 3, pos := "law.go:25", after := #[{ on := 6, ground := Ground.data }, { on := 8, ground := Ground.chain }, { on := 0, ground := Ground.phase }, { on := 1, ground := Ground.phase }, { on := 2, ground := Ground.phase }, { on := 3, ground := Ground.phase }, { on := 4, ground := Ground.phase }, { on := 5, ground := Ground.phase }, { on := 6, ground := Ground.phase }, { on := 7, ground := Ground.phase }, { on := 8, ground := Ground.phase }], guard := none }) (v := ?_) rfl (by kernel_rfl) (by kernel_rfl) (by kernel_rfl) (fun _ _ _ h => h) (Or.inl ⟨rfl, ?_⟩) hHeld ?_
        rotate_left
        · (intro wz hSw; (try dsimp only at hSw); go_simp; try with_reducible rfl)
        try simp only [Act.put, List.setIfInBounds_toArray, List.set_cons_zero, List.set_cons_succ]
        refine wpAnyH_done (by kernel_rfl) ?_ _
        generalize World.setRow _ _ _ = wF at hHeld hZ
        go_wp2_with fail
        go_meet
        case rel => exact ⟨_, rfl, rfl, Lib.hid hHeld.1, Lib.hid hHeld.2, Lib.hid hZ⟩
    · have lS := hHeld.1.hS.lt
      have lJ := hHeld.1.hJ.lt
      have l8 := hHeld.1.h8.lt
      have l10 := hHeld.1.h10.lt
      have lK := hHeld.1.kept.size
      have lm := hHeld.2.lt
      go_simp
      have hZ := Has.new #[.int .u32 0, .int .u32 0, .int .u32 0, .int .u32 0, .int .u32 0, .int .u32 0, .int .u32 0, .int .u32 0, .int .u32 0, .int .u32 0, .int .u32 0, .int .u32 0, .int .u32 0, .int .u32 0, .int .u32 0, .int .u32 0, .int .u32 0, .bool false, .bool false, .bool false, .bool false] 25 wc.drew
      have hN := (show (fun w' => A.Al s P #[.int .i64 k0, .int .i64 op0, .int .i64 a0, .int .i64 b0, .int .i64 c0, .int .i64 i0, .bool u0] B B8 B10 w w' ∧ Has B12 (A.cells Q) 25 w') _ from ⟨hHeld.1.step ((Kept.refl _).alloc #[.int .u32 0, .int .u32 0, .int .u32 0, .int .u32 0, .int .u32 0, .int .u32 0, .int .u32 0, .int .u32 0, .int .u32 0, .int .u32 0, .int .u32 0, .int .u32 0, .int .u32 0, .int .u32 0, .int .u32 0, .int .u32 0, .int .u32 0, .bool false, .bool false, .bool false, .bool false] 25), hHeld.2.kept ((Kept.refl _).alloc #[.int .u32 0, .int .u32 0, .int .u32 0, .int .u32 0, .int .u32 0, .int .u32 0, .int .u32 0, .int .u32 0, .int .u32 0, .int .u32 0, .int .u32 0, .int .u32 0, .int .u32 0, .int .u32 0, .int .u32 0, .int .u32 0, .int .u32 0, .bool false, .bool false, .bool false, .bool false] 25)⟩)
      clear hHeld
      refine hK.out _ _ hN (fun hHeld => ?_)
      clear hK K hN
      try simp only [Act.put, List.setIfInBounds_toArray, List.set_cons_zero, List.set_cons_succ]
      refine wpAnyH_ready (rs := [2]) (by kernel_rfl) (by simp) ?_
      refine AllReadyH.cons (o := { dst := some 40, op := Op.call { callee := Callee.value (Operand.func 13), args := #[Operand.tmp 39], argTypes := #[27] }, type := 27, pos := "law.go:25", after := #[{ on := 1, ground := Ground.data }], guard := none }) rfl (fun K hK => ?_) (AllReadyH.nil)
      go_simp
      go_at_call 13
      refine (CF.out _).mono ?_
      rintro e wf ⟨rfl, hK5⟩
      replace hZ := hZ.kept hK5
      have hN := (show (fun w' => A.Al s P #[.int .i64 k0, .int .i64 op0, .int .i64 a0, .int .i64 b0, .int .i64 c0, .int .i64 i0, .bool u0] B B8 B10 w w' ∧ Has B12 (A.cells Q) 25 w') _ from ⟨hHeld.1.step hK5, hHeld.2.kept hK5⟩)
      clear hHeld
      refine hK.out _ _ hN (fun hHeld => ?_)
      clear hK K hN
      try simp only [Act.put, List.setIfInBounds_toArray, List.set_cons_zero, List.set_cons_succ]
      refine wpAnyH_ready (rs := [3]) (by kernel_rfl) (by simp) ?_
      refine AllReadyH.cons (o := { dst := some 41, op := Op.call { callee := Callee.value (Operand.func 12), args := #[Operand.tmp 38, Operand.tmp 40], argTypes := #[25, 27] }, type := 29, pos := "law.go:25", after := #[{ on := 0, ground := Ground.data }, { on := 2, ground := Ground.data }, { on := 2, ground := Ground.chain }], guard := none }) rfl (fun K hK => ?_) (AllReadyH.nil)
      go_simp
      go_at_call 12
      refine (C4.out _).mono ?_
      rintro e wd ⟨rfl, hK5⟩
      replace hZ := hZ.kept hK5
      have hN := (show (fun w' => A.Al s P #[.int .i64 k0, .int .i64 op0, .int .i64 a0, .int .i64 b0, .int .i64 c0, .int .i64 i0, .bool u0] B B8 B10 w w' ∧ Has B12 (A.cells Q) 25 w') _ from ⟨hHeld.1.step hK5, hHeld.2.kept hK5⟩)
      clear hHeld
      refine hK.out _ _ hN (fun hHeld => ?_)
      clear hK K hN
      try simp only [Act.put, List.setIfInBounds_toArray, List.set_cons_zero, List.set_cons_succ]
      refine wpAnyH_take (i := 4) (oi := { dst := some 37, op := Op.move (Operand.tmp 41), type := 29, pos := "law.go:25", after := #[{ on := 3, ground := Ground.data }], guard := none }) (v := ?_) rfl (by kernel_rfl) (by kernel_rfl) (by kernel_rfl) (fun _ _ _ h => h) (Or.inl ⟨rfl, ?_⟩) hHeld ?_
      rotate_left
      · (intro wz hSw; (try dsimp only at hSw); go_simp; try with_reducible rfl)
      try simp only [Act.put, List.setIfInBounds_toArray, List.set_cons_zero, List.set_cons_succ]
      refine wpAnyH_take (i := 5) (oi := { dst := some 42, op := Op.extract (Operand.tmp 37) 0, type := 25, pos := "law.go:25", after := #[{ on := 4, ground := Ground.data }], guard := none }) (v := ?_) rfl (by kernel_rfl) (by kernel_rfl) (by kernel_rfl) (fun _ _ _ h => h) (Or.inl ⟨rfl, ?_⟩) hHeld ?_
      rotate_left
      · (intro wz hSw; (try dsimp only at hSw); go_simp; try with_reducible rfl)
      try simp only [Act.put, List.setIfInBounds_toArray, List.set_cons_zero, List.set_cons_succ]
      refine wpAnyH_take (i := 6) (oi := { dst := some 43, op := Op.extract (Operand.tmp 37) 1, type := 3, pos := "law.go:25", after := #[{ on := 4, ground := Ground.data }, { on := 8, ground := Ground.gcOnly Departure.lateStores }], guard := none }) (v := ?_) rfl (by kernel_rfl) (by kernel_rfl) (by kernel_rfl) (fun _ _ _ h => h) (Or.inl ⟨rfl, ?_⟩) hHeld ?_
      rotate_left
      · (intro wz hSw; (try dsimp only at hSw); go_simp; try with_reducible rfl)
      try simp only [Act.put, List.setIfInBounds_toArray, List.set_cons_zero, List.set_cons_succ]
      refine wpAnyH_ready (rs := [8]) (by kernel_rfl) (by simp) ?_
      refine AllReadyH.cons (o := { dst := none, op := Op.store 25 (Operand.tmp 14) (Operand.tmp 42), type := 0, pos := "law.go:25", after := #[{ on := 7, ground := Ground.data }, { on := 5, ground := Ground.data }, { on := 3, ground := Ground.chain }, { on := 0, ground := Ground.phase }, { on := 1, ground := Ground.phase }, { on := 2, ground := Ground.phase }, { on := 3, ground := Ground.phase }, { on := 4, ground := Ground.phase }, { on := 5, ground := Ground.phase }, { on := 6, ground := Ground.textOnly Departure.lateStores }, { on := 7, ground := Ground.phase }], guard := none }) rfl (fun K hK => ?_) (AllReadyH.nil)
      refine wp_store_row (o := { dst := none, op := Op.store 25 (Operand.tmp 14) (Operand.tmp 42), type := 0, pos := "law.go:25", after := #[{ on := 7, ground := Ground.data }, { on := 5, ground := Ground.data }, { on := 3, ground := Ground.chain }, { on := 0, ground := Ground.phase }, { on := 1, ground := Ground.phase }, { on := 2, ground := Ground.phase }, { on := 3, ground := Ground.phase }, { on := 4, ground := Ground.phase }, { on := 5, ground := Ground.phase }, { on := 6, ground := Ground.textOnly Departure.lateStores }, { on := 7, ground := Ground.phase }], guard := none }) 25 _ _ rfl _ (A.cells Q) ?_ ?_ 25 _ hZ (A.info25 _) (by kernel_rfl) (A.one_cells _) ?_
      · rfl
      · rfl
      replace hZ := hZ.row (A.cells Q)
      have hN := (show (fun w' => A.Al s P #[.int .i64 k0, .int .i64 op0, .int .i64 a0, .int .i64 b0, .int .i64 c0, .int .i64 i0, .bool u0] B B8 B10 w w' ∧ Has B12 (A.cells Q) 25 w') _ from ⟨hHeld.1.row lS lJ l8 l10 lK (A.cells Q), hHeld.2.rowOther (Nat.ne_of_lt lm) (A.cells Q)⟩)
      clear hHeld
      refine hK.out _ _ hN (fun hHeld => ?_)
      clear hK K hN
      try simp only [Act.put, List.setIfInBounds_toArray, List.set_cons_zero, List.set_cons_succ]
      refine wpAnyH_take (i := 9) (oi := { dst := some 15, op := Op.assign (Operand.tmp 43), type := 3, pos := "law.go:25", after := #[{ on := 6, ground := Ground.data }, { on := 8, ground := Ground.chain }, { on := 0, ground := Ground.phase }, { on := 1, ground := Ground.phase }, { on := 2, ground := Ground.phase }, { on := 3, ground := Ground.phase }, { on := 4, ground := Ground.phase }, { on := 5, ground := Ground.phase }, { on := 6, ground := Ground.phase }, { on := 7, ground := Ground.phase }, { on := 8, ground := Ground.phase }], guard := none }) (v := ?_) rfl (by kernel_rfl) (by kernel_rfl) (by kernel_rfl) (fun _ _ _ h => h) (Or.inl ⟨rfl, ?_⟩) hHeld ?_
      rotate_left
      · (intro wz hSw; (try dsimp only at hSw); go_simp; try with_reducible rfl)
      try simp only [Act.put, List.setIfInBounds_toArray, List.set_cons_zero, List.set_cons_succ]
      refine wpAnyH_done (by kernel_rfl) ?_ _
      generalize World.setRow _ _ _ = wF at hHeld hZ
      go_wp2_with fail
      go_meet
      case rel => exact ⟨_, rfl, rfl, Lib.hid hHeld.1, Lib.hid hHeld.2, Lib.hid hZ⟩
  obtain ⟨B14, rfl, rfl, hM3, h12b, h14⟩ := hcut
  clear hM2 h12
  go_wp2_with fail
  go_loopw [16] (fun i wr => ∃ z : Int, -1 ≤ z ∧ z ≤ 17 ∧ i = .int .i64 z ∧ Hid (A.Al s P #[.int .i64 k0, .int .i64 op0, .int .i64 a0, .int .i64 b0, .int .i64 c0, .int .i64 i0, .bool u0] B B8 B10 w wr) ∧ Hid (Has B12 (A.cells Q) 25 wr) ∧ Hid (Has B14 (A.cells Q) 25 wr)) (fun i _ => (17 - intOf i).toNat)
  case atStart => exact ⟨-1, by omega, by omega, rfl, hM3, h12b, h14⟩
  case round =>
    clear hM3 h12b h14
    obtain ⟨z, z0, z1, rfl, hM, h12, h14⟩ := hrel
    by_cases hz : z < 17
    · go_upto_region 9 with (fail)
      refine wp_region_held_drew (S := fun w' => A.Al s P #[.int .i64 k0, .int .i64 op0, .int .i64 a0, .int .i64 b0, .int .i64 c0, .int .i64 i0, .bool u0] B B8 B10 w w' ∧ Has B12 (A.cells Q) 25 w' ∧ Has B14 (A.cells Q) 25 w') (by kernel_rfl) ?_ (fun hHeld => ?_)
      · exact ⟨hM.out.step (Kept.refl _).drew, h12.out.drew, h14.out.drew⟩
      refine wpAnyH_take (i := 0) (oi := { dst := some 48, op := Op.load 25 (Operand.tmp 3), type := 25, pos := "law.go:27", after := #[], guard := none }) (v := ?_) rfl (by kernel_rfl) (by kernel_rfl) (by kernel_rfl) (fun _ _ _ h => h) (Or.inl ⟨rfl, ?_⟩) hHeld ?_
      rotate_left
      · (intro wz hSw; refine exec_load_has 25 (Operand.tmp 3) ?_ _ ?_ hSw.1.hS Try.underlying25 rfl (A.info25 _) <;> rfl)
      try simp only [Act.put, List.setIfInBounds_toArray, List.set_cons_zero, List.set_cons_succ]
      refine wpAnyH_take (i := 1) (oi := { dst := some 49, op := Op.move (Operand.tmp 16), type := 3, pos := "law.go:27", after := #[], guard := none }) (v := ?_) rfl (by kernel_rfl) (by kernel_rfl) (by kernel_rfl) (fun _ _ _ h => h) (Or.inl ⟨rfl, ?_⟩) hHeld ?_
      rotate_left
      · (intro wz hSw; (try dsimp only at hSw); go_simp; try with_reducible rfl)
      try simp only [Act.put, List.setIfInBounds_toArray, List.set_cons_zero, List.set_cons_succ]
      refine wpAnyH_take (i := 3) (oi := { dst := some 51, op := Op.load 25 (Operand.tmp 3), type := 25, pos := "law.go:27", after := #[], guard := none }) (v := ?_) rfl (by kernel_rfl) (by kernel_rfl) (by kernel_rfl) (fun _ _ _ h => h) (Or.inl ⟨rfl, ?_⟩) hHeld ?_
      rotate_left
      · (intro wz hSw; refine exec_load_has 25 (Operand.tmp 3) ?_ _ ?_ hSw.1.hS Try.underlying25 rfl (A.info25 _) <;> rfl)
      try simp only [Act.put, List.setIfInBounds_toArray, List.set_cons_zero, List.set_cons_succ]
      refine wpAnyH_take (i := 4) (oi := { dst := some 52, op := Op.move (Operand.tmp 16), type := 3, pos := "law.go:27", after := #[], guard := none }) (v := ?_) rfl (by kernel_rfl) (by kernel_rfl) (by kernel_rfl) (fun _ _ _ h => h) (Or.inl ⟨rfl, ?_⟩) hHeld ?_
      rotate_left
      · (intro wz hSw; (try dsimp only at hSw); go_simp; try with_reducible rfl)
      try simp only [Act.put, List.setIfInBounds_toArray, List.set_cons_zero, List.set_cons_succ]
      refine wpAnyH_ready (rs := [2]) (by kernel_rfl) (by simp) ?_
      refine AllReadyH.cons (o := { dst := some 50, op := Op.call { callee := Callee.value (Operand.func 14), args := #[Operand.tmp 48, Operand.tmp 49], argTypes := #[25, 3] }, type := 4, pos := "law.go:27", after := #[{ on := 0, ground := Ground.data }, { on := 1, ground := Ground.data }], guard := none }) rfl (fun K hK => ?_) (AllReadyH.nil)
      go_simp
      go_at_call 14
      refine (KT.out _ _).mono ?_
      rintro e w5a ⟨rfl, hK5⟩
      have hN := (show (fun w' => A.Al s P #[.int .i64 k0, .int .i64 op0, .int .i64 a0, .int .i64 b0, .int .i64 c0, .int .i64 i0, .bool u0] B B8 B10 w w' ∧ Has B12 (A.cells Q) 25 w' ∧ Has B14 (A.cells Q) 25 w') _ from ⟨hHeld.1.step hK5, hHeld.2.1.kept hK5, hHeld.2.2.kept hK5⟩)
      clear hHeld
      refine hK.out _ _ hN (fun hHeld => ?_)
      clear hK K hN
      try simp only [Act.put, List.setIfInBounds_toArray, List.set_cons_zero, List.set_cons_succ]
      refine wpAnyH_ready (rs := [5]) (by kernel_rfl) (by simp) ?_
      refine AllReadyH.cons (o := { dst := some 53, op := Op.call { callee := Callee.value (Operand.func 15), args := #[Operand.tmp 51, Operand.tmp 52], argTypes := #[25, 3] }, type := 4, pos := "law.go:27", after := #[{ on := 3, ground := Ground.data }, { on := 4, ground := Ground.data }, { on := 2, ground := Ground.chain }], guard := none }) rfl (fun K hK => ?_) (AllReadyH.nil)
      go_simp
      go_at_call 15
      refine (KR.out _ _).mono ?_
      rintro e w5b ⟨rfl, hK5⟩
      have hN := (show (fun w' => A.Al s P #[.int .i64 k0, .int .i64 op0, .int .i64 a0, .int .i64 b0, .int .i64 c0, .int .i64 i0, .bool u0] B B8 B10 w w' ∧ Has B12 (A.cells Q) 25 w' ∧ Has B14 (A.cells Q) 25 w') _ from ⟨hHeld.1.step hK5, hHeld.2.1.kept hK5, hHeld.2.2.kept hK5⟩)
      clear hHeld
      refine hK.out _ _ hN (fun hHeld => ?_)
      clear hK K hN
      try simp only [Act.put, List.setIfInBounds_toArray, List.set_cons_zero, List.set_cons_succ]
      refine wpAnyH_take (i := 6) (oi := { dst := some 54, op := Op.binOp BinOp.neq 4 (Operand.tmp 50) (Operand.tmp 53) 4, type := 4, pos := "law.go:27", after := #[{ on := 2, ground := Ground.data }, { on := 5, ground := Ground.data }], guard := none }) (v := ?_) rfl (by kernel_rfl) (by kernel_rfl) (by kernel_rfl) (fun _ _ _ h => h) (Or.inl ⟨rfl, ?_⟩) hHeld ?_
      rotate_left
      · (intro wz hSw; (try dsimp only at hSw); go_simp; try with_reducible rfl)
      try simp only [Act.put, List.setIfInBounds_toArray, List.set_cons_zero, List.set_cons_succ]
      refine wpAnyH_done (by kernel_rfl) ?_ _
      go_wp2_with fail
      go_roundw
      case rel => exact ⟨z + 1, by omega, by omega, by go_num, Lib.hid hHeld.1, Lib.hid hHeld.2.1, Lib.hid hHeld.2.2⟩
      case measure => simp [intOf]; omega
    · go_upto_region 11 with (fail)
      refine wp_region_held_drew (S := fun w' => A.Al s P #[.int .i64 k0, .int .i64 op0, .int .i64 a0, .int .i64 b0, .int .i64 c0, .int .i64 i0, .bool u0] B B8 B10 w w' ∧ Has B12 (A.cells Q) 25 w' ∧ Has B14 (A.cells Q) 25 w') (by kernel_rfl) ?_ (fun hHeld => ?_)
      · exact ⟨hM.out.step (Kept.refl _).drew, h12.out.drew, h14.out.drew⟩
      refine wpAnyH_take (i := 0) (oi := { dst := some 55, op := Op.move (Operand.tmp 7), type := 4, pos := "law.go:31", after := #[], guard := none }) (v := ?_) rfl (by kernel_rfl) (by kernel_rfl) (by kernel_rfl) (fun _ _ _ h => h) (Or.inl ⟨rfl, ?_⟩) hHeld ?_
      rotate_left
      · (intro wz hSw; (try dsimp only at hSw); go_simp; try with_reducible rfl)
      try simp only [Act.put, List.setIfInBounds_toArray, List.set_cons_zero, List.set_cons_succ]
      refine wpAnyH_take (i := 1) (oi := { dst := some 56, op := Op.move (Operand.tmp 55), type := 4, pos := "law.go:31", after := #[{ on := 0, ground := Ground.data }], guard := none }) (v := ?_) rfl (by kernel_rfl) (by kernel_rfl) (by kernel_rfl) (fun _ _ _ h => h) (Or.inl ⟨rfl, ?_⟩) hHeld ?_
      rotate_left
      · (intro wz hSw; (try dsimp only at hSw); go_simp; try with_reducible rfl)
      try simp only [Act.put, List.setIfInBounds_toArray, List.set_cons_zero, List.set_cons_succ]
      refine wpAnyH_take (i := 2) (oi := { dst := some 57, op := Op.load 25 (Operand.tmp 8), type := 25, pos := "law.go:31", after := #[{ on := 1, ground := Ground.guard }], guard := some (1, true) }) (v := ?_) rfl (by kernel_rfl) (by kernel_rfl) (by kernel_rfl) (fun _ _ _ h => h) (Or.inl ⟨rfl, ?_⟩) hHeld ?_
      rotate_left
      · (intro wz hSw; refine exec_load_has 25 (Operand.tmp 8) ?_ _ ?_ hSw.1.h8 Try.underlying25 rfl (A.info25 _) <;> rfl)
      try simp only [Act.put, List.setIfInBounds_toArray, List.set_cons_zero, List.set_cons_succ]
      refine wpAnyH_take (i := 3) (oi := { dst := some 58, op := Op.load 25 (Operand.tmp 10), type := 25, pos := "law.go:31", after := #[{ on := 1, ground := Ground.guard }], guard := some (1, true) }) (v := ?_) rfl (by kernel_rfl) (by kernel_rfl) (by kernel_rfl) (fun _ _ _ h => h) (Or.inl ⟨rfl, ?_⟩) hHeld ?_
      rotate_left
      · (intro wz hSw; refine exec_load_has 25 (Operand.tmp 10) ?_ _ ?_ hSw.1.h10 Try.underlying25 rfl (A.info25 _) <;> rfl)
      try simp only [Act.put, List.setIfInBounds_toArray, List.set_cons_zero, List.set_cons_succ]
      refine wpAnyH_take (i := 4) (oi := { dst := some 59, op := Op.binOp BinOp.eql 25 (Operand.tmp 57) (Operand.tmp 58) 25, type := 4, pos := "law.go:31", after := #[{ on := 2, ground := Ground.data }, { on := 3, ground := Ground.data }, { on := 1, ground := Ground.guard }], guard := some (1, true) }) (v := ?_) rfl (by kernel_rfl) (by kernel_rfl) (by kernel_rfl) (fun _ _ _ h => h) (Or.inl ⟨rfl, ?_⟩) hHeld ?_
      rotate_left
      · (intro wz hSw; refine exec_eq_regs (o := { dst := some 59, op := Op.binOp BinOp.eql 25 (Operand.tmp 57) (Operand.tmp 58) 25, type := 4, pos := "law.go:31", after := #[{ on := 2, ground := Ground.data }, { on := 3, ground := Ground.data }, { on := 1, ground := Ground.guard }], guard := some (1, true) }) (.tmp 57) (.tmp 58) rfl P ?_ ?_ <;> rfl)
      try simp only [Act.put, List.setIfInBounds_toArray, List.set_cons_zero, List.set_cons_succ]
      refine wpAnyH_take (i := 5) (oi := { dst := some 60, op := Op.pick (Operand.tmp 56) (Operand.tmp 59) (Operand.const (Value.bool false)), type := 4, pos := "law.go:31", after := #[{ on := 1, ground := Ground.data }, { on := 4, ground := Ground.data }], guard := none }) (v := ?_) rfl (by kernel_rfl) (by kernel_rfl) (by kernel_rfl) (fun _ _ _ h => h) (Or.inl ⟨rfl, ?_⟩) hHeld ?_
      rotate_left
      · (intro wz hSw; (try dsimp only at hSw); go_simp; try with_reducible rfl)
      try simp only [Act.put, List.setIfInBounds_toArray, List.set_cons_zero, List.set_cons_succ]
      refine wpAnyH_take (i := 6) (oi := { dst := some 61, op := Op.move (Operand.tmp 60), type := 4, pos := "law.go:31", after := #[{ on := 5, ground := Ground.data }, { on := 1, ground := Ground.chain }], guard := none }) (v := ?_) rfl (by kernel_rfl) (by kernel_rfl) (by kernel_rfl) (fun _ _ _ h => h) (Or.inl ⟨rfl, ?_⟩) hHeld ?_
      rotate_left
      · (intro wz hSw; (try dsimp only at hSw); go_simp; try with_reducible rfl)
      try simp only [Act.put, List.setIfInBounds_toArray, List.set_cons_zero, List.set_cons_succ]
      refine wpAnyH_take (i := 7) (oi := { dst := some 62, op := Op.move (Operand.tmp 9), type := 3, pos := "law.go:31", after := #[{ on := 6, ground := Ground.guard }], guard := some (6, true) }) (v := ?_) rfl (by kernel_rfl) (by kernel_rfl) (by kernel_rfl) (fun _ _ _ h => h) (Or.inl ⟨rfl, ?_⟩) hHeld ?_
      rotate_left
      · (intro wz hSw; (try dsimp only at hSw); go_simp; try with_reducible rfl)
      try simp only [Act.put, List.setIfInBounds_toArray, List.set_cons_zero, List.set_cons_succ]
      refine wpAnyH_take (i := 8) (oi := { dst := some 63, op := Op.move (Operand.tmp 11), type := 3, pos := "law.go:31", after := #[{ on := 6, ground := Ground.guard }], guard := some (6, true) }) (v := ?_) rfl (by kernel_rfl) (by kernel_rfl) (by kernel_rfl) (fun _ _ _ h => h) (Or.inl ⟨rfl, ?_⟩) hHeld ?_
      rotate_left
      · (intro wz hSw; (try dsimp only at hSw); go_simp; try with_reducible rfl)
      try simp only [Act.put, List.setIfInBounds_toArray, List.set_cons_zero, List.set_cons_succ]
      refine wpAnyH_take (i := 9) (oi := { dst := some 64, op := Op.binOp BinOp.eql 3 (Operand.tmp 62) (Operand.tmp 63) 3, type := 4, pos := "law.go:31", after := #[{ on := 7, ground := Ground.data }, { on := 8, ground := Ground.data }, { on := 6, ground := Ground.guard }], guard := some (6, true) }) (v := ?_) rfl (by kernel_rfl) (by kernel_rfl) (by kernel_rfl) (fun _ _ _ h => h) (Or.inl ⟨rfl, ?_⟩) hHeld ?_
      rotate_left
      · (intro wz hSw; (try dsimp only at hSw); go_simp; try with_reducible rfl)
      try simp only [Act.put, List.setIfInBounds_toArray, List.set_cons_zero, List.set_cons_succ]
      refine wpAnyH_take (i := 10) (oi := { dst := some 65, op := Op.pick (Operand.tmp 61) (Operand.tmp 64) (Operand.const (Value.bool false)), type := 4, pos := "law.go:31", after := #[{ on := 6, ground := Ground.data }, { on := 9, ground := Ground.data }], guard := none }) (v := ?_) rfl (by kernel_rfl) (by kernel_rfl) (by kernel_rfl) (fun _ _ _ h => h) (Or.inl ⟨rfl, ?_⟩) hHeld ?_
      rotate_left
      · (intro wz hSw; (try dsimp only at hSw); go_simp; try with_reducible rfl)
      try simp only [Act.put, List.setIfInBounds_toArray, List.set_cons_zero, List.set_cons_succ]
      refine wpAnyH_take (i := 11) (oi := { dst := some 66, op := Op.move (Operand.tmp 65), type := 4, pos := "law.go:31", after := #[{ on := 10, ground := Ground.data }, { on := 6, ground := Ground.chain }], guard := none }) (v := ?_) rfl (by kernel_rfl) (by kernel_rfl) (by kernel_rfl) (fun _ _ _ h => h) (Or.inl ⟨rfl, ?_⟩) hHeld ?_
      rotate_left
      · (intro wz hSw; (try dsimp only at hSw); go_simp; try with_reducible rfl)
      try simp only [Act.put, List.setIfInBounds_toArray, List.set_cons_zero, List.set_cons_succ]
      refine wpAnyH_take (i := 12) (oi := { dst := some 67, op := Op.load 25 (Operand.tmp 12), type := 25, pos := "law.go:31", after := #[{ on := 11, ground := Ground.guard }], guard := some (11, true) }) (v := ?_) rfl (by kernel_rfl) (by kernel_rfl) (by kernel_rfl) (fun _ _ _ h => h) (Or.inl ⟨rfl, ?_⟩) hHeld ?_
      rotate_left
      · (intro wz hSw; refine exec_load_has 25 (Operand.tmp 12) ?_ _ ?_ hSw.2.1 Try.underlying25 rfl (A.info25 _) <;> rfl)
      try simp only [Act.put, List.setIfInBounds_toArray, List.set_cons_zero, List.set_cons_succ]
      refine wpAnyH_take (i := 13) (oi := { dst := some 68, op := Op.load 25 (Operand.tmp 14), type := 25, pos := "law.go:31", after := #[{ on := 11, ground := Ground.guard }], guard := some (11, true) }) (v := ?_) rfl (by kernel_rfl) (by kernel_rfl) (by kernel_rfl) (fun _ _ _ h => h) (Or.inl ⟨rfl, ?_⟩) hHeld ?_
      rotate_left
      · (intro wz hSw; refine exec_load_has 25 (Operand.tmp 14) ?_ _ ?_ hSw.2.2 Try.underlying25 rfl (A.info25 _) <;> rfl)
      try simp only [Act.put, List.setIfInBounds_toArray, List.set_cons_zero, List.set_cons_succ]
      refine wpAnyH_take (i := 14) (oi := { dst := some 69, op := Op.binOp BinOp.eql 25 (Operand.tmp 67) (Operand.tmp 68) 25, type := 4, pos := "law.go:31", after := #[{ on := 12, ground := Ground.data }, { on := 13, ground := Ground.data }, { on := 11, ground := Ground.guard }], guard := some (11, true) }) (v := ?_) rfl (by kernel_rfl) (by kernel_rfl) (by kernel_rfl) (fun _ _ _ h => h) (Or.inl ⟨rfl, ?_⟩) hHeld ?_
      rotate_left
      · (intro wz hSw; refine exec_eq_regs (o := { dst := some 69, op := Op.binOp BinOp.eql 25 (Operand.tmp 67) (Operand.tmp 68) 25, type := 4, pos := "law.go:31", after := #[{ on := 12, ground := Ground.data }, { on := 13, ground := Ground.data }, { on := 11, ground := Ground.guard }], guard := some (11, true) }) (.tmp 67) (.tmp 68) rfl Q ?_ ?_ <;> rfl)
      try simp only [Act.put, List.setIfInBounds_toArray, List.set_cons_zero, List.set_cons_succ]
      refine wpAnyH_take (i := 15) (oi := { dst := some 70, op := Op.pick (Operand.tmp 66) (Operand.tmp 69) (Operand.const (Value.bool false)), type := 4, pos := "law.go:31", after := #[{ on := 11, ground := Ground.data }, { on := 14, ground := Ground.data }], guard := none }) (v := ?_) rfl (by kernel_rfl) (by kernel_rfl) (by kernel_rfl) (fun _ _ _ h => h) (Or.inl ⟨rfl, ?_⟩) hHeld ?_
      rotate_left
      · (intro wz hSw; (try dsimp only at hSw); go_simp; try with_reducible rfl)
      try simp only [Act.put, List.setIfInBounds_toArray, List.set_cons_zero, List.set_cons_succ]
      refine wpAnyH_take (i := 16) (oi := { dst := some 71, op := Op.move (Operand.tmp 70), type := 4, pos := "law.go:31", after := #[{ on := 15, ground := Ground.data }, { on := 11, ground := Ground.chain }], guard := none }) (v := ?_) rfl (by kernel_rfl) (by kernel_rfl) (by kernel_rfl) (fun _ _ _ h => h) (Or.inl ⟨rfl, ?_⟩) hHeld ?_
      rotate_left
      · (intro wz hSw; (try dsimp only at hSw); go_simp; try with_reducible rfl)
      try simp only [Act.put, List.setIfInBounds_toArray, List.set_cons_zero, List.set_cons_succ]
      refine wpAnyH_take (i := 17) (oi := { dst := some 72, op := Op.move (Operand.tmp 13), type := 3, pos := "law.go:31", after := #[{ on := 16, ground := Ground.guard }], guard := some (16, true) }) (v := ?_) rfl (by kernel_rfl) (by kernel_rfl) (by kernel_rfl) (fun _ _ _ h => h) (Or.inl ⟨rfl, ?_⟩) hHeld ?_
      rotate_left
      · (intro wz hSw; (try dsimp only at hSw); go_simp; try with_reducible rfl)
      try simp only [Act.put, List.setIfInBounds_toArray, List.set_cons_zero, List.set_cons_succ]
      refine wpAnyH_take (i := 18) (oi := { dst := some 73, op := Op.move (Operand.tmp 15), type := 3, pos := "law.go:31", after := #[{ on := 16, ground := Ground.guard }], guard := some (16, true) }) (v := ?_) rfl (by kernel_rfl) (by kernel_rfl) (by kernel_rfl) (fun _ _ _ h => h) (Or.inl ⟨rfl, ?_⟩) hHeld ?_
      rotate_left
      · (intro wz hSw; (try dsimp only at hSw); go_simp; try with_reducible rfl)
      try simp only [Act.put, List.setIfInBounds_toArray, List.set_cons_zero, List.set_cons_succ]
      refine wpAnyH_take (i := 19) (oi := { dst := some 74, op := Op.binOp BinOp.eql 3 (Operand.tmp 72) (Operand.tmp 73) 3, type := 4, pos := "law.go:31", after := #[{ on := 17, ground := Ground.data }, { on := 18, ground := Ground.data }, { on := 16, ground := Ground.guard }], guard := some (16, true) }) (v := ?_) rfl (by kernel_rfl) (by kernel_rfl) (by kernel_rfl) (fun _ _ _ h => h) (Or.inl ⟨rfl, ?_⟩) hHeld ?_
      rotate_left
      · (intro wz hSw; (try dsimp only at hSw); go_simp; try with_reducible rfl)
      try simp only [Act.put, List.setIfInBounds_toArray, List.set_cons_zero, List.set_cons_succ]
      refine wpAnyH_take (i := 20) (oi := { dst := some 75, op := Op.pick (Operand.tmp 71) (Operand.tmp 74) (Operand.const (Value.bool false)), type := 4, pos := "law.go:31", after := #[{ on := 16, ground := Ground.data }, { on := 19, ground := Ground.data }], guard := none }) (v := ?_) rfl (by kernel_rfl) (by kernel_rfl) (by kernel_rfl) (fun _ _ _ h => h) (Or.inl ⟨rfl, ?_⟩) hHeld ?_
      rotate_left
      · (intro wz hSw; (try dsimp only at hSw); go_simp; try with_reducible rfl)
      try simp only [Act.put, List.setIfInBounds_toArray, List.set_cons_zero, List.set_cons_succ]
      refine wpAnyH_take (i := 21) (oi := { dst := some 76, op := Op.move (Operand.tmp 75), type := 4, pos := "law.go:31", after := #[{ on := 20, ground := Ground.data }, { on := 16, ground := Ground.chain }], guard := none }) (v := ?_) rfl (by kernel_rfl) (by kernel_rfl) (by kernel_rfl) (fun _ _ _ h => h) (Or.inl ⟨rfl, ?_⟩) hHeld ?_
      rotate_left
      · (intro wz hSw; (try dsimp only at hSw); go_simp; try with_reducible rfl)
      try simp only [Act.put, List.setIfInBounds_toArray, List.set_cons_zero, List.set_cons_succ]
      refine wpAnyH_take (i := 22) (oi := { dst := some 77, op := Op.load 25 (Operand.tmp 3), type := 25, pos := "law.go:31", after := #[{ on := 21, ground := Ground.guard }], guard := some (21, true) }) (v := ?_) rfl (by kernel_rfl) (by kernel_rfl) (by kernel_rfl) (fun _ _ _ h => h) (Or.inl ⟨rfl, ?_⟩) hHeld ?_
      rotate_left
      · (intro wz hSw; refine exec_load_has 25 (Operand.tmp 3) ?_ _ ?_ hSw.1.hS Try.underlying25 rfl (A.info25 _) <;> rfl)
      try simp only [Act.put, List.setIfInBounds_toArray, List.set_cons_zero, List.set_cons_succ]
      refine wpAnyH_take (i := 23) (oi := { dst := some 78, op := Op.move (Operand.tmp 2), type := 3, pos := "law.go:31", after := #[{ on := 21, ground := Ground.guard }], guard := some (21, true) }) (v := ?_) rfl (by kernel_rfl) (by kernel_rfl) (by kernel_rfl) (fun _ _ _ h => h) (Or.inl ⟨rfl, ?_⟩) hHeld ?_
      rotate_left
      · (intro wz hSw; (try dsimp only at hSw); go_simp; try with_reducible rfl)
      try simp only [Act.put, List.setIfInBounds_toArray, List.set_cons_zero, List.set_cons_succ]
      refine wpAnyH_take (i := 25) (oi := { dst := some 80, op := Op.load 25 (Operand.tmp 3), type := 25, pos := "law.go:31", after := #[{ on := 21, ground := Ground.guard }], guard := some (21, true) }) (v := ?_) rfl (by kernel_rfl) (by kernel_rfl) (by kernel_rfl) (fun _ _ _ h => h) (Or.inl ⟨rfl, ?_⟩) hHeld ?_
      rotate_left
      · (intro wz hSw; refine exec_load_has 25 (Operand.tmp 3) ?_ _ ?_ hSw.1.hS Try.underlying25 rfl (A.info25 _) <;> rfl)
      try simp only [Act.put, List.setIfInBounds_toArray, List.set_cons_zero, List.set_cons_succ]
      refine wpAnyH_take (i := 26) (oi := { dst := some 81, op := Op.move (Operand.tmp 2), type := 3, pos := "law.go:31", after := #[{ on := 21, ground := Ground.guard }], guard := some (21, true) }) (v := ?_) rfl (by kernel_rfl) (by kernel_rfl) (by kernel_rfl) (fun _ _ _ h => h) (Or.inl ⟨rfl, ?_⟩) hHeld ?_
      rotate_left
      · (intro wz hSw; (try dsimp only at hSw); go_simp; try with_reducible rfl)
      try simp only [Act.put, List.setIfInBounds_toArray, List.set_cons_zero, List.set_cons_succ]
      refine wpAnyH_ready (rs := [24]) (by kernel_rfl) (by simp) ?_
      refine AllReadyH.cons (o := { dst := some 79, op := Op.call { callee := Callee.value (Operand.func 14), args := #[Operand.tmp 77, Operand.tmp 78], argTypes := #[25, 3] }, type := 4, pos := "law.go:31", after := #[{ on := 22, ground := Ground.data }, { on := 23, ground := Ground.data }, { on := 21, ground := Ground.chain }, { on := 21, ground := Ground.guard }], guard := some (21, true) }) rfl (fun K hK => ?_) (AllReadyH.nil)
      go_simp
      go_at_call 14
      refine (KT.out _ _).mono ?_
      rintro e w5a ⟨rfl, hK5⟩
      have hN := (show (fun w' => A.Al s P #[.int .i64 k0, .int .i64 op0, .int .i64 a0, .int .i64 b0, .int .i64 c0, .int .i64 i0, .bool u0] B B8 B10 w w' ∧ Has B12 (A.cells Q) 25 w' ∧ Has B14 (A.cells Q) 25 w') _ from ⟨hHeld.1.step hK5, hHeld.2.1.kept hK5, hHeld.2.2.kept hK5⟩)
      clear hHeld
      refine hK.out _ _ hN (fun hHeld => ?_)
      clear hK K hN
      try simp only [Act.put, List.setIfInBounds_toArray, List.set_cons_zero, List.set_cons_succ]
      refine wpAnyH_ready (rs := [27]) (by kernel_rfl) (by simp) ?_
      refine AllReadyH.cons (o := { dst := some 82, op := Op.call { callee := Callee.value (Operand.func 15), args := #[Operand.tmp 80, Operand.tmp 81], argTypes := #[25, 3] }, type := 4, pos := "law.go:31", after := #[{ on := 25, ground := Ground.data }, { on := 26, ground := Ground.data }, { on := 24, ground := Ground.chain }, { on := 21, ground := Ground.guard }], guard := some (21, true) }) rfl (fun K hK => ?_) (AllReadyH.nil)
      go_simp
      go_at_call 15
      refine (KR.out _ _).mono ?_
      rintro e w5b ⟨rfl, hK5⟩
      have hN := (show (fun w' => A.Al s P #[.int .i64 k0, .int .i64 op0, .int .i64 a0, .int .i64 b0, .int .i64 c0, .int .i64 i0, .bool u0] B B8 B10 w w' ∧ Has B12 (A.cells Q) 25 w' ∧ Has B14 (A.cells Q) 25 w') _ from ⟨hHeld.1.step hK5, hHeld.2.1.kept hK5, hHeld.2.2.kept hK5⟩)
      clear hHeld
      refine hK.out _ _ hN (fun hHeld => ?_)
      clear hK K hN
      try simp only [Act.put, List.setIfInBounds_toArray, List.set_cons_zero, List.set_cons_succ]
      refine wpAnyH_take (i := 28) (oi := { dst := some 83, op := Op.binOp BinOp.eql 4 (Operand.tmp 79) (Operand.tmp 82) 4, type := 4, pos := "law.go:31", after := #[{ on := 24, ground := Ground.data }, { on := 27, ground := Ground.data }, { on := 21, ground := Ground.guard }], guard := some (21, true) }) (v := ?_) rfl (by kernel_rfl) (by kernel_rfl) (by kernel_rfl) (fun _ _ _ h => h) (Or.inl ⟨rfl, ?_⟩) hHeld ?_
      rotate_left
      · (intro wz hSw; (try dsimp only at hSw); go_simp; try with_reducible rfl)
      try simp only [Act.put, List.setIfInBounds_toArray, List.set_cons_zero, List.set_cons_succ]
      refine wpAnyH_take (i := 29) (oi := { dst := some 84, op := Op.pick (Operand.tmp 76) (Operand.tmp 83) (Operand.const (Value.bool false)), type := 4, pos := "law.go:31", after := #[{ on := 21, ground := Ground.data }, { on := 28, ground := Ground.data }], guard := none }) (v := ?_) rfl (by kernel_rfl) (by kernel_rfl) (by kernel_rfl) (fun _ _ _ h => h) (Or.inl ⟨rfl, ?_⟩) hHeld ?_
      rotate_left
      · (intro wz hSw; (try dsimp only at hSw); go_simp; try with_reducible rfl)
      try simp only [Act.put, List.setIfInBounds_toArray, List.set_cons_zero, List.set_cons_succ]
      refine wpAnyH_take (i := 30) (oi := { dst := some 6, op := Op.assign (Operand.tmp 84), type := 4, pos := "law.go:31", after := #[{ on := 29, ground := Ground.data }, { on := 27, ground := Ground.chain }, { on := 0, ground := Ground.phase }, { on := 1, ground := Ground.phase }, { on := 2, ground := Ground.phase }, { on := 3, ground := Ground.phase }, { on := 4, ground := Ground.phase }, { on := 5, ground := Ground.phase }, { on := 6, ground := Ground.phase }, { on := 7, ground := Ground.phase }, { on := 8, ground := Ground.phase }, { on := 9, ground := Ground.phase }, { on := 10, ground := Ground.phase }, { on := 11, ground := Ground.phase }, { on := 12, ground := Ground.phase }, { on := 13, ground := Ground.phase }, { on := 14, ground := Ground.phase }, { on := 15, ground := Ground.phase }, { on := 16, ground := Ground.phase }, { on := 17, ground := Ground.phase }, { on := 18, ground := Ground.phase }, { on := 19, ground := Ground.phase }, { on := 20, ground := Ground.phase }, { on := 21, ground := Ground.phase }, { on := 22, ground := Ground.phase }, { on := 23, ground := Ground.phase }, { on := 24, ground := Ground.phase }, { on := 25, ground := Ground.phase }, { on := 26, ground := Ground.phase }, { on := 27, ground := Ground.phase }, { on := 28, ground := Ground.phase }, { on := 29, ground := Ground.phase }], guard := none }) (v := ?_) rfl (by kernel_rfl) (by kernel_rfl) (by kernel_rfl) (fun _ _ _ h => h) (Or.inl ⟨rfl, ?_⟩) hHeld ?_
      rotate_left
      · (intro wz hSw; (try dsimp only at hSw); go_simp; try with_reducible rfl)
      try simp only [Act.put, List.setIfInBounds_toArray, List.set_cons_zero, List.set_cons_succ]
      refine wpAnyH_done (by kernel_rfl) ?_ _
      go_wp2_with fail
      go_ret
      exact yesB rfl hHeld.1.kept
theorem walk_All (s : A.Regs) (k0 op0 a0 b0 c0 i0 cond : Int) (u0 : Bool) (hs : A.Ok s) (w : World) :
    Calls Try.prog 3 #[.agg (A.cells s), .agg #[.int .i64 k0, .int .i64 op0, .int .i64 a0, .int .i64 b0, .int .i64 c0, .int .i64 i0, .bool u0], .int .i64 cond] w fun e w' => e = .returned (.bool true) ∧ Below w.heap.size w w' := by
  obtain ⟨k, op, a, b, c, i, u, hm, CF⟩ := fit_any k0 op0 a0 b0 c0 i0 u0
  exact walk_All_at s _ _ k0 op0 a0 b0 c0 i0 k op a b c i cond _ _ u0 u (A.taken s) w (Lib.hid CF) (Lib.hid (do_run s k0 op0 a0 b0 c0 i0 u0 hs)) (Lib.hid (rdo_run s k0 op0 a0 b0 c0 i0 u0 hs)) (Lib.hid (do_run s k op a b c i u hs)) (Lib.hid (rdo_run s k op a b c i u hs)) (Lib.hid (taken_any s)) (Lib.hid (rtaken_any s))
end Go.Proofs.Ytghjdpmijnlhjaa
