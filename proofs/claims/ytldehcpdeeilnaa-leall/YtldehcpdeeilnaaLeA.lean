/-
  The walk of LeAll.
-/
import Derived.Test.YtldehcpdeeilnaaLe6
namespace Go.Proofs.Ytldehcpdeeilnaa
open Go.RowKit
set_option linter.unusedVariables false
set_option linter.unusedSimpArgs false
set_option maxRecDepth 100000
set_option maxHeartbeats 4000000 in
set_option maxRecDepth 100000 in
theorem walk_all (w : World) (A : Option Addr) (n c : Nat) (xs : List Int) (hx : Wo w A n c xs) (B : Option Addr) (m d : Nat) (bs0 : List Int) (hb : By w B m d bs0) (N : Int) :
    Calls Try.prog 3 #[.slice A n c, .slice B m d, .int .i64 N] w fun e w' => e = .returned (.bool true) ∧ Below w.heap.size w w' := by
  have hX0 := Lib.hid hx
  have hX := hx.take (min n 40) (by omega)
  have hn40 : min n 40 ≤ 40 := by omega
  generalize hmn : min n 40 = k at *
  replace hmn := Lib.hid hmn
  generalize xs.take k = ys at *
  replace hX := Lib.hid hX
  have hY0 := Lib.hid hb
  have hY := hb.take (min m 200) (by omega)
  have hm200 : min m 200 ≤ 200 := by omega
  generalize hmm : min m 200 = l at *
  replace hmm := Lib.hid hmm
  generalize bs0.take l = bs at *
  replace hY := Lib.hid hY
  clear hx hb
  go_enter Try.func3, Try.ntmps3
  go_wp2_with (fail)
  refine (L.shown_any w).mono ?_; rintro e w1 ⟨rfl, hB⟩
  replace hB := Lib.hid hB
  go_wp2
  go_loopw [8, 9, 10, 11, 12] (fun i _ _ _ _ wr => ∃ q : Nat, q ≤ 60 ∧ i = .int .i64 q ∧ Below w.heap.size w wr) (fun i _ _ _ _ _ => 60 - (intOf i).toNat)
  case atStart => exact ⟨0, by omega, rfl, hB.out⟩
  case round =>
    clear hB
    obtain ⟨q, hq, rfl, hB⟩ := hrel
    replace hB := Lib.hid hB
    by_cases d1 : q < 60
    · have d2 : (q : Int) < 60 := by omega
      go_wp2_with (fail)
      refine (L.fewOf_any _ B m d bs0 (hY0.out.below hB.out)).mono ?_; rintro e wq ⟨rfl, rfl⟩
      rw [hmm.out]
      go_wp2_with (fail)
      refine (L.take_any (hY.out.below hB.out) (by omega) q).mono ?_; rintro e w2 ⟨A1, n1, c1, rfl, hT, hE⟩
      replace hB := Lib.hid (Bel.trans hB.out hE)
      replace hT := Lib.hid hT
      clear hE
      go_wp2_with (fail)
      refine (L.fewOf_any _ B m d bs0 (hY0.out.below hB.out)).mono ?_; rintro e wq ⟨rfl, rfl⟩
      rw [hmm.out]
      go_wp2_with (fail)
      refine (L.rtake_any (hY.out.below hB.out) (by omega) q).mono ?_; rintro e w3 ⟨A2, n2, c2, rfl, hV, hE⟩
      replace hB := Lib.hid (Bel.trans hB.out hE)
      replace hT := Lib.hid (hT.out.below hE)
      replace hV := Lib.hid hV
      clear hE
      go_wp2_with (fail)
      refine (L.same_true hT.out hV.out).mono ?_; rintro e w4 ⟨rfl, hE⟩
      replace hB := Lib.hid (Bel.trans hB.out hE)
      clear hE hT hV
      generalize L.tkE bs (q : Int) = E at *
      have hE0 : (E != E) = false := by simp
      go_wp2
      go_roundw
      case rel => exact ⟨q + 1, by omega, by go_num, hB.out⟩
      case measure => simp [intOf]; omega
    · have d2 : ¬ (q : Int) < 60 := by omega
      clear d1
      go_wp2_with (fail)
      refine (L.fewOf_any _ B m d bs0 (hY0.out.below hB.out)).mono ?_; rintro e wq ⟨rfl, rfl⟩
      rw [hmm.out]
      go_wp2_with (fail)
      refine (L.take_any (hY.out.below hB.out) (by omega) N).mono ?_; rintro e w5 ⟨A1, n1, c1, rfl, hT, hE⟩
      replace hB := Lib.hid (Bel.trans hB.out hE)
      replace hT := Lib.hid hT
      clear hE
      go_wp2_with (fail)
      refine (L.fewOf_any _ B m d bs0 (hY0.out.below hB.out)).mono ?_; rintro e wq ⟨rfl, rfl⟩
      rw [hmm.out]
      go_wp2_with (fail)
      refine (L.rtake_any (hY.out.below hB.out) (by omega) N).mono ?_; rintro e w6 ⟨A2, n2, c2, rfl, hV, hE⟩
      replace hB := Lib.hid (Bel.trans hB.out hE)
      replace hT := Lib.hid (hT.out.below hE)
      replace hV := Lib.hid hV
      clear hE hY hY0 hmm
      replace hX0 := Lib.hid (hX0.out.below hB.out)
      replace hX := Lib.hid (hX.out.below hB.out)
      generalize L.tkE bs N = E at *
      generalize L.tkW bs N = zs at *
      go_wp2_with (fail)
      refine wp_region_held_drew (S := fun w' => Below w6.heap.size w6 w') (by kernel_rfl) ((Below.refl _ _).drew) (fun hHeld => ?_)
      replace hB := Lib.hid (Bel.trans hB.out hHeld)
      replace hX0 := Lib.hid (hX0.out.below hHeld)
      replace hX := Lib.hid (hX.out.below hHeld)
      replace hT := Lib.hid (hT.out.below hHeld)
      replace hV := Lib.hid (hV.out.below hHeld)
      refine wpAnyH_now _ _ _ _ hHeld (fun hHeld => ?_)
      generalize w6.drew = w6d at *
      refine wpAnyH_take (i := 0) (oi := { dst := some 59, op := Op.move (Operand.tmp 7), type := 4, pos := "law.go:35", after := #[], guard := none }) (v := ?_) rfl (by kernel_rfl) (by kernel_rfl) (by kernel_rfl) (fun _ _ _ h => h) (Or.inl ⟨rfl, ?_⟩) hHeld ?_
      rotate_left
      · (intro wz hSw; go_simp; try with_reducible rfl)
      try simp only [Act.put, List.setIfInBounds_toArray, List.set_cons_zero, List.set_cons_succ]
      refine wpAnyH_take (i := 1) (oi := { dst := some 60, op := Op.move (Operand.tmp 59), type := 4, pos := "law.go:35", after := #[{ on := 0, ground := Ground.data }], guard := none }) (v := ?_) rfl (by kernel_rfl) (by kernel_rfl) (by kernel_rfl) (fun _ _ _ h => h) (Or.inl ⟨rfl, ?_⟩) hHeld ?_
      rotate_left
      · (intro wz hSw; go_simp; try with_reducible rfl)
      try simp only [Act.put, List.setIfInBounds_toArray, List.set_cons_zero, List.set_cons_succ]
      refine wpAnyH_take (i := 2) (oi := { dst := some 61, op := Op.move (Operand.tmp 0), type := 22, pos := "law.go:35", after := #[{ on := 1, ground := Ground.guard }], guard := some (1, true) }) (v := ?_) rfl (by kernel_rfl) (by kernel_rfl) (by kernel_rfl) (fun _ _ _ h => h) (Or.inl ⟨rfl, ?_⟩) hHeld ?_
      rotate_left
      · (intro wz hSw; go_simp; try with_reducible rfl)
      try simp only [Act.put, List.setIfInBounds_toArray, List.set_cons_zero, List.set_cons_succ]
      refine wpAnyH_take (i := 6) (oi := { dst := some 65, op := Op.move (Operand.tmp 0), type := 22, pos := "law.go:35", after := #[{ on := 1, ground := Ground.guard }], guard := some (1, true) }) (v := ?_) rfl (by kernel_rfl) (by kernel_rfl) (by kernel_rfl) (fun _ _ _ h => h) (Or.inl ⟨rfl, ?_⟩) hHeld ?_
      rotate_left
      · (intro wz hSw; go_simp; try with_reducible rfl)
      try simp only [Act.put, List.setIfInBounds_toArray, List.set_cons_zero, List.set_cons_succ]
      refine wpAnyH_ready (rs := [3]) (by kernel_rfl) (by simp) ?_
      refine AllReadyH.cons (o := { dst := some 62, op := Op.call { callee := Callee.value (Operand.func 14), args := #[Operand.tmp 61], argTypes := #[22] }, type := 22, pos := "law.go:35", after := #[{ on := 2, ground := Ground.data }, { on := 1, ground := Ground.chain }, { on := 1, ground := Ground.guard }], guard := some (1, true) }) rfl (fun K hK => ?_) AllReadyH.nil
      go_simp
      go_at_call 14
      refine (L.few_any _ A n c xs hX0.out).mono ?_
      rintro e wq ⟨rfl, rfl⟩
      rw [hmn.out]
      refine hK.out _ _ hHeld (fun hHeld => ?_)
      clear hK K
      try simp only [Act.put, List.setIfInBounds_toArray, List.set_cons_zero, List.set_cons_succ]
      refine wpAnyH_ready (rs := [4]) (by kernel_rfl) (by simp) ?_
      refine AllReadyH.cons (o := { dst := some 63, op := Op.call { callee := Callee.value (Operand.func 13), args := #[Operand.tmp 62], argTypes := #[22] }, type := 23, pos := "law.go:35", after := #[{ on := 3, ground := Ground.data }, { on := 3, ground := Ground.chain }, { on := 1, ground := Ground.guard }], guard := some (1, true) }) rfl (fun K hK => ?_) AllReadyH.nil
      go_simp
      go_at_call 13
      refine (L.put_any hX.out (by omega)).mono ?_
      rintro e w7 ⟨gp, cp, rfl, hP, hE⟩
      clear hHeld
      refine hK.out _ _ hE (fun hHeld => ?_)
      clear hK K
      replace hB := Lib.hid (Bel.trans hB.out hE)
      replace hX0 := Lib.hid (hX0.out.below hE)
      replace hX := Lib.hid (hX.out.below hE)
      replace hT := Lib.hid (hT.out.below hE)
      replace hV := Lib.hid (hV.out.below hE)
      replace hP := Lib.hid hP
      refine wpAnyH_now _ _ _ _ hE (fun hHeld => ?_)
      clear hE
      try simp only [Act.put, List.setIfInBounds_toArray, List.set_cons_zero, List.set_cons_succ]
      refine wpAnyH_take (i := 5) (oi := { dst := some 64, op := Op.convert 23 9 (Operand.tmp 63), type := 9, pos := "law.go:35", after := #[{ on := 4, ground := Ground.data }, { on := 1, ground := Ground.guard }], guard := some (1, true) }) (v := ?_) rfl (by kernel_rfl) (by kernel_rfl) (by kernel_rfl) (fun _ _ _ h => h) (Or.inl ⟨rfl, ?_⟩) hHeld ?_
      rotate_left
      · (intro wz hSw; refine exec_text Try.underlying23 Try.underlying5 Try.underlying9 (.tmp 63) ?_ ?_ (hP.out.below hSw) <;> rfl)
      try simp only [Act.put, List.setIfInBounds_toArray, List.set_cons_zero, List.set_cons_succ]
      refine wpAnyH_ready (rs := [7]) (by kernel_rfl) (by simp) ?_
      refine AllReadyH.cons (o := { dst := some 66, op := Op.call { callee := Callee.value (Operand.func 14), args := #[Operand.tmp 65], argTypes := #[22] }, type := 22, pos := "law.go:35", after := #[{ on := 6, ground := Ground.data }, { on := 4, ground := Ground.chain }, { on := 1, ground := Ground.guard }], guard := some (1, true) }) rfl (fun K hK => ?_) AllReadyH.nil
      go_simp
      go_at_call 14
      refine (L.few_any _ A n c xs hX0.out).mono ?_
      rintro e wq ⟨rfl, rfl⟩
      rw [hmn.out]
      refine hK.out _ _ hHeld (fun hHeld => ?_)
      clear hK K
      try simp only [Act.put, List.setIfInBounds_toArray, List.set_cons_zero, List.set_cons_succ]
      refine wpAnyH_ready (rs := [8]) (by kernel_rfl) (by simp) ?_
      refine AllReadyH.cons (o := { dst := some 67, op := Op.call { callee := Callee.value (Operand.func 15), args := #[Operand.tmp 66], argTypes := #[22] }, type := 23, pos := "law.go:35", after := #[{ on := 7, ground := Ground.data }, { on := 7, ground := Ground.chain }, { on := 1, ground := Ground.guard }], guard := some (1, true) }) rfl (fun K hK => ?_) AllReadyH.nil
      go_simp
      go_at_call 15
      refine (L.rput_any hX.out (by omega)).mono ?_
      rintro e w8 ⟨gr, cr, rfl, hR, hE⟩
      clear hHeld
      refine hK.out _ _ hE (fun hHeld => ?_)
      clear hK K
      replace hB := Lib.hid (Bel.trans hB.out hE)
      replace hX0 := Lib.hid (hX0.out.below hE)
      replace hX := Lib.hid (hX.out.below hE)
      replace hT := Lib.hid (hT.out.below hE)
      replace hV := Lib.hid (hV.out.below hE)
      replace hP := Lib.hid (hP.out.below hE)
      replace hR := Lib.hid hR
      refine wpAnyH_now _ _ _ _ hE (fun hHeld => ?_)
      clear hE
      try simp only [Act.put, List.setIfInBounds_toArray, List.set_cons_zero, List.set_cons_succ]
      refine wpAnyH_take (i := 9) (oi := { dst := some 68, op := Op.convert 23 9 (Operand.tmp 67), type := 9, pos := "law.go:35", after := #[{ on := 8, ground := Ground.data }, { on := 1, ground := Ground.guard }], guard := some (1, true) }) (v := ?_) rfl (by kernel_rfl) (by kernel_rfl) (by kernel_rfl) (fun _ _ _ h => h) (Or.inl ⟨rfl, ?_⟩) hHeld ?_
      rotate_left
      · (intro wz hSw; refine exec_text Try.underlying23 Try.underlying5 Try.underlying9 (.tmp 67) ?_ ?_ (hR.out.below hSw) <;> rfl)
      try simp only [Act.put, List.setIfInBounds_toArray, List.set_cons_zero, List.set_cons_succ]
      refine wpAnyH_take (i := 10) (oi := { dst := some 69, op := Op.binOp BinOp.eql 9 (Operand.tmp 64) (Operand.tmp 68) 9, type := 4, pos := "law.go:35", after := #[{ on := 5, ground := Ground.data }, { on := 9, ground := Ground.data }, { on := 1, ground := Ground.guard }], guard := some (1, true) }) (v := ?_) rfl (by kernel_rfl) (by kernel_rfl) (by kernel_rfl) (fun _ _ _ h => h) (Or.inl ⟨rfl, ?_⟩) hHeld ?_
      rotate_left
      · (intro wz hSw; go_simp; try with_reducible rfl)
      try simp only [Act.put, List.setIfInBounds_toArray, List.set_cons_zero, List.set_cons_succ]
      refine wpAnyH_take (i := 11) (oi := { dst := some 70, op := Op.pick (Operand.tmp 60) (Operand.tmp 69) (Operand.const (Value.bool false)), type := 4, pos := "law.go:35", after := #[{ on := 1, ground := Ground.data }, { on := 10, ground := Ground.data }], guard := none }) (v := ?_) rfl (by kernel_rfl) (by kernel_rfl) (by kernel_rfl) (fun _ _ _ h => h) (Or.inl ⟨rfl, ?_⟩) hHeld ?_
      rotate_left
      · (intro wz hSw; go_simp; try with_reducible rfl)
      try simp only [Act.put, List.setIfInBounds_toArray, List.set_cons_zero, List.set_cons_succ]
      refine wpAnyH_take (i := 12) (oi := { dst := some 71, op := Op.move (Operand.tmp 70), type := 4, pos := "law.go:35", after := #[{ on := 11, ground := Ground.data }, { on := 8, ground := Ground.chain }], guard := none }) (v := ?_) rfl (by kernel_rfl) (by kernel_rfl) (by kernel_rfl) (fun _ _ _ h => h) (Or.inl ⟨rfl, ?_⟩) hHeld ?_
      rotate_left
      · (intro wz hSw; go_simp; try with_reducible rfl)
      try simp only [Act.put, List.setIfInBounds_toArray, List.set_cons_zero, List.set_cons_succ]
      refine wpAnyH_take (i := 13) (oi := { dst := some 72, op := Op.move (Operand.tmp 13), type := 22, pos := "law.go:35", after := #[{ on := 12, ground := Ground.guard }], guard := some (12, true) }) (v := ?_) rfl (by kernel_rfl) (by kernel_rfl) (by kernel_rfl) (fun _ _ _ h => h) (Or.inl ⟨rfl, ?_⟩) hHeld ?_
      rotate_left
      · (intro wz hSw; go_simp; try with_reducible rfl)
      try simp only [Act.put, List.setIfInBounds_toArray, List.set_cons_zero, List.set_cons_succ]
      refine wpAnyH_take (i := 14) (oi := { dst := some 73, op := Op.move (Operand.tmp 15), type := 22, pos := "law.go:35", after := #[{ on := 12, ground := Ground.guard }], guard := some (12, true) }) (v := ?_) rfl (by kernel_rfl) (by kernel_rfl) (by kernel_rfl) (fun _ _ _ h => h) (Or.inl ⟨rfl, ?_⟩) hHeld ?_
      rotate_left
      · (intro wz hSw; go_simp; try with_reducible rfl)
      try simp only [Act.put, List.setIfInBounds_toArray, List.set_cons_zero, List.set_cons_succ]
      refine wpAnyH_ready (rs := [15]) (by kernel_rfl) (by simp) ?_
      refine AllReadyH.cons (o := { dst := some 74, op := Op.call { callee := Callee.value (Operand.func 12), args := #[Operand.tmp 72, Operand.tmp 73], argTypes := #[22, 22] }, type := 4, pos := "law.go:35", after := #[{ on := 13, ground := Ground.data }, { on := 14, ground := Ground.data }, { on := 12, ground := Ground.chain }, { on := 12, ground := Ground.guard }], guard := some (12, true) }) rfl (fun K hK => ?_) AllReadyH.nil
      go_simp
      go_at_call 12
      refine (L.same_true hT.out hV.out).mono ?_
      rintro e w9 ⟨rfl, hE⟩
      clear hHeld
      refine hK.out _ _ hE (fun hHeld => ?_)
      clear hK K
      replace hB := Lib.hid (Bel.trans hB.out hE)
      replace hX0 := Lib.hid (hX0.out.below hE)
      replace hX := Lib.hid (hX.out.below hE)
      replace hT := Lib.hid (hT.out.below hE)
      replace hV := Lib.hid (hV.out.below hE)
      replace hP := Lib.hid (hP.out.below hE)
      replace hR := Lib.hid (hR.out.below hE)
      refine wpAnyH_now _ _ _ _ hE (fun hHeld => ?_)
      clear hE
      try simp only [Act.put, List.setIfInBounds_toArray, List.set_cons_zero, List.set_cons_succ]
      refine wpAnyH_take (i := 16) (oi := { dst := some 75, op := Op.pick (Operand.tmp 71) (Operand.tmp 74) (Operand.const (Value.bool false)), type := 4, pos := "law.go:35", after := #[{ on := 12, ground := Ground.data }, { on := 15, ground := Ground.data }], guard := none }) (v := ?_) rfl (by kernel_rfl) (by kernel_rfl) (by kernel_rfl) (fun _ _ _ h => h) (Or.inl ⟨rfl, ?_⟩) hHeld ?_
      rotate_left
      · (intro wz hSw; go_simp; try with_reducible rfl)
      try simp only [Act.put, List.setIfInBounds_toArray, List.set_cons_zero, List.set_cons_succ]
      refine wpAnyH_take (i := 17) (oi := { dst := some 76, op := Op.move (Operand.tmp 75), type := 4, pos := "law.go:35", after := #[{ on := 16, ground := Ground.data }, { on := 15, ground := Ground.chain }], guard := none }) (v := ?_) rfl (by kernel_rfl) (by kernel_rfl) (by kernel_rfl) (fun _ _ _ h => h) (Or.inl ⟨rfl, ?_⟩) hHeld ?_
      rotate_left
      · (intro wz hSw; go_simp; try with_reducible rfl)
      try simp only [Act.put, List.setIfInBounds_toArray, List.set_cons_zero, List.set_cons_succ]
      refine wpAnyH_take (i := 18) (oi := { dst := some 77, op := Op.move (Operand.tmp 14), type := 25, pos := "law.go:35", after := #[{ on := 17, ground := Ground.guard }], guard := some (17, true) }) (v := ?_) rfl (by kernel_rfl) (by kernel_rfl) (by kernel_rfl) (fun _ _ _ h => h) (Or.inl ⟨rfl, ?_⟩) hHeld ?_
      rotate_left
      · (intro wz hSw; go_simp; try with_reducible rfl)
      try simp only [Act.put, List.setIfInBounds_toArray, List.set_cons_zero, List.set_cons_succ]
      refine wpAnyH_take (i := 19) (oi := { dst := some 78, op := Op.move (Operand.tmp 16), type := 25, pos := "law.go:35", after := #[{ on := 17, ground := Ground.guard }], guard := some (17, true) }) (v := ?_) rfl (by kernel_rfl) (by kernel_rfl) (by kernel_rfl) (fun _ _ _ h => h) (Or.inl ⟨rfl, ?_⟩) hHeld ?_
      rotate_left
      · (intro wz hSw; go_simp; try with_reducible rfl)
      try simp only [Act.put, List.setIfInBounds_toArray, List.set_cons_zero, List.set_cons_succ]
      refine wpAnyH_take (i := 20) (oi := { dst := some 79, op := Op.binOp BinOp.eql 25 (Operand.tmp 77) (Operand.tmp 78) 25, type := 4, pos := "law.go:35", after := #[{ on := 18, ground := Ground.data }, { on := 19, ground := Ground.data }, { on := 17, ground := Ground.guard }], guard := some (17, true) }) (v := ?_) rfl (by kernel_rfl) (by kernel_rfl) (by kernel_rfl) (fun _ _ _ h => h) (Or.inl ⟨rfl, ?_⟩) hHeld ?_
      rotate_left
      · (intro wz hSw; go_simp; try with_reducible rfl)
      try simp only [Act.put, List.setIfInBounds_toArray, List.set_cons_zero, List.set_cons_succ]
      refine wpAnyH_take (i := 21) (oi := { dst := some 80, op := Op.pick (Operand.tmp 76) (Operand.tmp 79) (Operand.const (Value.bool false)), type := 4, pos := "law.go:35", after := #[{ on := 17, ground := Ground.data }, { on := 20, ground := Ground.data }], guard := none }) (v := ?_) rfl (by kernel_rfl) (by kernel_rfl) (by kernel_rfl) (fun _ _ _ h => h) (Or.inl ⟨rfl, ?_⟩) hHeld ?_
      rotate_left
      · (intro wz hSw; go_simp; try with_reducible rfl)
      try simp only [Act.put, List.setIfInBounds_toArray, List.set_cons_zero, List.set_cons_succ]
      refine wpAnyH_take (i := 22) (oi := { dst := some 6, op := Op.assign (Operand.tmp 80), type := 4, pos := "law.go:35", after := #[{ on := 21, ground := Ground.data }, { on := 17, ground := Ground.chain }, { on := 0, ground := Ground.phase }, { on := 1, ground := Ground.phase }, { on := 2, ground := Ground.phase }, { on := 3, ground := Ground.phase }, { on := 4, ground := Ground.phase }, { on := 5, ground := Ground.phase }, { on := 6, ground := Ground.phase }, { on := 7, ground := Ground.phase }, { on := 8, ground := Ground.phase }, { on := 9, ground := Ground.phase }, { on := 10, ground := Ground.phase }, { on := 11, ground := Ground.phase }, { on := 12, ground := Ground.phase }, { on := 13, ground := Ground.phase }, { on := 14, ground := Ground.phase }, { on := 15, ground := Ground.phase }, { on := 16, ground := Ground.phase }, { on := 17, ground := Ground.phase }, { on := 18, ground := Ground.phase }, { on := 19, ground := Ground.phase }, { on := 20, ground := Ground.phase }, { on := 21, ground := Ground.phase }], guard := none }) (v := ?_) rfl (by kernel_rfl) (by kernel_rfl) (by kernel_rfl) (fun _ _ _ h => h) (Or.inl ⟨rfl, ?_⟩) hHeld ?_
      rotate_left
      · (intro wz hSw; go_simp; try with_reducible rfl)
      try simp only [Act.put, List.setIfInBounds_toArray, List.set_cons_zero, List.set_cons_succ]
      refine wpAnyH_done (by kernel_rfl) ?_ _
      go_wp2
      go_ret
      exact ⟨rfl, hB.out⟩
end Go.Proofs.Ytldehcpdeeilnaa
