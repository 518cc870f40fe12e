/-
  The walk of ObjectAll.
-/
import Derived.Test.YthnpdlejgpcgoaaObR
namespace Go.Proofs.Ythnpdlejgpcgoaa
open Go.RowKit
set_option linter.unusedVariables false
set_option linter.unusedSimpArgs false
set_option maxRecDepth 100000
set_option maxHeartbeats 4000000 in
set_option maxRecDepth 100000 in
theorem walk_all (w : World) (A B C : Option Addr) (n c m d k e : Nat) (ws ss : List Int) (ys : List Ob.Y) (hW : Wo w A n c ws) (hS : In w B m d ss) (hY : Sy w C k e ys) (hsz : ∀ y ∈ ys, y.1.size ≤ 9223372036854775807)
    (A' B' C' : Option Addr) (n' c' m' d' k' e' : Nat) (ws' ss' : List Int) (ys' : List Ob.Y) (hW' : Wo w A' n' c' ws') (hS' : In w B' m' d' ss') (hY' : Sy w C' k' e' ys') (hsz' : ∀ y ∈ ys', y.1.size ≤ 9223372036854775807) :
    Calls Try.prog 3 #[.agg #[.slice A n c, .slice B m d, .slice C k e], .agg #[.slice A' n' c', .slice B' m' d', .slice C' k' e']] w fun e w' => e = .returned (.bool true) ∧ Below w.heap.size w w' := by
  have hO := Lib.hid ((Has.new #[.slice A n c, .slice B m d, .slice C k e] 26 w).alloc (.cells #[.slice A' n' c', .slice B' m' d', .slice C' k' e'] 26))
  have hP := Lib.hid (Has.new1 #[.slice A' n' c', .slice B' m' d', .slice C' k' e'] 26 w (.cells #[.slice A n c, .slice B m d, .slice C k e] 26))
  have hB := (((Kept.refl w).alloc #[.slice A n c, .slice B m d, .slice C k e] 26).alloc #[.slice A' n' c', .slice B' m' d', .slice C' k' e'] 26).below
  replace hW := Lib.hid hW
  replace hS := Lib.hid hS
  replace hY := Lib.hid hY
  replace hW' := Lib.hid hW'
  replace hS' := Lib.hid hS'
  replace hY' := Lib.hid hY'
  go_enter Try.func3, Try.ntmps3
  go_wp2_with (fail)
  generalize (w.alloc (.cells #[.slice A n c, .slice B m d, .slice C k e] 26)).alloc (.cells #[.slice A' n' c', .slice B' m' d', .slice C' k' e'] 26) = w1 at *
  refine (Ob.shown_any w1).mono ?_; rintro r w2 ⟨rfl, hE⟩
  replace hB := Lib.hid (hB.trans (hE.mono hB.size))
  replace hO := Lib.hid (hO.out.below hE)
  replace hP := Lib.hid (hP.out.below hE)
  clear hE
  have o0 := hO.out.cell 0 (.slice A n c) rfl
  have o1 := hO.out.cell 1 (.slice B m d) rfl
  have o2 := hO.out.cell 2 (.slice C k e) rfl
  go_wp2_with (fail)
  clear o0 o1 o2 hO
  refine (Ob.few_any (hW.out.below hB.out) (hS.out.below hB.out) (hY.out.below hB.out) hsz).mono ?_; rintro r w3 ⟨C1, e1, rfl, hQ, hE⟩
  have hQz := Lib.hid (Ob.cuts_size ys (min k 12))
  have hX := Lib.hid (hW.out.take (min n 30) (by omega))
  have hXs := Lib.hid (hS.out.take (min m 30) (by omega))
  clear hsz hW hS hY
  generalize ws.take (min n 30) = xs at *
  generalize ss.take (min m 30) = xt at *
  generalize Ob.cuts ys (min k 12) = xy at *
  generalize min n 30 = n1 at *
  generalize min m 30 = m1 at *
  generalize min k 12 = k1 at *
  have hA3 := ((Kept.refl w3).alloc #[.slice A n1 c, .slice B m1 d, .slice C1 k1 e1] 26).below
  have hXo := Lib.hid (Has.new #[.slice A n1 c, .slice B m1 d, .slice C1 k1 e1] 26 w3)
  replace hB := Lib.hid ((hB.out.trans (hE.mono hB.out.size)).trans (hA3.mono (Nat.le_trans hB.out.size hE.size)))
  replace hP := (hP.out.below hE).below hA3
  have hXy := Lib.hid ((hQ.below hA3).sy)
  clear hQ hE hA3
  have p0 := hP.cell 0 (.slice A' n' c') rfl
  have p1 := hP.cell 1 (.slice B' m' d') rfl
  have p2 := hP.cell 2 (.slice C' k' e') rfl
  clear hP
  go_wp2_with (fail)
  clear p0 p1 p2
  generalize hw4 : w3.alloc (.cells #[.slice A n1 c, .slice B m1 d, .slice C1 k1 e1] 26) = w4 at *
  clear hw4
  refine (Ob.few_any (hW'.out.below hB.out) (hS'.out.below hB.out) (hY'.out.below hB.out) hsz').mono ?_; rintro r w5 ⟨C2, e2, rfl, hQ, hE⟩
  have hQz' := Lib.hid (Ob.cuts_size ys' (min k' 12))
  have hZ := Lib.hid (hW'.out.take (min n' 30) (by omega))
  have hZs := Lib.hid (hS'.out.take (min m' 30) (by omega))
  clear hsz' hW' hS' hY'
  generalize ws'.take (min n' 30) = zs at *
  generalize ss'.take (min m' 30) = zt at *
  generalize Ob.cuts ys' (min k' 12) = zy at *
  generalize min n' 30 = n2 at *
  generalize min m' 30 = m2 at *
  generalize min k' 12 = k2 at *
  have hA3 := ((Kept.refl w5).alloc #[.slice A' n2 c', .slice B' m2 d', .slice C2 k2 e2] 26).below
  have hZo := Lib.hid (Has.new #[.slice A' n2 c', .slice B' m2 d', .slice C2 k2 e2] 26 w5)
  replace hB := Lib.hid ((hB.out.trans (hE.mono hB.out.size)).trans (hA3.mono (Nat.le_trans hB.out.size hE.size)))
  replace hXo := Lib.hid ((hXo.out.below hE).below hA3)
  replace hXy := Lib.hid ((hXy.out.below hE).below hA3)
  have hZy := Lib.hid ((hQ.below hA3).sy)
  clear hQ hE hA3
  go_wp2_with (fail)
  generalize hw6 : w5.alloc (.cells #[.slice A' n2 c', .slice B' m2 d', .slice C2 k2 e2] 26) = w6 at *
  clear hw6
  replace hX := Lib.hid (hX.out.below hB.out)
  replace hXs := Lib.hid (hXs.out.below hB.out)
  replace hZ := Lib.hid (hZ.out.below hB.out)
  replace hZs := Lib.hid (hZs.out.below hB.out)
  have C1M := fun w' (hb : Below w6.heap.size w6 w') => Ob.may_any (hX.out.below hb) (hXs.out.below hb) (hXy.out.below hb) hQz.out
  have C1R := fun w' (hb : Below w6.heap.size w6 w') => Ob.rmay_any (hX.out.below hb) (hXs.out.below hb) (hXy.out.below hb) hQz.out
  have C2M := fun w' (hb : Below w6.heap.size w6 w') => Ob.may_any (hZ.out.below hb) (hZs.out.below hb) (hZy.out.below hb) hQz'.out
  have C2R := fun w' (hb : Below w6.heap.size w6 w') => Ob.rmay_any (hZ.out.below hb) (hZs.out.below hb) (hZy.out.below hb) hQz'.out
  have C3S := fun w' (hb : Below w6.heap.size w6 w') => Ob.same_any (hX.out.below hb) (hXs.out.below hb) (hXy.out.below hb) (hZ.out.below hb) (hZs.out.below hb) (hZy.out.below hb)
  have C3R := fun w' (hb : Below w6.heap.size w6 w') => Ob.rsame_any (hX.out.below hb) (hXs.out.below hb) (hXy.out.below hb) (hZ.out.below hb) (hZs.out.below hb) (hZy.out.below hb)
  have C4S := fun w' (hb : Below w6.heap.size w6 w') => Ob.same_any (hX.out.below hb) (hXs.out.below hb) (hXy.out.below hb) (hX.out.below hb) (hXs.out.below hb) (hXy.out.below hb)
  have C5S := fun w' (hb : Below w6.heap.size w6 w') => Ob.same_any (hZ.out.below hb) (hZs.out.below hb) (hZy.out.below hb) (hX.out.below hb) (hXs.out.below hb) (hXy.out.below hb)
  rw [Ob.same_self] at C4S
  rw [Ob.same_comm zs zt zy xs xt xy] at C5S
  generalize Ob.may xs xt xy = q1 at *
  generalize Ob.may zs zt zy = q2 at *
  generalize Ob.same xs xt xy zs zt zy = q3 at *
  replace C1M := Lib.hid C1M
  replace C1R := Lib.hid C1R
  replace C2M := Lib.hid C2M
  replace C2R := Lib.hid C2R
  replace C3S := Lib.hid C3S
  replace C3R := Lib.hid C3R
  replace C4S := Lib.hid C4S
  replace C5S := Lib.hid C5S
  clear hX hXs hXy hZ hZs hZy hQz hQz'
  have hb6 := Lib.hid (Below.refl w6.heap.size w6)
  refine wp_region_held_drew (S := fun w' => Below w6.heap.size w6 w') (by kernel_rfl) ((Below.refl _ _).drew) (fun hHeld => ?_)
  replace hB := Lib.hid (hB.out.trans (hHeld.mono hB.out.size))
  replace hb6 := Lib.hid (hb6.out.trans (hHeld.mono hb6.out.size))
  replace hXo := Lib.hid (hXo.out.below hHeld)
  replace hZo := Lib.hid (hZo.out.below hHeld)
  refine wpAnyH_now _ _ _ _ hHeld (fun hHeld => ?_)
  generalize w6.drew = w6d at *
  refine wpAnyH_take (i := 0) (oi := { dst := some 13, op := Op.move (Operand.tmp 5), type := 4, pos := "law.go:40", after := #[], guard := none }) (v := ?_) rfl (by kernel_rfl) (by kernel_rfl) (by kernel_rfl) (fun _ _ _ h => h) (Or.inl ⟨rfl, ?_⟩) hHeld ?_
  rotate_left
  · (intro wz hSw; go_simp; try with_reducible rfl)
  try simp only [Act.put, List.setIfInBounds_toArray, List.set_cons_zero, List.set_cons_succ]
  refine wpAnyH_take (i := 1) (oi := { dst := some 14, op := Op.move (Operand.tmp 13), type := 4, pos := "law.go:40", after := #[{ on := 0, ground := Ground.data }], guard := none }) (v := ?_) rfl (by kernel_rfl) (by kernel_rfl) (by kernel_rfl) (fun _ _ _ h => h) (Or.inl ⟨rfl, ?_⟩) hHeld ?_
  rotate_left
  · (intro wz hSw; go_simp; try with_reducible rfl)
  try simp only [Act.put, List.setIfInBounds_toArray, List.set_cons_zero, List.set_cons_succ]
  refine wpAnyH_take (i := 2) (oi := { dst := some 15, op := Op.load 26 (Operand.tmp 6), type := 26, pos := "law.go:40", after := #[{ on := 1, ground := Ground.guard }], guard := some (1, true) }) (v := ?_) rfl (by kernel_rfl) (by kernel_rfl) (by kernel_rfl) (fun _ _ _ h => h) (Or.inl ⟨rfl, ?_⟩) hHeld ?_
  rotate_left
  · (intro wz hSw; have o0 := (hXo.out.below hSw).cell 0 (.slice A n1 c) rfl; have o1 := (hXo.out.below hSw).cell 1 (.slice B m1 d) rfl; have o2 := (hXo.out.below hSw).cell 2 (.slice C1 k1 e1) rfl; go_simp; try with_reducible rfl)
  try simp only [Act.put, List.setIfInBounds_toArray, List.set_cons_zero, List.set_cons_succ]
  refine wpAnyH_take (i := 4) (oi := { dst := some 17, op := Op.load 26 (Operand.tmp 6), type := 26, pos := "law.go:40", after := #[{ on := 1, ground := Ground.guard }], guard := some (1, true) }) (v := ?_) rfl (by kernel_rfl) (by kernel_rfl) (by kernel_rfl) (fun _ _ _ h => h) (Or.inl ⟨rfl, ?_⟩) hHeld ?_
  rotate_left
  · (intro wz hSw; have o0 := (hXo.out.below hSw).cell 0 (.slice A n1 c) rfl; have o1 := (hXo.out.below hSw).cell 1 (.slice B m1 d) rfl; have o2 := (hXo.out.below hSw).cell 2 (.slice C1 k1 e1) rfl; go_simp; try with_reducible rfl)
  try simp only [Act.put, List.setIfInBounds_toArray, List.set_cons_zero, List.set_cons_succ]
  refine wpAnyH_ready (rs := [3]) (by kernel_rfl) (by simp) ?_
  refine AllReadyH.cons (o := { dst := some 16, op := Op.call { callee := Callee.value (Operand.func 9), args := #[Operand.tmp 15], argTypes := #[26] }, type := 29, pos := "law.go:40", after := #[{ on := 2, ground := Ground.data }, { on := 1, ground := Ground.chain }, { on := 1, ground := Ground.guard }], guard := some (1, true) }) rfl (fun K hK => ?_) AllReadyH.nil
  go_simp
  go_at_call 9
  refine (C1M.out _ hb6.out).mono ?_
  rintro e w23 ⟨rfl, hE⟩
  clear hHeld
  refine hK.out _ _ hE (fun hHeld => ?_)
  clear hK K
  replace hB := Lib.hid (hB.out.trans (hE.mono hB.out.size))
  replace hb6 := Lib.hid (hb6.out.trans (hE.mono hb6.out.size))
  replace hXo := Lib.hid (hXo.out.below hE)
  replace hZo := Lib.hid (hZo.out.below hE)
  refine wpAnyH_now _ _ _ _ hE (fun hHeld => ?_)
  clear hE
  try simp only [Act.put, List.setIfInBounds_toArray, List.set_cons_zero, List.set_cons_succ]
  refine wpAnyH_ready (rs := [5]) (by kernel_rfl) (by simp) ?_
  refine AllReadyH.cons (o := { dst := some 18, op := Op.call { callee := Callee.value (Operand.func 10), args := #[Operand.tmp 17], argTypes := #[26] }, type := 29, pos := "law.go:40", after := #[{ on := 4, ground := Ground.data }, { on := 3, ground := Ground.chain }, { on := 1, ground := Ground.guard }], guard := some (1, true) }) rfl (fun K hK => ?_) AllReadyH.nil
  go_simp
  go_at_call 10
  refine (C1R.out _ hb6.out).mono ?_
  rintro e w25 ⟨rfl, hE⟩
  clear hHeld
  refine hK.out _ _ hE (fun hHeld => ?_)
  clear hK K
  replace hB := Lib.hid (hB.out.trans (hE.mono hB.out.size))
  replace hb6 := Lib.hid (hb6.out.trans (hE.mono hb6.out.size))
  replace hXo := Lib.hid (hXo.out.below hE)
  replace hZo := Lib.hid (hZo.out.below hE)
  refine wpAnyH_now _ _ _ _ hE (fun hHeld => ?_)
  clear hE
  try simp only [Act.put, List.setIfInBounds_toArray, List.set_cons_zero, List.set_cons_succ]
  refine wpAnyH_take (i := 6) (oi := { dst := some 19, op := Op.binOp BinOp.eql 29 (Operand.tmp 16) (Operand.tmp 18) 29, type := 4, pos := "law.go:40", after := #[{ on := 3, ground := Ground.data }, { on := 5, ground := Ground.data }, { on := 1, ground := Ground.guard }], guard := some (1, true) }) (v := ?_) rfl (by kernel_rfl) (by kernel_rfl) (by kernel_rfl) (fun _ _ _ h => h) (Or.inl ⟨rfl, ?_⟩) hHeld ?_
  rotate_left
  · (intro wz hSw; go_simp; (try simp only [beq_self_eq_true]); try with_reducible rfl)
  try simp only [Act.put, List.setIfInBounds_toArray, List.set_cons_zero, List.set_cons_succ]
  refine wpAnyH_take (i := 7) (oi := { dst := some 20, op := Op.pick (Operand.tmp 14) (Operand.tmp 19) (Operand.const (Value.bool false)), type := 4, pos := "law.go:40", after := #[{ on := 1, ground := Ground.data }, { on := 6, ground := Ground.data }], guard := none }) (v := ?_) rfl (by kernel_rfl) (by kernel_rfl) (by kernel_rfl) (fun _ _ _ h => h) (Or.inl ⟨rfl, ?_⟩) hHeld ?_
  rotate_left
  · (intro wz hSw; go_simp; try with_reducible rfl)
  try simp only [Act.put, List.setIfInBounds_toArray, List.set_cons_zero, List.set_cons_succ]
  refine wpAnyH_take (i := 8) (oi := { dst := some 21, op := Op.move (Operand.tmp 20), type := 4, pos := "law.go:40", after := #[{ on := 7, ground := Ground.data }, { on := 5, ground := Ground.chain }], guard := none }) (v := ?_) rfl (by kernel_rfl) (by kernel_rfl) (by kernel_rfl) (fun _ _ _ h => h) (Or.inl ⟨rfl, ?_⟩) hHeld ?_
  rotate_left
  · (intro wz hSw; go_simp; try with_reducible rfl)
  try simp only [Act.put, List.setIfInBounds_toArray, List.set_cons_zero, List.set_cons_succ]
  refine wpAnyH_take (i := 9) (oi := { dst := some 22, op := Op.load 26 (Operand.tmp 7), type := 26, pos := "law.go:40", after := #[{ on := 8, ground := Ground.guard }], guard := some (8, true) }) (v := ?_) rfl (by kernel_rfl) (by kernel_rfl) (by kernel_rfl) (fun _ _ _ h => h) (Or.inl ⟨rfl, ?_⟩) hHeld ?_
  rotate_left
  · (intro wz hSw; have o0 := (hZo.out.below hSw).cell 0 (.slice A' n2 c') rfl; have o1 := (hZo.out.below hSw).cell 1 (.slice B' m2 d') rfl; have o2 := (hZo.out.below hSw).cell 2 (.slice C2 k2 e2) rfl; go_simp; try with_reducible rfl)
  try simp only [Act.put, List.setIfInBounds_toArray, List.set_cons_zero, List.set_cons_succ]
  refine wpAnyH_take (i := 11) (oi := { dst := some 24, op := Op.load 26 (Operand.tmp 7), type := 26, pos := "law.go:40", after := #[{ on := 8, ground := Ground.guard }], guard := some (8, true) }) (v := ?_) rfl (by kernel_rfl) (by kernel_rfl) (by kernel_rfl) (fun _ _ _ h => h) (Or.inl ⟨rfl, ?_⟩) hHeld ?_
  rotate_left
  · (intro wz hSw; have o0 := (hZo.out.below hSw).cell 0 (.slice A' n2 c') rfl; have o1 := (hZo.out.below hSw).cell 1 (.slice B' m2 d') rfl; have o2 := (hZo.out.below hSw).cell 2 (.slice C2 k2 e2) rfl; go_simp; try with_reducible rfl)
  try simp only [Act.put, List.setIfInBounds_toArray, List.set_cons_zero, List.set_cons_succ]
  refine wpAnyH_ready (rs := [10]) (by kernel_rfl) (by simp) ?_
  refine AllReadyH.cons (o := { dst := some 23, op := Op.call { callee := Callee.value (Operand.func 9), args := #[Operand.tmp 22], argTypes := #[26] }, type := 29, pos := "law.go:40", after := #[{ on := 9, ground := Ground.data }, { on := 8, ground := Ground.chain }, { on := 8, ground := Ground.guard }], guard := some (8, true) }) rfl (fun K hK => ?_) AllReadyH.nil
  go_simp
  go_at_call 9
  refine (C2M.out _ hb6.out).mono ?_
  rintro e w30 ⟨rfl, hE⟩
  clear hHeld
  refine hK.out _ _ hE (fun hHeld => ?_)
  clear hK K
  replace hB := Lib.hid (hB.out.trans (hE.mono hB.out.size))
  replace hb6 := Lib.hid (hb6.out.trans (hE.mono hb6.out.size))
  replace hXo := Lib.hid (hXo.out.below hE)
  replace hZo := Lib.hid (hZo.out.below hE)
  refine wpAnyH_now _ _ _ _ hE (fun hHeld => ?_)
  clear hE
  try simp only [Act.put, List.setIfInBounds_toArray, List.set_cons_zero, List.set_cons_succ]
  refine wpAnyH_ready (rs := [12]) (by kernel_rfl) (by simp) ?_
  refine AllReadyH.cons (o := { dst := some 25, op := Op.call { callee := Callee.value (Operand.func 10), args := #[Operand.tmp 24], argTypes := #[26] }, type := 29, pos := "law.go:40", after := #[{ on := 11, ground := Ground.data }, { on := 10, ground := Ground.chain }, { on := 8, ground := Ground.guard }], guard := some (8, true) }) rfl (fun K hK => ?_) AllReadyH.nil
  go_simp
  go_at_call 10
  refine (C2R.out _ hb6.out).mono ?_
  rintro e w32 ⟨rfl, hE⟩
  clear hHeld
  refine hK.out _ _ hE (fun hHeld => ?_)
  clear hK K
  replace hB := Lib.hid (hB.out.trans (hE.mono hB.out.size))
  replace hb6 := Lib.hid (hb6.out.trans (hE.mono hb6.out.size))
  replace hXo := Lib.hid (hXo.out.below hE)
  replace hZo := Lib.hid (hZo.out.below hE)
  refine wpAnyH_now _ _ _ _ hE (fun hHeld => ?_)
  clear hE
  try simp only [Act.put, List.setIfInBounds_toArray, List.set_cons_zero, List.set_cons_succ]
  refine wpAnyH_take (i := 13) (oi := { dst := some 26, op := Op.binOp BinOp.eql 29 (Operand.tmp 23) (Operand.tmp 25) 29, type := 4, pos := "law.go:40", after := #[{ on := 10, ground := Ground.data }, { on := 12, ground := Ground.data }, { on := 8, ground := Ground.guard }], guard := some (8, true) }) (v := ?_) rfl (by kernel_rfl) (by kernel_rfl) (by kernel_rfl) (fun _ _ _ h => h) (Or.inl ⟨rfl, ?_⟩) hHeld ?_
  rotate_left
  · (intro wz hSw; go_simp; (try simp only [beq_self_eq_true]); try with_reducible rfl)
  try simp only [Act.put, List.setIfInBounds_toArray, List.set_cons_zero, List.set_cons_succ]
  refine wpAnyH_take (i := 14) (oi := { dst := some 27, op := Op.pick (Operand.tmp 21) (Operand.tmp 26) (Operand.const (Value.bool false)), type := 4, pos := "law.go:40", after := #[{ on := 8, ground := Ground.data }, { on := 13, ground := Ground.data }], guard := none }) (v := ?_) rfl (by kernel_rfl) (by kernel_rfl) (by kernel_rfl) (fun _ _ _ h => h) (Or.inl ⟨rfl, ?_⟩) hHeld ?_
  rotate_left
  · (intro wz hSw; go_simp; try with_reducible rfl)
  try simp only [Act.put, List.setIfInBounds_toArray, List.set_cons_zero, List.set_cons_succ]
  refine wpAnyH_take (i := 15) (oi := { dst := some 28, op := Op.move (Operand.tmp 27), type := 4, pos := "law.go:40", after := #[{ on := 14, ground := Ground.data }, { on := 12, ground := Ground.chain }], guard := none }) (v := ?_) rfl (by kernel_rfl) (by kernel_rfl) (by kernel_rfl) (fun _ _ _ h => h) (Or.inl ⟨rfl, ?_⟩) hHeld ?_
  rotate_left
  · (intro wz hSw; go_simp; try with_reducible rfl)
  try simp only [Act.put, List.setIfInBounds_toArray, List.set_cons_zero, List.set_cons_succ]
  refine wpAnyH_take (i := 16) (oi := { dst := some 29, op := Op.load 26 (Operand.tmp 6), type := 26, pos := "law.go:40", after := #[{ on := 15, ground := Ground.guard }], guard := some (15, true) }) (v := ?_) rfl (by kernel_rfl) (by kernel_rfl) (by kernel_rfl) (fun _ _ _ h => h) (Or.inl ⟨rfl, ?_⟩) hHeld ?_
  rotate_left
  · (intro wz hSw; have o0 := (hXo.out.below hSw).cell 0 (.slice A n1 c) rfl; have o1 := (hXo.out.below hSw).cell 1 (.slice B m1 d) rfl; have o2 := (hXo.out.below hSw).cell 2 (.slice C1 k1 e1) rfl; go_simp; try with_reducible rfl)
  try simp only [Act.put, List.setIfInBounds_toArray, List.set_cons_zero, List.set_cons_succ]
  refine wpAnyH_take (i := 17) (oi := { dst := some 30, op := Op.load 26 (Operand.tmp 7), type := 26, pos := "law.go:40", after := #[{ on := 15, ground := Ground.guard }], guard := some (15, true) }) (v := ?_) rfl (by kernel_rfl) (by kernel_rfl) (by kernel_rfl) (fun _ _ _ h => h) (Or.inl ⟨rfl, ?_⟩) hHeld ?_
  rotate_left
  · (intro wz hSw; have o0 := (hZo.out.below hSw).cell 0 (.slice A' n2 c') rfl; have o1 := (hZo.out.below hSw).cell 1 (.slice B' m2 d') rfl; have o2 := (hZo.out.below hSw).cell 2 (.slice C2 k2 e2) rfl; go_simp; try with_reducible rfl)
  try simp only [Act.put, List.setIfInBounds_toArray, List.set_cons_zero, List.set_cons_succ]
  refine wpAnyH_take (i := 19) (oi := { dst := some 32, op := Op.load 26 (Operand.tmp 6), type := 26, pos := "law.go:40", after := #[{ on := 15, ground := Ground.guard }], guard := some (15, true) }) (v := ?_) rfl (by kernel_rfl) (by kernel_rfl) (by kernel_rfl) (fun _ _ _ h => h) (Or.inl ⟨rfl, ?_⟩) hHeld ?_
  rotate_left
  · (intro wz hSw; have o0 := (hXo.out.below hSw).cell 0 (.slice A n1 c) rfl; have o1 := (hXo.out.below hSw).cell 1 (.slice B m1 d) rfl; have o2 := (hXo.out.below hSw).cell 2 (.slice C1 k1 e1) rfl; go_simp; try with_reducible rfl)
  try simp only [Act.put, List.setIfInBounds_toArray, List.set_cons_zero, List.set_cons_succ]
  refine wpAnyH_take (i := 20) (oi := { dst := some 33, op := Op.load 26 (Operand.tmp 7), type := 26, pos := "law.go:40", after := #[{ on := 15, ground := Ground.guard }], guard := some (15, true) }) (v := ?_) rfl (by kernel_rfl) (by kernel_rfl) (by kernel_rfl) (fun _ _ _ h => h) (Or.inl ⟨rfl, ?_⟩) hHeld ?_
  rotate_left
  · (intro wz hSw; have o0 := (hZo.out.below hSw).cell 0 (.slice A' n2 c') rfl; have o1 := (hZo.out.below hSw).cell 1 (.slice B' m2 d') rfl; have o2 := (hZo.out.below hSw).cell 2 (.slice C2 k2 e2) rfl; go_simp; try with_reducible rfl)
  try simp only [Act.put, List.setIfInBounds_toArray, List.set_cons_zero, List.set_cons_succ]
  refine wpAnyH_ready (rs := [18]) (by kernel_rfl) (by simp) ?_
  refine AllReadyH.cons (o := { dst := some 31, op := Op.call { callee := Callee.value (Operand.func 11), args := #[Operand.tmp 29, Operand.tmp 30], argTypes := #[26, 26] }, type := 4, pos := "law.go:40", after := #[{ on := 16, ground := Ground.data }, { on := 17, ground := Ground.data }, { on := 15, ground := Ground.chain }, { on := 15, ground := Ground.guard }], guard := some (15, true) }) rfl (fun K hK => ?_) AllReadyH.nil
  go_simp
  go_at_call 11
  refine (C3S.out _ hb6.out).mono ?_
  rintro e w38 ⟨rfl, hE⟩
  clear hHeld
  refine hK.out _ _ hE (fun hHeld => ?_)
  clear hK K
  replace hB := Lib.hid (hB.out.trans (hE.mono hB.out.size))
  replace hb6 := Lib.hid (hb6.out.trans (hE.mono hb6.out.size))
  replace hXo := Lib.hid (hXo.out.below hE)
  replace hZo := Lib.hid (hZo.out.below hE)
  refine wpAnyH_now _ _ _ _ hE (fun hHeld => ?_)
  clear hE
  try simp only [Act.put, List.setIfInBounds_toArray, List.set_cons_zero, List.set_cons_succ]
  refine wpAnyH_ready (rs := [21]) (by kernel_rfl) (by simp) ?_
  refine AllReadyH.cons (o := { dst := some 34, op := Op.call { callee := Callee.value (Operand.func 12), args := #[Operand.tmp 32, Operand.tmp 33], argTypes := #[26, 26] }, type := 4, pos := "law.go:40", after := #[{ on := 19, ground := Ground.data }, { on := 20, ground := Ground.data }, { on := 18, ground := Ground.chain }, { on := 15, ground := Ground.guard }], guard := some (15, true) }) rfl (fun K hK => ?_) AllReadyH.nil
  go_simp
  go_at_call 12
  refine (C3R.out _ hb6.out).mono ?_
  rintro e w41 ⟨rfl, hE⟩
  clear hHeld
  refine hK.out _ _ hE (fun hHeld => ?_)
  clear hK K
  replace hB := Lib.hid (hB.out.trans (hE.mono hB.out.size))
  replace hb6 := Lib.hid (hb6.out.trans (hE.mono hb6.out.size))
  replace hXo := Lib.hid (hXo.out.below hE)
  replace hZo := Lib.hid (hZo.out.below hE)
  refine wpAnyH_now _ _ _ _ hE (fun hHeld => ?_)
  clear hE
  try simp only [Act.put, List.setIfInBounds_toArray, List.set_cons_zero, List.set_cons_succ]
  refine wpAnyH_take (i := 22) (oi := { dst := some 35, op := Op.binOp BinOp.eql 4 (Operand.tmp 31) (Operand.tmp 34) 4, type := 4, pos := "law.go:40", after := #[{ on := 18, ground := Ground.data }, { on := 21, ground := Ground.data }, { on := 15, ground := Ground.guard }], guard := some (15, true) }) (v := ?_) rfl (by kernel_rfl) (by kernel_rfl) (by kernel_rfl) (fun _ _ _ h => h) (Or.inl ⟨rfl, ?_⟩) hHeld ?_
  rotate_left
  · (intro wz hSw; go_simp; (try simp only [beq_self_eq_true]); try with_reducible rfl)
  try simp only [Act.put, List.setIfInBounds_toArray, List.set_cons_zero, List.set_cons_succ]
  refine wpAnyH_take (i := 23) (oi := { dst := some 36, op := Op.pick (Operand.tmp 28) (Operand.tmp 35) (Operand.const (Value.bool false)), type := 4, pos := "law.go:40", after := #[{ on := 15, ground := Ground.data }, { on := 22, ground := Ground.data }], guard := none }) (v := ?_) rfl (by kernel_rfl) (by kernel_rfl) (by kernel_rfl) (fun _ _ _ h => h) (Or.inl ⟨rfl, ?_⟩) hHeld ?_
  rotate_left
  · (intro wz hSw; go_simp; try with_reducible rfl)
  try simp only [Act.put, List.setIfInBounds_toArray, List.set_cons_zero, List.set_cons_succ]
  refine wpAnyH_take (i := 24) (oi := { dst := some 37, op := Op.move (Operand.tmp 36), type := 4, pos := "law.go:40", after := #[{ on := 23, ground := Ground.data }, { on := 21, ground := Ground.chain }], guard := none }) (v := ?_) rfl (by kernel_rfl) (by kernel_rfl) (by kernel_rfl) (fun _ _ _ h => h) (Or.inl ⟨rfl, ?_⟩) hHeld ?_
  rotate_left
  · (intro wz hSw; go_simp; try with_reducible rfl)
  try simp only [Act.put, List.setIfInBounds_toArray, List.set_cons_zero, List.set_cons_succ]
  refine wpAnyH_take (i := 25) (oi := { dst := some 38, op := Op.load 26 (Operand.tmp 6), type := 26, pos := "law.go:40", after := #[{ on := 24, ground := Ground.guard }], guard := some (24, true) }) (v := ?_) rfl (by kernel_rfl) (by kernel_rfl) (by kernel_rfl) (fun _ _ _ h => h) (Or.inl ⟨rfl, ?_⟩) hHeld ?_
  rotate_left
  · (intro wz hSw; have o0 := (hXo.out.below hSw).cell 0 (.slice A n1 c) rfl; have o1 := (hXo.out.below hSw).cell 1 (.slice B m1 d) rfl; have o2 := (hXo.out.below hSw).cell 2 (.slice C1 k1 e1) rfl; go_simp; try with_reducible rfl)
  try simp only [Act.put, List.setIfInBounds_toArray, List.set_cons_zero, List.set_cons_succ]
  refine wpAnyH_take (i := 26) (oi := { dst := some 39, op := Op.load 26 (Operand.tmp 6), type := 26, pos := "law.go:40", after := #[{ on := 24, ground := Ground.guard }], guard := some (24, true) }) (v := ?_) rfl (by kernel_rfl) (by kernel_rfl) (by kernel_rfl) (fun _ _ _ h => h) (Or.inl ⟨rfl, ?_⟩) hHeld ?_
  rotate_left
  · (intro wz hSw; have o0 := (hXo.out.below hSw).cell 0 (.slice A n1 c) rfl; have o1 := (hXo.out.below hSw).cell 1 (.slice B m1 d) rfl; have o2 := (hXo.out.below hSw).cell 2 (.slice C1 k1 e1) rfl; go_simp; try with_reducible rfl)
  try simp only [Act.put, List.setIfInBounds_toArray, List.set_cons_zero, List.set_cons_succ]
  refine wpAnyH_ready (rs := [27]) (by kernel_rfl) (by simp) ?_
  refine AllReadyH.cons (o := { dst := some 40, op := Op.call { callee := Callee.value (Operand.func 11), args := #[Operand.tmp 38, Operand.tmp 39], argTypes := #[26, 26] }, type := 4, pos := "law.go:40", after := #[{ on := 25, ground := Ground.data }, { on := 26, ground := Ground.data }, { on := 24, ground := Ground.chain }, { on := 24, ground := Ground.guard }], guard := some (24, true) }) rfl (fun K hK => ?_) AllReadyH.nil
  go_simp
  go_at_call 11
  refine (C4S.out _ hb6.out).mono ?_
  rintro e w47 ⟨rfl, hE⟩
  clear hHeld
  refine hK.out _ _ hE (fun hHeld => ?_)
  clear hK K
  replace hB := Lib.hid (hB.out.trans (hE.mono hB.out.size))
  replace hb6 := Lib.hid (hb6.out.trans (hE.mono hb6.out.size))
  replace hXo := Lib.hid (hXo.out.below hE)
  replace hZo := Lib.hid (hZo.out.below hE)
  refine wpAnyH_now _ _ _ _ hE (fun hHeld => ?_)
  clear hE
  try simp only [Act.put, List.setIfInBounds_toArray, List.set_cons_zero, List.set_cons_succ]
  refine wpAnyH_take (i := 28) (oi := { dst := some 41, op := Op.pick (Operand.tmp 37) (Operand.tmp 40) (Operand.const (Value.bool false)), type := 4, pos := "law.go:40", after := #[{ on := 24, ground := Ground.data }, { on := 27, ground := Ground.data }], guard := none }) (v := ?_) rfl (by kernel_rfl) (by kernel_rfl) (by kernel_rfl) (fun _ _ _ h => h) (Or.inl ⟨rfl, ?_⟩) hHeld ?_
  rotate_left
  · (intro wz hSw; go_simp; try with_reducible rfl)
  try simp only [Act.put, List.setIfInBounds_toArray, List.set_cons_zero, List.set_cons_succ]
  refine wpAnyH_take (i := 29) (oi := { dst := some 42, op := Op.move (Operand.tmp 41), type := 4, pos := "law.go:40", after := #[{ on := 28, ground := Ground.data }, { on := 27, ground := Ground.chain }], guard := none }) (v := ?_) rfl (by kernel_rfl) (by kernel_rfl) (by kernel_rfl) (fun _ _ _ h => h) (Or.inl ⟨rfl, ?_⟩) hHeld ?_
  rotate_left
  · (intro wz hSw; go_simp; try with_reducible rfl)
  try simp only [Act.put, List.setIfInBounds_toArray, List.set_cons_zero, List.set_cons_succ]
  refine wpAnyH_take (i := 30) (oi := { dst := some 43, op := Op.load 26 (Operand.tmp 7), type := 26, pos := "law.go:40", after := #[{ on := 29, ground := Ground.guard }], guard := some (29, true) }) (v := ?_) rfl (by kernel_rfl) (by kernel_rfl) (by kernel_rfl) (fun _ _ _ h => h) (Or.inl ⟨rfl, ?_⟩) hHeld ?_
  rotate_left
  · (intro wz hSw; have o0 := (hZo.out.below hSw).cell 0 (.slice A' n2 c') rfl; have o1 := (hZo.out.below hSw).cell 1 (.slice B' m2 d') rfl; have o2 := (hZo.out.below hSw).cell 2 (.slice C2 k2 e2) rfl; go_simp; try with_reducible rfl)
  try simp only [Act.put, List.setIfInBounds_toArray, List.set_cons_zero, List.set_cons_succ]
  refine wpAnyH_take (i := 31) (oi := { dst := some 44, op := Op.load 26 (Operand.tmp 6), type := 26, pos := "law.go:40", after := #[{ on := 29, ground := Ground.guard }], guard := some (29, true) }) (v := ?_) rfl (by kernel_rfl) (by kernel_rfl) (by kernel_rfl) (fun _ _ _ h => h) (Or.inl ⟨rfl, ?_⟩) hHeld ?_
  rotate_left
  · (intro wz hSw; have o0 := (hXo.out.below hSw).cell 0 (.slice A n1 c) rfl; have o1 := (hXo.out.below hSw).cell 1 (.slice B m1 d) rfl; have o2 := (hXo.out.below hSw).cell 2 (.slice C1 k1 e1) rfl; go_simp; try with_reducible rfl)
  try simp only [Act.put, List.setIfInBounds_toArray, List.set_cons_zero, List.set_cons_succ]
  refine wpAnyH_take (i := 33) (oi := { dst := some 46, op := Op.load 26 (Operand.tmp 6), type := 26, pos := "law.go:40", after := #[{ on := 29, ground := Ground.guard }], guard := some (29, true) }) (v := ?_) rfl (by kernel_rfl) (by kernel_rfl) (by kernel_rfl) (fun _ _ _ h => h) (Or.inl ⟨rfl, ?_⟩) hHeld ?_
  rotate_left
  · (intro wz hSw; have o0 := (hXo.out.below hSw).cell 0 (.slice A n1 c) rfl; have o1 := (hXo.out.below hSw).cell 1 (.slice B m1 d) rfl; have o2 := (hXo.out.below hSw).cell 2 (.slice C1 k1 e1) rfl; go_simp; try with_reducible rfl)
  try simp only [Act.put, List.setIfInBounds_toArray, List.set_cons_zero, List.set_cons_succ]
  refine wpAnyH_take (i := 34) (oi := { dst := some 47, op := Op.load 26 (Operand.tmp 7), type := 26, pos := "law.go:40", after := #[{ on := 29, ground := Ground.guard }], guard := some (29, true) }) (v := ?_) rfl (by kernel_rfl) (by kernel_rfl) (by kernel_rfl) (fun _ _ _ h => h) (Or.inl ⟨rfl, ?_⟩) hHeld ?_
  rotate_left
  · (intro wz hSw; have o0 := (hZo.out.below hSw).cell 0 (.slice A' n2 c') rfl; have o1 := (hZo.out.below hSw).cell 1 (.slice B' m2 d') rfl; have o2 := (hZo.out.below hSw).cell 2 (.slice C2 k2 e2) rfl; go_simp; try with_reducible rfl)
  try simp only [Act.put, List.setIfInBounds_toArray, List.set_cons_zero, List.set_cons_succ]
  refine wpAnyH_ready (rs := [32]) (by kernel_rfl) (by simp) ?_
  refine AllReadyH.cons (o := { dst := some 45, op := Op.call { callee := Callee.value (Operand.func 11), args := #[Operand.tmp 43, Operand.tmp 44], argTypes := #[26, 26] }, type := 4, pos := "law.go:40", after := #[{ on := 30, ground := Ground.data }, { on := 31, ground := Ground.data }, { on := 29, ground := Ground.chain }, { on := 29, ground := Ground.guard }], guard := some (29, true) }) rfl (fun K hK => ?_) AllReadyH.nil
  go_simp
  go_at_call 11
  refine (C5S.out _ hb6.out).mono ?_
  rintro e w52 ⟨rfl, hE⟩
  clear hHeld
  refine hK.out _ _ hE (fun hHeld => ?_)
  clear hK K
  replace hB := Lib.hid (hB.out.trans (hE.mono hB.out.size))
  replace hb6 := Lib.hid (hb6.out.trans (hE.mono hb6.out.size))
  replace hXo := Lib.hid (hXo.out.below hE)
  replace hZo := Lib.hid (hZo.out.below hE)
  refine wpAnyH_now _ _ _ _ hE (fun hHeld => ?_)
  clear hE
  try simp only [Act.put, List.setIfInBounds_toArray, List.set_cons_zero, List.set_cons_succ]
  refine wpAnyH_ready (rs := [35]) (by kernel_rfl) (by simp) ?_
  refine AllReadyH.cons (o := { dst := some 48, op := Op.call { callee := Callee.value (Operand.func 11), args := #[Operand.tmp 46, Operand.tmp 47], argTypes := #[26, 26] }, type := 4, pos := "law.go:40", after := #[{ on := 33, ground := Ground.data }, { on := 34, ground := Ground.data }, { on := 32, ground := Ground.chain }, { on := 29, ground := Ground.guard }], guard := some (29, true) }) rfl (fun K hK => ?_) AllReadyH.nil
  go_simp
  go_at_call 11
  refine (C3S.out _ hb6.out).mono ?_
  rintro e w55 ⟨rfl, hE⟩
  clear hHeld
  refine hK.out _ _ hE (fun hHeld => ?_)
  clear hK K
  replace hB := Lib.hid (hB.out.trans (hE.mono hB.out.size))
  replace hb6 := Lib.hid (hb6.out.trans (hE.mono hb6.out.size))
  replace hXo := Lib.hid (hXo.out.below hE)
  replace hZo := Lib.hid (hZo.out.below hE)
  refine wpAnyH_now _ _ _ _ hE (fun hHeld => ?_)
  clear hE
  try simp only [Act.put, List.setIfInBounds_toArray, List.set_cons_zero, List.set_cons_succ]
  refine wpAnyH_take (i := 36) (oi := { dst := some 49, op := Op.binOp BinOp.eql 4 (Operand.tmp 45) (Operand.tmp 48) 4, type := 4, pos := "law.go:40", after := #[{ on := 32, ground := Ground.data }, { on := 35, ground := Ground.data }, { on := 29, ground := Ground.guard }], guard := some (29, true) }) (v := ?_) rfl (by kernel_rfl) (by kernel_rfl) (by kernel_rfl) (fun _ _ _ h => h) (Or.inl ⟨rfl, ?_⟩) hHeld ?_
  rotate_left
  · (intro wz hSw; go_simp; (try simp only [beq_self_eq_true]); try with_reducible rfl)
  try simp only [Act.put, List.setIfInBounds_toArray, List.set_cons_zero, List.set_cons_succ]
  refine wpAnyH_take (i := 37) (oi := { dst := some 50, op := Op.pick (Operand.tmp 42) (Operand.tmp 49) (Operand.const (Value.bool false)), type := 4, pos := "law.go:40", after := #[{ on := 29, ground := Ground.data }, { on := 36, ground := Ground.data }], guard := none }) (v := ?_) rfl (by kernel_rfl) (by kernel_rfl) (by kernel_rfl) (fun _ _ _ h => h) (Or.inl ⟨rfl, ?_⟩) hHeld ?_
  rotate_left
  · (intro wz hSw; go_simp; try with_reducible rfl)
  try simp only [Act.put, List.setIfInBounds_toArray, List.set_cons_zero, List.set_cons_succ]
  refine wpAnyH_take (i := 38) (oi := { dst := some 4, op := Op.assign (Operand.tmp 50), type := 4, pos := "law.go:40", after := #[{ on := 37, ground := Ground.data }, { on := 35, ground := Ground.chain }, { on := 0, ground := Ground.phase }, { on := 1, ground := Ground.phase }, { on := 2, ground := Ground.phase }, { on := 3, ground := Ground.phase }, { on := 4, ground := Ground.phase }, { on := 5, ground := Ground.phase }, { on := 6, ground := Ground.phase }, { on := 7, ground := Ground.phase }, { on := 8, ground := Ground.phase }, { on := 9, ground := Ground.phase }, { on := 10, ground := Ground.phase }, { on := 11, ground := Ground.phase }, { on := 12, ground := Ground.phase }, { on := 13, ground := Ground.phase }, { on := 14, ground := Ground.phase }, { on := 15, ground := Ground.phase }, { on := 16, ground := Ground.phase }, { on := 17, ground := Ground.phase }, { on := 18, ground := Ground.phase }, { on := 19, ground := Ground.phase }, { on := 20, ground := Ground.phase }, { on := 21, ground := Ground.phase }, { on := 22, ground := Ground.phase }, { on := 23, ground := Ground.phase }, { on := 24, ground := Ground.phase }, { on := 25, ground := Ground.phase }, { on := 26, ground := Ground.phase }, { on := 27, ground := Ground.phase }, { on := 28, ground := Ground.phase }, { on := 29, ground := Ground.phase }, { on := 30, ground := Ground.phase }, { on := 31, ground := Ground.phase }, { on := 32, ground := Ground.phase }, { on := 33, ground := Ground.phase }, { on := 34, ground := Ground.phase }, { on := 35, ground := Ground.phase }, { on := 36, ground := Ground.phase }, { on := 37, ground := Ground.phase }], guard := none }) (v := ?_) rfl (by kernel_rfl) (by kernel_rfl) (by kernel_rfl) (fun _ _ _ h => h) (Or.inl ⟨rfl, ?_⟩) hHeld ?_
  rotate_left
  · (intro wz hSw; go_simp; try with_reducible rfl)
  try simp only [Act.put, List.setIfInBounds_toArray, List.set_cons_zero, List.set_cons_succ]
  refine wpAnyH_done (by kernel_rfl) ?_ _
  go_wp2
  go_ret
  exact ⟨rfl, hB.out⟩
end Go.Proofs.Ythnpdlejgpcgoaa
