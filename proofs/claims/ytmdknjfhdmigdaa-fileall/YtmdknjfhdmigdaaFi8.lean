/-
  What the laws of package file stand on: fewOf, the document's example.
-/
import Derived.Test.YtmdknjfhdmigdaaFi7
namespace Go.Proofs.Ytmdknjfhdmigdaa
open Go.RowKit
set_option linter.unusedVariables false
set_option linter.unusedSimpArgs false
set_option maxRecDepth 100000
theorem Fi.fewOf_any (w : World) (A : Option Addr) (n c : Nat) (xs : List Int) (hx : By w A n c xs) :
    Calls Try.prog 14 #[.slice A n c] w fun e w' => e = .returned (.slice A (min n 400) c) ∧ w = w' := by
  have h1 := hx.le
  have h2 := hx.max
  unfold maxLen at h2
  clear hx
  by_cases c1 : n ≤ 400
  · rw [Nat.min_eq_left c1]
    go_enter Try.func14, Try.ntmps14
    go_wp2
    go_ret
    exact ⟨rfl, rfl⟩
  · rw [Nat.min_eq_right (by omega)]
    go_enter Try.func14, Try.ntmps14
    go_wp2
    go_ret
    exact ⟨rfl, rfl⟩
theorem Fi.put_byt {W S : List Int} {Y : List Ob.Y} (h : Fi.Ok W S Y) : L.Byt (Fi.put W S Y) := by
  intro x hx
  unfold Fi.put at hx
  rcases List.mem_append.1 hx with hx | hx
  · rcases List.mem_append.1 hx with hx | hx
    · exact L.put_byt _ x hx
    · exact L.put_byt _ x hx
  · obtain ⟨y, hy, hx⟩ := List.mem_flatMap.1 hx
    unfold Fi.one at hx
    rcases List.mem_append.1 hx with hx | hx
    · exact L.nameB_byt _ (L.bs_rng y.1) (L.name_len (h.hN y hy).1).2 x hx
    · rw [Fi.four_put] at hx; exact L.put_byt _ x hx
theorem Fi.pB_byt {W S : List Int} {Y : List Ob.Y} (hr : ∀ x ∈ W, 0 ≤ x ∧ x < 4294967296) : L.Byt (Fi.pB W S Y) := by
  unfold Fi.pB
  split
  · rename_i h
    exact Fi.put_byt (Fi.may_ok hr h)
  · intro x hx; cases hx
theorem Fi.ex_may : Ob.may [7] [] [] = 0 := by decide +kernel
theorem Fi.ex_put : Fi.pB [7] [] [] = L.put [894847314, 1, 0, 0, 7] := by decide +kernel
theorem Fi.ex_take : Fi.take (L.put [894847314, 1, 0, 0, 7]) = .ok ([7], [], []) := by
  have := Fi.take_words (w := [7]) (by simp) (by simp)
  rw [← L.put_append] at this
  exact this
set_option maxHeartbeats 4000000 in
set_option maxRecDepth 100000 in
theorem Fi.shown_any (w : World) : Calls Try.prog 9 #[] w fun e w' => e = .returned (.bool true) ∧ Below w.heap.size w w' := by
  have hA := ((Kept.refl w).alloc #[.int .u32 7] 45).below
  have hX := Lib.hid (Rw.one (L := 4294967296) (Has.new #[.int .u32 7] 45 w) (by omega) (by omega))
  have hS1 : w.heap.size ≤ (w.alloc (.cells #[.int .u32 7] 45)).heap.size := hA.size
  have hB := Lib.hid hA
  clear hA
  go_enter Try.func9, Try.ntmps9
  go_wp2_with (fail)
  generalize w.alloc (.cells #[.int .u32 7] 45) = w1 at *
  refine (Fi.put_any hX.out (Rg.empty .i64 w1) (Sy.empty w1) (by simp)).mono ?_; rintro r w2 ⟨A2, n2, c2, rfl, hP, hE⟩
  rw [Fi.ex_may]
  rw [Fi.ex_put] at hP
  have hP2 := hP.rg.rw (L := 256) (L.put_byt _)
  have hn2 : n2 = 20 := by rw [← hP2.len]; decide +kernel
  subst hn2
  replace hB := Lib.hid (hB.out.trans (hE.mono hS1))
  have hS2 : w.heap.size ≤ w2.heap.size := Nat.le_trans hS1 hE.size
  replace hP := Lib.hid hP2
  clear hE hX hP2
  go_wp2_with (fail)
  refine (Fi.take_any hP.out (by omega)).mono ?_; rintro r w3 ⟨A3, n3, c3, B3, m3, d3, C3, k3, f3, rfl, hW, hSi, hY, hE⟩
  rw [Fi.ex_take] at hW hSi hY ⊢
  have hn3 : n3 = 1 := by rw [← hW.len]; rfl
  subst hn3
  rw [show Fi.tE (.ok ([7], [], [])) = 0 from rfl]
  have hA := ((Kept.refl w3).alloc #[.slice A3 1 c3, .slice B3 m3 d3, .slice C3 k3 f3] 26).below
  have hB3 := hB.out.trans (hE.mono hS2)
  have hO := Lib.hid (Has.new #[.slice A3 1 c3, .slice B3 m3 d3, .slice C3 k3 f3] 26 w3)
  replace hB := Lib.hid (hB3.trans (hA.mono hB3.size))
  replace hP := Lib.hid ((hP.out.below hE).below hA)
  clear hE hA hB3 hW hSi hY
  go_wp2_with (fail)
  generalize w3.alloc (.cells #[.slice A3 1 c3, .slice B3 m3 d3, .slice C3 k3 f3] 26) = w4 at *
  generalize w3.heap.size = Bo at *
  refine wp_region_held_drew (S := fun w' => Below w4.heap.size w4 w') (by kernel_rfl) ((Below.refl _ _).drew) (fun hHeld => ?_)
  replace hB := Lib.hid (hB.out.trans (hHeld.mono hB.out.size))
  replace hP := Lib.hid (hP.out.below hHeld)
  replace hO := Lib.hid (hO.out.below hHeld)
  refine wpAnyH_now _ _ _ _ hHeld (fun hHeld => ?_)
  generalize w4.drew = w4d at *
  refine wpAnyH_take (i := 0) (oi := { dst := some 16, op := Op.move (Operand.tmp 1), type := 27, pos := "law.go:17", after := #[], guard := none }) (v := ?_) rfl (by kernel_rfl) (by kernel_rfl) (by kernel_rfl) (fun _ _ _ h => h) (Or.inl ⟨rfl, ?_⟩) hHeld ?_
  rotate_left
  · (intro wz hSw; go_simp; try with_reducible rfl)
  try simp only [Act.put, List.setIfInBounds_toArray, List.set_cons_zero, List.set_cons_succ]
  refine wpAnyH_take (i := 1) (oi := { dst := some 17, op := Op.convert 27 9 (Operand.tmp 16), type := 9, pos := "law.go:17", after := #[{ on := 0, ground := Ground.data }], guard := none }) (v := ?_) rfl (by kernel_rfl) (by kernel_rfl) (by kernel_rfl) (fun _ _ _ h => h) (Or.inl ⟨rfl, ?_⟩) hHeld ?_
  rotate_left
  · (intro wz hSw; refine exec_text Try.underlying27 Try.underlying5 Try.underlying9 (.tmp 16) ?_ ?_ (hP.out.below hSw) <;> rfl)
  try simp only [Act.put, List.setIfInBounds_toArray, List.set_cons_zero, List.set_cons_succ]
  refine wpAnyH_ready (rs := [2]) (by kernel_rfl) (by simp) ?_
  refine AllReadyH.cons (o := { dst := some 18, op := Op.buildSlice 22 5 #[(0, Operand.const (Value.int IntKind.u32 894847314)), (1, Operand.const (Value.int IntKind.u32 1)), (2, Operand.const (Value.int IntKind.u32 0)), (3, Operand.const (Value.int IntKind.u32 0)), (4, Operand.const (Value.int IntKind.u32 7))], type := 22, pos := "law.go:17", after := #[], guard := none }) rfl (fun K hK => ?_) AllReadyH.nil
  go_simp
  have hE := ((Kept.refl w4d).alloc #[.int .u32 894847314, .int .u32 1, .int .u32 0, .int .u32 0, .int .u32 7] 45).below
  have hZ := Lib.hid (Rw.of (k := .u32) (L := 4294967296) [894847314, 1, 0, 0, 7] (Has.new #[.int .u32 894847314, .int .u32 1, .int .u32 0, .int .u32 0, .int .u32 7] 45 w4d) (by simp [maxLen]) (by decide))
  generalize w4d.alloc (.cells #[.int .u32 894847314, .int .u32 1, .int .u32 0, .int .u32 0, .int .u32 7] 45) = w5 at *
  clear hHeld
  refine hK.out _ _ hE (fun hHeld => ?_)
  clear hK K
  replace hB := Lib.hid (hB.out.trans (hE.mono hB.out.size))
  replace hP := Lib.hid (hP.out.below hE)
  replace hO := Lib.hid (hO.out.below hE)
  refine wpAnyH_now _ _ _ _ hE (fun hHeld => ?_)
  clear hE
  try simp only [Act.put, List.setIfInBounds_toArray, List.set_cons_zero, List.set_cons_succ]
  refine wpAnyH_ready (rs := [3]) (by kernel_rfl) (by simp) ?_
  refine AllReadyH.cons (o := { dst := some 19, op := Op.call { callee := Callee.value (Operand.func 20), args := #[Operand.tmp 18], argTypes := #[22] }, type := 27, pos := "law.go:17", after := #[{ on := 2, ground := Ground.data }], guard := none }) rfl (fun K hK => ?_) AllReadyH.nil
  go_simp
  go_at_call 20
  refine (L.put_any hZ.out (by decide)).mono ?_
  rintro r w6 ⟨g6, c6, rfl, hQ, hE⟩
  clear hHeld
  refine hK.out _ _ hE (fun hHeld => ?_)
  clear hK K
  replace hB := Lib.hid (hB.out.trans (hE.mono hB.out.size))
  replace hP := Lib.hid (hP.out.below hE)
  replace hO := Lib.hid (hO.out.below hE)
  replace hZ := Lib.hid (hZ.out.below hE)
  replace hQ := Lib.hid hQ
  refine wpAnyH_now _ _ _ _ hE (fun hHeld => ?_)
  clear hE
  try simp only [Act.put, List.setIfInBounds_toArray, List.set_cons_zero, List.set_cons_succ]
  refine wpAnyH_take (i := 4) (oi := { dst := some 20, op := Op.convert 27 9 (Operand.tmp 19), type := 9, pos := "law.go:17", after := #[{ on := 3, ground := Ground.data }], guard := none }) (v := ?_) rfl (by kernel_rfl) (by kernel_rfl) (by kernel_rfl) (fun _ _ _ h => h) (Or.inl ⟨rfl, ?_⟩) hHeld ?_
  rotate_left
  · (intro wz hSw; refine exec_text Try.underlying27 Try.underlying5 Try.underlying9 (.tmp 19) ?_ ?_ (hQ.out.below hSw) <;> rfl)
  try simp only [Act.put, List.setIfInBounds_toArray, List.set_cons_zero, List.set_cons_succ]
  refine wpAnyH_take (i := 5) (oi := { dst := some 21, op := Op.binOp BinOp.eql 9 (Operand.tmp 17) (Operand.tmp 20) 9, type := 4, pos := "law.go:17", after := #[{ on := 1, ground := Ground.data }, { on := 4, ground := Ground.data }], guard := none }) (v := ?_) rfl (by kernel_rfl) (by kernel_rfl) (by kernel_rfl) (fun _ _ _ h => h) (Or.inl ⟨rfl, ?_⟩) hHeld ?_
  rotate_left
  · (intro wz hSw; go_simp; try with_reducible rfl)
  try simp only [Act.put, List.setIfInBounds_toArray, List.set_cons_zero, List.set_cons_succ]
  refine wpAnyH_take (i := 6) (oi := { dst := some 22, op := Op.move (Operand.tmp 21), type := 4, pos := "law.go:17", after := #[{ on := 5, ground := Ground.data }, { on := 3, ground := Ground.chain }], guard := none }) (v := ?_) rfl (by kernel_rfl) (by kernel_rfl) (by kernel_rfl) (fun _ _ _ h => h) (Or.inl ⟨rfl, ?_⟩) hHeld ?_
  rotate_left
  · (intro wz hSw; go_simp; try with_reducible rfl)
  try simp only [Act.put, List.setIfInBounds_toArray, List.set_cons_zero, List.set_cons_succ]
  refine wpAnyH_take (i := 7) (oi := { dst := some 23, op := Op.move (Operand.tmp 1), type := 27, pos := "law.go:17", after := #[{ on := 6, ground := Ground.guard }], guard := some (6, true) }) (v := ?_) rfl (by kernel_rfl) (by kernel_rfl) (by kernel_rfl) (fun _ _ _ h => h) (Or.inl ⟨rfl, ?_⟩) hHeld ?_
  rotate_left
  · (intro wz hSw; go_simp; try with_reducible rfl)
  try simp only [Act.put, List.setIfInBounds_toArray, List.set_cons_zero, List.set_cons_succ]
  refine wpAnyH_take (i := 8) (oi := { dst := some 24, op := Op.call { callee := Callee.builtin Builtin.len, args := #[Operand.tmp 23], argTypes := #[27] }, type := 3, pos := "law.go:17", after := #[{ on := 7, ground := Ground.data }, { on := 6, ground := Ground.guard }], guard := some (6, true) }) (v := ?_) rfl (by kernel_rfl) (by kernel_rfl) (by kernel_rfl) (fun _ _ _ h => h) (Or.inl ⟨rfl, ?_⟩) hHeld ?_
  rotate_left
  · (intro wz hSw; go_simp; try with_reducible rfl)
  try simp only [Act.put, List.setIfInBounds_toArray, List.set_cons_zero, List.set_cons_succ]
  refine wpAnyH_take (i := 9) (oi := { dst := some 25, op := Op.binOp BinOp.eql 3 (Operand.tmp 24) (Operand.const (Value.int IntKind.i64 20)) 3, type := 4, pos := "law.go:17", after := #[{ on := 8, ground := Ground.data }, { on := 6, ground := Ground.guard }], guard := some (6, true) }) (v := ?_) rfl (by kernel_rfl) (by kernel_rfl) (by kernel_rfl) (fun _ _ _ h => h) (Or.inl ⟨rfl, ?_⟩) hHeld ?_
  rotate_left
  · (intro wz hSw; go_simp; try with_reducible rfl)
  try simp only [Act.put, List.setIfInBounds_toArray, List.set_cons_zero, List.set_cons_succ]
  refine wpAnyH_take (i := 10) (oi := { dst := some 26, op := Op.pick (Operand.tmp 22) (Operand.tmp 25) (Operand.const (Value.bool false)), type := 4, pos := "law.go:17", after := #[{ on := 6, ground := Ground.data }, { on := 9, ground := Ground.data }], guard := none }) (v := ?_) rfl (by kernel_rfl) (by kernel_rfl) (by kernel_rfl) (fun _ _ _ h => h) (Or.inl ⟨rfl, ?_⟩) hHeld ?_
  rotate_left
  · (intro wz hSw; go_simp; try with_reducible rfl)
  try simp only [Act.put, List.setIfInBounds_toArray, List.set_cons_zero, List.set_cons_succ]
  refine wpAnyH_take (i := 11) (oi := { dst := some 27, op := Op.move (Operand.tmp 26), type := 4, pos := "law.go:17", after := #[{ on := 10, ground := Ground.data }, { on := 6, ground := Ground.chain }], guard := none }) (v := ?_) rfl (by kernel_rfl) (by kernel_rfl) (by kernel_rfl) (fun _ _ _ h => h) (Or.inl ⟨rfl, ?_⟩) hHeld ?_
  rotate_left
  · (intro wz hSw; go_simp; try with_reducible rfl)
  try simp only [Act.put, List.setIfInBounds_toArray, List.set_cons_zero, List.set_cons_succ]
  refine wpAnyH_take (i := 12) (oi := { dst := some 28, op := Op.move (Operand.tmp 2), type := 29, pos := "law.go:17", after := #[{ on := 11, ground := Ground.guard }], guard := some (11, true) }) (v := ?_) rfl (by kernel_rfl) (by kernel_rfl) (by kernel_rfl) (fun _ _ _ h => h) (Or.inl ⟨rfl, ?_⟩) hHeld ?_
  rotate_left
  · (intro wz hSw; go_simp; try with_reducible rfl)
  try simp only [Act.put, List.setIfInBounds_toArray, List.set_cons_zero, List.set_cons_succ]
  refine wpAnyH_take (i := 13) (oi := { dst := some 29, op := Op.binOp BinOp.eql 29 (Operand.tmp 28) (Operand.const (Value.int IntKind.i64 0)) 29, type := 4, pos := "law.go:17", after := #[{ on := 12, ground := Ground.data }, { on := 11, ground := Ground.guard }], guard := some (11, true) }) (v := ?_) rfl (by kernel_rfl) (by kernel_rfl) (by kernel_rfl) (fun _ _ _ h => h) (Or.inl ⟨rfl, ?_⟩) hHeld ?_
  rotate_left
  · (intro wz hSw; go_simp; try with_reducible rfl)
  try simp only [Act.put, List.setIfInBounds_toArray, List.set_cons_zero, List.set_cons_succ]
  refine wpAnyH_take (i := 14) (oi := { dst := some 30, op := Op.pick (Operand.tmp 27) (Operand.tmp 29) (Operand.const (Value.bool false)), type := 4, pos := "law.go:17", after := #[{ on := 11, ground := Ground.data }, { on := 13, ground := Ground.data }], guard := none }) (v := ?_) rfl (by kernel_rfl) (by kernel_rfl) (by kernel_rfl) (fun _ _ _ h => h) (Or.inl ⟨rfl, ?_⟩) hHeld ?_
  rotate_left
  · (intro wz hSw; go_simp; try with_reducible rfl)
  try simp only [Act.put, List.setIfInBounds_toArray, List.set_cons_zero, List.set_cons_succ]
  refine wpAnyH_take (i := 15) (oi := { dst := some 31, op := Op.move (Operand.tmp 30), type := 4, pos := "law.go:17", after := #[{ on := 14, ground := Ground.data }, { on := 11, ground := Ground.chain }], guard := none }) (v := ?_) rfl (by kernel_rfl) (by kernel_rfl) (by kernel_rfl) (fun _ _ _ h => h) (Or.inl ⟨rfl, ?_⟩) hHeld ?_
  rotate_left
  · (intro wz hSw; go_simp; try with_reducible rfl)
  try simp only [Act.put, List.setIfInBounds_toArray, List.set_cons_zero, List.set_cons_succ]
  refine wpAnyH_take (i := 16) (oi := { dst := some 32, op := Op.fieldAddr 26 (Operand.tmp 3) 0, type := 0, pos := "law.go:17", after := #[{ on := 15, ground := Ground.guard }], guard := some (15, true) }) (v := ?_) rfl (by kernel_rfl) (by kernel_rfl) (by kernel_rfl) (fun _ _ _ h => h) (Or.inl ⟨rfl, ?_⟩) hHeld ?_
  rotate_left
  · (intro wz hSw; go_simp; try with_reducible rfl)
  try simp only [Act.put, List.setIfInBounds_toArray, List.set_cons_zero, List.set_cons_succ]
  refine wpAnyH_take (i := 17) (oi := { dst := some 33, op := Op.load 22 (Operand.tmp 32), type := 22, pos := "law.go:17", after := #[{ on := 16, ground := Ground.data }, { on := 15, ground := Ground.guard }], guard := some (15, true) }) (v := ?_) rfl (by kernel_rfl) (by kernel_rfl) (by kernel_rfl) (fun _ _ _ h => h) (Or.inl ⟨rfl, ?_⟩) hHeld ?_
  rotate_left
  · (intro wz hSw; have o0 := (hO.out.below hSw).cell 0 (.slice A3 1 c3) rfl; go_simp; try with_reducible rfl)
  try simp only [Act.put, List.setIfInBounds_toArray, List.set_cons_zero, List.set_cons_succ]
  refine wpAnyH_take (i := 18) (oi := { dst := some 34, op := Op.call { callee := Callee.builtin Builtin.len, args := #[Operand.tmp 33], argTypes := #[22] }, type := 3, pos := "law.go:17", after := #[{ on := 17, ground := Ground.data }, { on := 15, ground := Ground.guard }], guard := some (15, true) }) (v := ?_) rfl (by kernel_rfl) (by kernel_rfl) (by kernel_rfl) (fun _ _ _ h => h) (Or.inl ⟨rfl, ?_⟩) hHeld ?_
  rotate_left
  · (intro wz hSw; go_simp; try with_reducible rfl)
  try simp only [Act.put, List.setIfInBounds_toArray, List.set_cons_zero, List.set_cons_succ]
  refine wpAnyH_take (i := 19) (oi := { dst := some 35, op := Op.binOp BinOp.eql 3 (Operand.tmp 34) (Operand.const (Value.int IntKind.i64 1)) 3, type := 4, pos := "law.go:17", after := #[{ on := 18, ground := Ground.data }, { on := 15, ground := Ground.guard }], guard := some (15, true) }) (v := ?_) rfl (by kernel_rfl) (by kernel_rfl) (by kernel_rfl) (fun _ _ _ h => h) (Or.inl ⟨rfl, ?_⟩) hHeld ?_
  rotate_left
  · (intro wz hSw; go_simp; try with_reducible rfl)
  try simp only [Act.put, List.setIfInBounds_toArray, List.set_cons_zero, List.set_cons_succ]
  refine wpAnyH_take (i := 20) (oi := { dst := some 36, op := Op.pick (Operand.tmp 31) (Operand.tmp 35) (Operand.const (Value.bool false)), type := 4, pos := "law.go:17", after := #[{ on := 15, ground := Ground.data }, { on := 19, ground := Ground.data }], guard := none }) (v := ?_) rfl (by kernel_rfl) (by kernel_rfl) (by kernel_rfl) (fun _ _ _ h => h) (Or.inl ⟨rfl, ?_⟩) hHeld ?_
  rotate_left
  · (intro wz hSw; go_simp; try with_reducible rfl)
  try simp only [Act.put, List.setIfInBounds_toArray, List.set_cons_zero, List.set_cons_succ]
  refine wpAnyH_take (i := 21) (oi := { dst := some 37, op := Op.move (Operand.tmp 36), type := 4, pos := "law.go:17", after := #[{ on := 20, ground := Ground.data }, { on := 15, ground := Ground.chain }], guard := none }) (v := ?_) rfl (by kernel_rfl) (by kernel_rfl) (by kernel_rfl) (fun _ _ _ h => h) (Or.inl ⟨rfl, ?_⟩) hHeld ?_
  rotate_left
  · (intro wz hSw; go_simp; try with_reducible rfl)
  try simp only [Act.put, List.setIfInBounds_toArray, List.set_cons_zero, List.set_cons_succ]
  refine wpAnyH_take (i := 22) (oi := { dst := some 38, op := Op.move (Operand.tmp 4), type := 29, pos := "law.go:17", after := #[{ on := 21, ground := Ground.guard }], guard := some (21, true) }) (v := ?_) rfl (by kernel_rfl) (by kernel_rfl) (by kernel_rfl) (fun _ _ _ h => h) (Or.inl ⟨rfl, ?_⟩) hHeld ?_
  rotate_left
  · (intro wz hSw; go_simp; try with_reducible rfl)
  try simp only [Act.put, List.setIfInBounds_toArray, List.set_cons_zero, List.set_cons_succ]
  refine wpAnyH_take (i := 23) (oi := { dst := some 39, op := Op.binOp BinOp.eql 29 (Operand.tmp 38) (Operand.const (Value.int IntKind.i64 0)) 29, type := 4, pos := "law.go:17", after := #[{ on := 22, ground := Ground.data }, { on := 21, ground := Ground.guard }], guard := some (21, true) }) (v := ?_) rfl (by kernel_rfl) (by kernel_rfl) (by kernel_rfl) (fun _ _ _ h => h) (Or.inl ⟨rfl, ?_⟩) hHeld ?_
  rotate_left
  · (intro wz hSw; go_simp; try with_reducible rfl)
  try simp only [Act.put, List.setIfInBounds_toArray, List.set_cons_zero, List.set_cons_succ]
  refine wpAnyH_take (i := 24) (oi := { dst := some 40, op := Op.pick (Operand.tmp 37) (Operand.tmp 39) (Operand.const (Value.bool false)), type := 4, pos := "law.go:17", after := #[{ on := 21, ground := Ground.data }, { on := 23, ground := Ground.data }], guard := none }) (v := ?_) rfl (by kernel_rfl) (by kernel_rfl) (by kernel_rfl) (fun _ _ _ h => h) (Or.inl ⟨rfl, ?_⟩) hHeld ?_
  rotate_left
  · (intro wz hSw; go_simp; try with_reducible rfl)
  try simp only [Act.put, List.setIfInBounds_toArray, List.set_cons_zero, List.set_cons_succ]
  refine wpAnyH_take (i := 25) (oi := { dst := some 0, op := Op.assign (Operand.tmp 40), type := 4, pos := "law.go:17", after := #[{ on := 24, ground := Ground.data }, { on := 21, ground := Ground.chain }, { on := 0, ground := Ground.phase }, { on := 1, ground := Ground.phase }, { on := 2, ground := Ground.phase }, { on := 3, ground := Ground.phase }, { on := 4, ground := Ground.phase }, { on := 5, ground := Ground.phase }, { on := 6, ground := Ground.phase }, { on := 7, ground := Ground.phase }, { on := 8, ground := Ground.phase }, { on := 9, ground := Ground.phase }, { on := 10, ground := Ground.phase }, { on := 11, ground := Ground.phase }, { on := 12, ground := Ground.phase }, { on := 13, ground := Ground.phase }, { on := 14, ground := Ground.phase }, { on := 15, ground := Ground.phase }, { on := 16, ground := Ground.phase }, { on := 17, ground := Ground.phase }, { on := 18, ground := Ground.phase }, { on := 19, ground := Ground.phase }, { on := 20, ground := Ground.phase }, { on := 21, ground := Ground.phase }, { on := 22, ground := Ground.phase }, { on := 23, ground := Ground.phase }, { on := 24, ground := Ground.phase }], guard := none }) (v := ?_) rfl (by kernel_rfl) (by kernel_rfl) (by kernel_rfl) (fun _ _ _ h => h) (Or.inl ⟨rfl, ?_⟩) hHeld ?_
  rotate_left
  · (intro wz hSw; go_simp; try with_reducible rfl)
  try simp only [Act.put, List.setIfInBounds_toArray, List.set_cons_zero, List.set_cons_succ]
  refine wpAnyH_done (by kernel_rfl) ?_ _
  go_wp2
  go_ret
  exact ⟨rfl, hB.out⟩
end Go.Proofs.Ytmdknjfhdmigdaa
