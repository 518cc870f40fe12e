/-
  The contracts of addWord and addName of package dump.
-/
import Derived.Test.YtpfejjkoemnmiaaM15
import Derived.Test.YtpfejjkoemnmiaaM12
import Derived.Test.YtpfejjkoemnmiaaM16
import Derived.Test.YtpfejjkoemnmiaaM14
namespace Go.Proofs.Ytpfejjkoemnmiaa
open Go.RowKit
set_option linter.unusedVariables false
set_option linter.unusedSimpArgs false
set_option maxRecDepth 100000
/-- what is behind a line: an object of the call's own, where the line is one -/
def Du.Grown (base O : Nat) (w w' : World) (x : Option Du.St) : Prop :=
  Below base w w' ∧ ∀ W S Y, x = some (W, S, Y) → ∃ A n c B m d C k e, Ob.Own base O A n c B m d C k e W S Y w'
theorem Du.Grown.no {base O : Nat} {w w' : World} (h : Below base w w') : Du.Grown base O w w' none := ⟨h, fun _ _ _ q => by cases q⟩
/-- a word is added -/
def Du.addW (o : Du.St) (r : Option Int) (b : Bool) : Option Du.St :=
  match r with
  | none => none
  | some n => if o.2.2 = [] then some (o.1 ++ [n], (if b = true then o.2.1 ++ [(o.1.length : Int)] else o.2.1), []) else none
set_option maxHeartbeats 4000000 in
set_option maxRecDepth 100000 in
theorem Du.addWord_any {base O : Nat} {A B C : Option Addr} {n c m d k e : Nat} {W S : List Int} {Y : List Ob.Y} {w : World} (h : Ob.Own base O A n c B m d C k e W S Y w) (hw1 : W.length ≤ 1000000000) (hw2 : S.length ≤ 1000000000) (s : ByteArray) (hs : s.size ≤ 1000000000) (b : Bool) :
    Calls Try.prog 53 #[.pointer (some ⟨O, 0, none⟩), .string s, .bool b] w fun r w' => r = .returned (.bool (Du.addW (W, S, Y) (Du.num (L.bs s)) b).isSome) ∧ Du.Grown base O w w' (Du.addW (W, S, Y) (Du.num (L.bs s)) b) := by
  have hs0 := h.low
  have hnn := (h.hP.rg).len
  have hmm := (h.hQ.rg).len
  have hkk := h.hY.sy.len
  have hN := Lib.hid (Du.number_any s hs w)
  replace h := Lib.hid h
  cases hr : Du.num (L.bs s) with
  | none =>
    rw [hr] at hN
    go_enter Try.func53, Try.ntmps53
    go_wp2_with (fail)
    refine hN.out.mono ?_; rintro r w2 ⟨rfl, hE⟩
    have hB := Lib.hid (hE.mono hs0)
    clear hE hN h
    rw [show Du.numV none = .tuple #[.int .u32 0, .bool false] from rfl]
    go_wp2
    go_ret
    exact ⟨rfl, Du.Grown.no hB.out⟩
  | some x =>
    rw [hr] at hN
    by_cases cY : Y = []
    case neg =>
      rw [show Du.addW (W, S, Y) (some x) b = none from by unfold Du.addW; simp only [cY, if_false]]
      have hk0 : 0 < Y.length := List.length_pos_iff.2 cY
      have hk1 : (0 : Int) < k := by omega
      go_enter Try.func53, Try.ntmps53
      go_wp2_with (fail)
      refine hN.out.mono ?_; rintro r w2 ⟨rfl, hE⟩
      have hB := Lib.hid (hE.mono hs0)
      have o2 := (h.out.below hE).hG.cell 2 (.slice C k e) rfl
      clear hE hN h
      rw [show Du.numV (some x) = .tuple #[.int .u32 x, .bool true] from rfl]
      go_wp2
      go_ret
      exact ⟨rfl, Du.Grown.no hB.out⟩
    subst cY
    have hk0 : k = 0 := by rw [← hkk]; rfl
    subst hk0
    rw [show Du.addW (W, S, []) (some x) b = some (W ++ [x], (if b = true then S ++ [(W.length : Int)] else S), []) from by unfold Du.addW; simp only [if_true]]
    cases b with
    | false =>
      rw [if_neg (by decide)]
      go_enter Try.func53, Try.ntmps53
      go_wp2_with (fail)
      refine hN.out.mono ?_; rintro r w2 ⟨rfl, hE⟩
      have hB := Lib.hid (hE.mono hs0)
      replace h := Lib.hid (h.out.below hE)
      have o2 := h.out.hG.cell 2 (.slice C 0 e) rfl
      clear hE hN hs0
      rw [show Du.numV (some x) = .tuple #[.int .u32 x, .bool true] from rfl]
      go_upto_region 6 with (fail)
      clear o2
      have hA4 := ((Kept.refl w2).alloc #[.int .u32 x] 37).below
      have o0 := h.out.hG.cell 0 (.slice A n c) rfl
      have hZ4 := Lib.hid (h.out.below hA4)
      have hY4 := Lib.hid (Rg.one (Has.new #[.int .u32 x] 37 w2))
      have hE4 := Lib.hid (hB.out.trans (hA4.mono h.out.low))
      have hs0 := hZ4.out.low
      clear h hB hA4
      go_wp2_with (first
        | (with_reducible refine append_on (o := ⟨some 46, _, _, _, _, _⟩) Try.underlying22 Ch.info32 (by omega) rfl (.tmp 43) (.tmp 45) rfl base A n c W rfl hZ4.out.hP _ 1 1 [x] rfl hY4.out (by omega) (by omega) hs0 ?_
           intro g' cap' w8 hO8 hG8
           have f0 := (hZ4.out.hG.grown hG8 (hZ4.out.hP.ne hZ4.out.hG (by decide))).cell 0 (.slice A n c) rfl
           have f1 := (hZ4.out.hG.grown hG8 (hZ4.out.hP.ne hZ4.out.hG (by decide))).free 0
           have hZF := Lib.hid (hZ4.out.grow0 hG8 hO8.on)
           have hEF := Lib.hid ((hE4.out.grown hG8 hs0 hZ4.out.hP.from).setCell (p := ⟨O, 0, none⟩) hZ4.out.hO (.slice (some ⟨g', 0, none⟩) (n + 1) cap'))
           clear hO8 hG8 hs0 hE4 hY4 hZ4 o0)
        | fail)
      go_ret
      exact ⟨rfl, hEF.out, fun W' S' Y' q => by cases q; exact ⟨_, _, _, _, _, _, _, _, _, hZF.out⟩⟩
    | true =>
      rw [if_pos rfl, hnn]
      go_enter Try.func53, Try.ntmps53
      go_wp2_with (fail)
      refine hN.out.mono ?_; rintro r w2 ⟨rfl, hE⟩
      have hB := Lib.hid (hE.mono hs0)
      replace h := Lib.hid (h.out.below hE)
      have o2 := h.out.hG.cell 2 (.slice C 0 e) rfl
      clear hE hN hs0
      rw [show Du.numV (some x) = .tuple #[.int .u32 x, .bool true] from rfl]
      go_wp2_with (fail)
      clear o2
      refine wpE.start (fun i => decide (i < 11)) (fun w' => Below w2.drew.heap.size w2.drew w') (by kernel_rfl) ?_
      have hHeld := Below.refl w2.drew.heap.size w2.drew
      have hTd := Lib.hid h.out.drew
      have hEd := Lib.hid hB.out.drew
      clear h hB
      generalize w2.drew = w3 at *
      refine wpE.move (i := 0) (oi := { dst := some 25, op := Op.move (Operand.tmp 0), type := 66, pos := "dump.go:123", after := #[], guard := none }) (v := ?_) rfl (by kernel_rfl) (by kernel_rfl) (by kernel_rfl) (fun _ _ _ h => h) (Or.inl ⟨rfl, ?_⟩) ?_
      rotate_left
      · (intro wz hSw; go_simp; try with_reducible rfl)
      try simp only [Act.put, List.setIfInBounds_toArray, List.set_cons_zero, List.set_cons_succ]
      refine wpE.take (i := 1) (oi := { dst := some 26, op := Op.move (Operand.tmp 0), type := 66, pos := "dump.go:123", after := #[], guard := none }) (v := ?_) rfl (by kernel_rfl) (by kernel_rfl) (by kernel_rfl) (by kernel_rfl) (by kernel_rfl) (fun _ _ _ h => h) (Or.inl ⟨rfl, ?_⟩) hHeld ?_
      rotate_left
      · (intro wz hSw; go_simp; try with_reducible rfl)
      try simp only [Act.put, List.setIfInBounds_toArray, List.set_cons_zero, List.set_cons_succ]
      refine wpE.take (i := 2) (oi := { dst := some 27, op := Op.nilCheck (Operand.tmp 26), type := 0, pos := "dump.go:123", after := #[{ on := 1, ground := Ground.data }], guard := none }) (v := ?_) rfl (by kernel_rfl) (by kernel_rfl) (by kernel_rfl) (by kernel_rfl) (by kernel_rfl) (fun _ _ _ h => h) (Or.inl ⟨rfl, ?_⟩) hHeld ?_
      rotate_left
      · (intro wz hSw; go_simp; try with_reducible rfl)
      try simp only [Act.put, List.setIfInBounds_toArray, List.set_cons_zero, List.set_cons_succ]
      refine wpE.take (i := 3) (oi := { dst := some 28, op := Op.fieldAddr 26 (Operand.tmp 27) 1, type := 0, pos := "dump.go:123", after := #[{ on := 2, ground := Ground.data }], guard := none }) (v := ?_) rfl (by kernel_rfl) (by kernel_rfl) (by kernel_rfl) (by kernel_rfl) (by kernel_rfl) (fun _ _ _ h => h) (Or.inl ⟨rfl, ?_⟩) hHeld ?_
      rotate_left
      · (intro wz hSw; go_simp; try with_reducible rfl)
      try simp only [Act.put, List.setIfInBounds_toArray, List.set_cons_zero, List.set_cons_succ]
      refine wpE.take (i := 4) (oi := { dst := some 29, op := Op.load 23 (Operand.tmp 28), type := 23, pos := "dump.go:123", after := #[{ on := 3, ground := Ground.data }], guard := none }) (v := ?_) rfl (by kernel_rfl) (by kernel_rfl) (by kernel_rfl) (by kernel_rfl) (by kernel_rfl) (fun _ _ _ h => h) (Or.inl ⟨rfl, ?_⟩) hHeld ?_
      rotate_left
      · (intro wz hSw; have o1 := (hTd.out.below hSw).hG.cell 1 (.slice B m d) rfl; go_simp; try with_reducible rfl)
      try simp only [Act.put, List.setIfInBounds_toArray, List.set_cons_zero, List.set_cons_succ]
      refine wpE.take (i := 5) (oi := { dst := some 30, op := Op.move (Operand.tmp 0), type := 66, pos := "dump.go:123", after := #[], guard := none }) (v := ?_) rfl (by kernel_rfl) (by kernel_rfl) (by kernel_rfl) (by kernel_rfl) (by kernel_rfl) (fun _ _ _ h => h) (Or.inl ⟨rfl, ?_⟩) hHeld ?_
      rotate_left
      · (intro wz hSw; go_simp; try with_reducible rfl)
      try simp only [Act.put, List.setIfInBounds_toArray, List.set_cons_zero, List.set_cons_succ]
      refine wpE.take (i := 6) (oi := { dst := some 31, op := Op.nilCheck (Operand.tmp 30), type := 0, pos := "dump.go:123", after := #[{ on := 5, ground := Ground.data }], guard := none }) (v := ?_) rfl (by kernel_rfl) (by kernel_rfl) (by kernel_rfl) (by kernel_rfl) (by kernel_rfl) (fun _ _ _ h => h) (Or.inl ⟨rfl, ?_⟩) hHeld ?_
      rotate_left
      · (intro wz hSw; go_simp; try with_reducible rfl)
      try simp only [Act.put, List.setIfInBounds_toArray, List.set_cons_zero, List.set_cons_succ]
      refine wpE.take (i := 7) (oi := { dst := some 32, op := Op.fieldAddr 26 (Operand.tmp 31) 0, type := 0, pos := "dump.go:123", after := #[{ on := 6, ground := Ground.data }], guard := none }) (v := ?_) rfl (by kernel_rfl) (by kernel_rfl) (by kernel_rfl) (by kernel_rfl) (by kernel_rfl) (fun _ _ _ h => h) (Or.inl ⟨rfl, ?_⟩) hHeld ?_
      rotate_left
      · (intro wz hSw; go_simp; try with_reducible rfl)
      try simp only [Act.put, List.setIfInBounds_toArray, List.set_cons_zero, List.set_cons_succ]
      refine wpE.take (i := 8) (oi := { dst := some 33, op := Op.load 22 (Operand.tmp 32), type := 22, pos := "dump.go:123", after := #[{ on := 7, ground := Ground.data }], guard := none }) (v := ?_) rfl (by kernel_rfl) (by kernel_rfl) (by kernel_rfl) (by kernel_rfl) (by kernel_rfl) (fun _ _ _ h => h) (Or.inl ⟨rfl, ?_⟩) hHeld ?_
      rotate_left
      · (intro wz hSw; have o0 := (hTd.out.below hSw).hG.cell 0 (.slice A n c) rfl; go_simp; try with_reducible rfl)
      try simp only [Act.put, List.setIfInBounds_toArray, List.set_cons_zero, List.set_cons_succ]
      refine wpE.take (i := 9) (oi := { dst := some 34, op := Op.call { callee := Callee.builtin Builtin.len, args := #[Operand.tmp 33], argTypes := #[22] }, type := 3, pos := "dump.go:123", after := #[{ on := 8, ground := Ground.data }], guard := none }) (v := ?_) rfl (by kernel_rfl) (by kernel_rfl) (by kernel_rfl) (by kernel_rfl) (by kernel_rfl) (fun _ _ _ h => h) (Or.inl ⟨rfl, ?_⟩) hHeld ?_
      rotate_left
      · (intro wz hSw; go_simp; try with_reducible rfl)
      try simp only [Act.put, List.setIfInBounds_toArray, List.set_cons_zero, List.set_cons_succ]
      refine wpE.one (i := 10) (o := { dst := some 35, op := Op.buildSlice 23 1 #[(0, Operand.tmp 34)], type := 23, pos := "dump.go:123", after := #[{ on := 9, ground := Ground.data }], guard := none }) rfl (by kernel_rfl) (fun K hK => ?_)
      go_simp
      have hE := ((Kept.refl w3).alloc #[.int .i64 (n : Int)] 3).below
      have hY9 := Lib.hid (Rg.one (Has.new #[.int .i64 (n : Int)] 3 w3))
      have hT4 := Lib.hid (hTd.out.below hE)
      have hE4 := Lib.hid (hEd.out.trans (hE.mono hTd.out.low))
      generalize w3.alloc (.cells #[.int .i64 (n : Int)] 3) = w4 at *
      clear hHeld
      refine hK.out _ _ hE (fun hHeld => ?_)
      clear hK K hE
      try simp only [Act.put, List.setIfInBounds_toArray, List.set_cons_zero, List.set_cons_succ]
      refine wpE.late (i := 11) (o := { dst := some 36, op := Op.call { callee := Callee.builtin Builtin.append, args := #[Operand.tmp 29, Operand.tmp 35], argTypes := #[23, 23] }, type := 23, pos := "dump.go:123", after := #[{ on := 4, ground := Ground.data }, { on := 10, ground := Ground.data }], guard := none }) rfl rfl (by kernel_rfl) (fun K hK => ?_)
      have hsT := hT4.out.low
      refine append_onK Try.underlying23 Ch.info64 (by omega) (.tmp 29) (.tmp 35) rfl base B m d S rfl hT4.out.hQ _ 1 1 [(n : Int)] rfl hY9.out (by omega) (by omega) hsT ?_
      intro g1 cap1 w5 hO8 hG8
      have hGG := hT4.out.hG.grown hG8 (hT4.out.hQ.ne hT4.out.hG (by decide))
      have f0 := hGG.cell 1 (.slice B m d) rfl
      have f1 := hGG.free 1
      have hT5 := Lib.hid (hT4.out.grow1 hG8 hO8.on)
      have hE5 := Lib.hid ((hE4.out.grown hG8 hsT hT4.out.hQ.from).setCell (p := ⟨O, 1, none⟩) hT4.out.hO (.slice (some ⟨g1, 0, none⟩) (m + 1) cap1))
      clear hO8 hG8 hGG hY9 hsT hT4 hE4 hHeld
      refine hK.out _ _ ?_
      clear hK K
      try simp only [Act.put, List.setIfInBounds_toArray, List.set_cons_zero, List.set_cons_succ]
      refine wpE.late (i := 12) (o := { dst := some 37, op := Op.nilCheck (Operand.tmp 25), type := 0, pos := "dump.go:123", after := #[{ on := 0, ground := Ground.data }, { on := 0, ground := Ground.phase }, { on := 1, ground := Ground.phase }, { on := 2, ground := Ground.phase }, { on := 3, ground := Ground.phase }, { on := 4, ground := Ground.phase }, { on := 5, ground := Ground.phase }, { on := 6, ground := Ground.phase }, { on := 7, ground := Ground.phase }, { on := 8, ground := Ground.phase }, { on := 9, ground := Ground.phase }, { on := 10, ground := Ground.phase }, { on := 11, ground := Ground.phase }], guard := none }) rfl rfl (by kernel_rfl) (fun K hK => ?_)
      go_simp
      refine hK.out _ _ ?_
      clear hK K
      try simp only [Act.put, List.setIfInBounds_toArray, List.set_cons_zero, List.set_cons_succ]
      refine wpE.late (i := 13) (o := { dst := some 38, op := Op.fieldAddr 26 (Operand.tmp 37) 1, type := 0, pos := "dump.go:123", after := #[{ on := 12, ground := Ground.data }, { on := 0, ground := Ground.phase }, { on := 1, ground := Ground.phase }, { on := 2, ground := Ground.phase }, { on := 3, ground := Ground.phase }, { on := 4, ground := Ground.phase }, { on := 5, ground := Ground.phase }, { on := 6, ground := Ground.phase }, { on := 7, ground := Ground.phase }, { on := 8, ground := Ground.phase }, { on := 9, ground := Ground.phase }, { on := 10, ground := Ground.phase }, { on := 11, ground := Ground.phase }], guard := none }) rfl rfl (by kernel_rfl) (fun K hK => ?_)
      go_simp
      refine hK.out _ _ ?_
      clear hK K
      try simp only [Act.put, List.setIfInBounds_toArray, List.set_cons_zero, List.set_cons_succ]
      refine wpE.late (i := 14) (o := { dst := none, op := Op.store 23 (Operand.tmp 38) (Operand.tmp 36), type := 0, pos := "dump.go:123", after := #[{ on := 13, ground := Ground.data }, { on := 11, ground := Ground.data }, { on := 11, ground := Ground.chain }, { on := 0, ground := Ground.phase }, { on := 1, ground := Ground.phase }, { on := 2, ground := Ground.phase }, { on := 3, ground := Ground.phase }, { on := 4, ground := Ground.phase }, { on := 5, ground := Ground.phase }, { on := 6, ground := Ground.phase }, { on := 7, ground := Ground.phase }, { on := 8, ground := Ground.phase }, { on := 9, ground := Ground.phase }, { on := 10, ground := Ground.phase }, { on := 11, ground := Ground.phase }], guard := none }) rfl rfl (by kernel_rfl) (fun K hK => ?_)
      go_simp
      refine hK.out _ _ ?_
      clear hK K
      try simp only [Act.put, List.setIfInBounds_toArray, List.set_cons_zero, List.set_cons_succ]
      refine wpE.done (by kernel_rfl) ?_ _
      clear f0 f1
      generalize w5.setCell ⟨O, 1, none⟩ (.slice (some ⟨g1, 0, none⟩) (m + 1) cap1) = w6 at *
      go_upto_region 6 with (fail)
      have hA4 := ((Kept.refl w6).alloc #[.int .u32 x] 37).below
      have o0 := hT5.out.hG.cell 0 (.slice A n c) rfl
      have hZ4 := Lib.hid (hT5.out.below hA4)
      have hY4 := Lib.hid (Rg.one (Has.new #[.int .u32 x] 37 w6))
      have hE4 := Lib.hid (hE5.out.trans (hA4.mono hT5.out.low))
      have hs0 := hZ4.out.low
      clear hT5 hE5 hA4
      go_wp2_with (first
        | (with_reducible refine append_on (o := ⟨some 46, _, _, _, _, _⟩) Try.underlying22 Ch.info32 (by omega) rfl (.tmp 43) (.tmp 45) rfl base A n c W rfl hZ4.out.hP _ 1 1 [x] rfl hY4.out (by omega) (by omega) hs0 ?_
           intro g' cap' w8 hO8 hG8
           have f0 := (hZ4.out.hG.grown hG8 (hZ4.out.hP.ne hZ4.out.hG (by decide))).cell 0 (.slice A n c) rfl
           have f1 := (hZ4.out.hG.grown hG8 (hZ4.out.hP.ne hZ4.out.hG (by decide))).free 0
           have hZF := Lib.hid (hZ4.out.grow0 hG8 hO8.on)
           have hEF := Lib.hid ((hE4.out.grown hG8 hs0 hZ4.out.hP.from).setCell (p := ⟨O, 0, none⟩) hZ4.out.hO (.slice (some ⟨g', 0, none⟩) (n + 1) cap'))
           clear hO8 hG8 hs0 hE4 hY4 hZ4 o0)
        | fail)
      go_ret
      exact ⟨rfl, hEF.out, fun W' S' Y' q => by cases q; exact ⟨_, _, _, _, _, _, _, _, _, hZF.out⟩⟩
theorem Du.nameK_byt {l : List Int} (h : L.Byt l) : L.Byt (Du.nameK ++ 32 :: l) := by
  intro x hx
  rcases List.mem_append.1 hx with q | q
  · simp [Du.nameK] at q; omega
  · rcases List.mem_cons.1 q with q | q
    · omega
    · exact h x q
theorem Du.kind_byt {b : Bool} {l : List Int} (h : L.Byt l) : L.Byt (Du.kind b ++ 32 :: l) := by
  intro x hx
  rcases List.mem_append.1 hx with q | q
  · cases b <;> simp [Du.kind] at q <;> omega
  · rcases List.mem_cons.1 q with q | q
    · omega
    · exact h x q
theorem Du.one_addW {o : Du.St} {b : Bool} {r : List Int} (h : L.Byt r) : Du.one o (Du.kind b ++ 32 :: r) = Du.addW o (Du.num r) b := by
  obtain ⟨W, S, Y⟩ := o
  unfold Du.addW
  cases hr : Du.num r with
  | none => exact Du.word_no (Du.kind_byt h) hr
  | some n =>
    by_cases cY : Y = []
    · subst cY
      simp only [if_true]
      exact Du.word_yes hr
    · simp only [cY, if_false]
      exact Du.word_late (Du.kind_byt h) cY
set_option maxHeartbeats 4000000 in
set_option maxRecDepth 100000 in
theorem Du.addName_any {base O : Nat} {A B C : Option Addr} {n c m d k e : Nat} {W S : List Int} {Y : List Ob.Y} {w : World} (h : Ob.Own base O A n c B m d C k e W S Y w) (hw : Y.length ≤ 1000000000) (s : ByteArray) (hs : s.size ≤ 1000000) :
    Calls Try.prog 54 #[.pointer (some ⟨O, 0, none⟩), .string s] w fun r w' => r = .returned (.bool (Du.one (W, S, Y) (Du.nameK ++ 32 :: L.bs s)).isSome) ∧ Du.Grown base O w w' (Du.one (W, S, Y) (Du.nameK ++ 32 :: L.bs s)) := by
  have hs0 := h.low
  have hkk := h.hY.sy.len
  have hC := Lib.hid (Du.cut_any s 32 w (by omega))
  have hby := Lib.hid (L.bs_rng s)
  obtain ⟨X, hXe⟩ : ∃ X, Du.one (W, S, Y) (Du.nameK ++ 32 :: L.bs s) = X := ⟨_, rfl⟩
  rw [hXe]
  replace hXe := Lib.hid hXe
  replace h := Lib.hid h
  go_enter Try.func54, Try.ntmps54
  go_wp2_with (fail)
  refine hC.out.mono ?_; rintro r w2 ⟨hR, hE⟩
  have hB := Lib.hid (hE.mono hs0)
  replace h := Lib.hid (h.out.below hE)
  have hs1 := h.out.low
  clear hE hC hs0
  rcases hR with ⟨hmm, rfl⟩ | ⟨t, y, hsp, hmm, rfl⟩
  · have X1 := hXe.out.symm.trans (Du.name_miss (o := (W, S, Y)) (r := L.bs s) (Du.nameK_byt hby.out) hmm)
    subst X1
    clear hXe
    go_wp2_with (fail)
    refine (Du.number_any ⟨#[]⟩ (by decide) _).mono ?_; rintro r w3 ⟨rfl, hE⟩
    replace hB := Lib.hid (hB.out.trans (hE.mono hs1))
    clear hE h
    rw [show Du.numV (Du.num (L.bs ⟨#[]⟩)) = .tuple #[.int .u32 0, .bool false] from rfl]
    go_wp2
    go_ret
    exact ⟨rfl, Du.Grown.no hB.out⟩
  replace hsp : L.bs s = L.bs t ++ 32 :: L.bs y := hsp
  replace hmm : (32 : Int) ∉ L.bs t := hmm
  rw [hsp] at hby hXe
  have hsz := congrArg List.length hsp
  rw [List.length_append, List.length_cons, L.bs_len, L.bs_len, L.bs_len] at hsz
  have hN := Lib.hid (fun v => Du.number_any y (by omega) v)
  have hnm := Lib.hid (fun v => L.name_any t (by omega) v)
  have hcl := Lib.hid (fun v => Du.clone_any t v (by omega))
  have hno := Lib.hid (fun q => hXe.out.symm.trans <| Du.name_no (o := (W, S, Y)) (Du.nameK_byt hby.out) hmm q)
  have hyes := Lib.hid (fun n q1 q2 => hXe.out.symm.trans <| Du.name_yes (o := (W, S, Y)) (nm := L.bs t) (ds := L.bs y) (n := n) (L.bs_rng t) q1 q2)
  rw [L.str_bs] at hyes
  clear hXe hsp hmm
  go_wp2_with (fail)
  refine (hN.out _).mono ?_; rintro r w3 ⟨rfl, hE⟩
  replace hB := Lib.hid (hB.out.trans (hE.mono hs1))
  replace h := Lib.hid (h.out.below hE)
  clear hE hs1 hby hsz hN
  cases hr : Du.num (L.bs y) with
  | none =>
    have X1 := hno.out (Or.inl hr)
    subst X1
    rw [show Du.numV none = .tuple #[.int .u32 0, .bool false] from rfl]
    clear hno hyes h hnm hcl
    go_wp2
    go_ret
    exact ⟨rfl, Du.Grown.no hB.out⟩
  | some n =>
    rw [show Du.numV (some n) = .tuple #[.int .u32 n, .bool true] from rfl]
    go_wp2_with (fail)
    refine (hnm.out _).mono ?_; rintro r w4 ⟨rfl, rfl⟩
    clear hnm
    cases hl : L.name (L.bs t) with
    | false =>
      have X1 := hno.out (Or.inr hl)
      subst X1
      clear hno hyes h hcl
      go_wp2
      go_ret
      exact ⟨rfl, Du.Grown.no hB.out⟩
    | true =>
      have X1 := hyes.out n hr hl
      subst X1
      have hnn := (Du.hex_num hr).2
      have hn0 := hnn.1
      have hn1 := hnn.2
      clear hno hyes hnn
      go_wp2_with (fail)
      refine wpE.start (fun i => decide (i < 11)) (fun w' => Below w3.drew.heap.size w3.drew w') (by kernel_rfl) ?_
      have hHeld := Below.refl w3.drew.heap.size w3.drew
      have hTd := Lib.hid h.out.drew
      have hEd := Lib.hid hB.out.drew
      have q1 : IntKind.i64.wrap n = n := by rw [IntKind.wrap_i64]; omega
      clear h hB
      generalize w3.drew = w4 at *
      refine wpE.move (i := 0) (oi := { dst := some 28, op := Op.move (Operand.tmp 0), type := 66, pos := "dump.go:137", after := #[], guard := none }) (v := ?_) rfl (by kernel_rfl) (by kernel_rfl) (by kernel_rfl) (fun _ _ _ h => h) (Or.inl ⟨rfl, ?_⟩) ?_
      rotate_left
      · (intro wz hSw; go_simp; try with_reducible rfl)
      try simp only [Act.put, List.setIfInBounds_toArray, List.set_cons_zero, List.set_cons_succ]
      refine wpE.take (i := 1) (oi := { dst := some 29, op := Op.move (Operand.tmp 0), type := 66, pos := "dump.go:137", after := #[], guard := none }) (v := ?_) rfl (by kernel_rfl) (by kernel_rfl) (by kernel_rfl) (by kernel_rfl) (by kernel_rfl) (fun _ _ _ h => h) (Or.inl ⟨rfl, ?_⟩) hHeld ?_
      rotate_left
      · (intro wz hSw; go_simp; try with_reducible rfl)
      try simp only [Act.put, List.setIfInBounds_toArray, List.set_cons_zero, List.set_cons_succ]
      refine wpE.take (i := 2) (oi := { dst := some 30, op := Op.nilCheck (Operand.tmp 29), type := 0, pos := "dump.go:137", after := #[{ on := 1, ground := Ground.data }], guard := none }) (v := ?_) rfl (by kernel_rfl) (by kernel_rfl) (by kernel_rfl) (by kernel_rfl) (by kernel_rfl) (fun _ _ _ h => h) (Or.inl ⟨rfl, ?_⟩) hHeld ?_
      rotate_left
      · (intro wz hSw; go_simp; try with_reducible rfl)
      try simp only [Act.put, List.setIfInBounds_toArray, List.set_cons_zero, List.set_cons_succ]
      refine wpE.take (i := 3) (oi := { dst := some 31, op := Op.fieldAddr 26 (Operand.tmp 30) 2, type := 0, pos := "dump.go:137", after := #[{ on := 2, ground := Ground.data }], guard := none }) (v := ?_) rfl (by kernel_rfl) (by kernel_rfl) (by kernel_rfl) (by kernel_rfl) (by kernel_rfl) (fun _ _ _ h => h) (Or.inl ⟨rfl, ?_⟩) hHeld ?_
      rotate_left
      · (intro wz hSw; go_simp; try with_reducible rfl)
      try simp only [Act.put, List.setIfInBounds_toArray, List.set_cons_zero, List.set_cons_succ]
      refine wpE.take (i := 4) (oi := { dst := some 32, op := Op.load 24 (Operand.tmp 31), type := 24, pos := "dump.go:137", after := #[{ on := 3, ground := Ground.data }], guard := none }) (v := ?_) rfl (by kernel_rfl) (by kernel_rfl) (by kernel_rfl) (by kernel_rfl) (by kernel_rfl) (fun _ _ _ h => h) (Or.inl ⟨rfl, ?_⟩) hHeld ?_
      rotate_left
      · (intro wz hSw; have o1 := (hTd.out.below hSw).hG.cell 2 (.slice C k e) rfl; go_simp; try with_reducible rfl)
      try simp only [Act.put, List.setIfInBounds_toArray, List.set_cons_zero, List.set_cons_succ]
      refine wpE.take (i := 5) (oi := { dst := some 33, op := Op.move (Operand.tmp 5), type := 9, pos := "dump.go:137", after := #[], guard := none }) (v := ?_) rfl (by kernel_rfl) (by kernel_rfl) (by kernel_rfl) (by kernel_rfl) (by kernel_rfl) (fun _ _ _ h => h) (Or.inl ⟨rfl, ?_⟩) hHeld ?_
      rotate_left
      · (intro wz hSw; go_simp; try with_reducible rfl)
      try simp only [Act.put, List.setIfInBounds_toArray, List.set_cons_zero, List.set_cons_succ]
      refine wpE.take (i := 7) (oi := { dst := some 35, op := Op.move (Operand.tmp 8), type := 37, pos := "dump.go:137", after := #[], guard := none }) (v := ?_) rfl (by kernel_rfl) (by kernel_rfl) (by kernel_rfl) (by kernel_rfl) (by kernel_rfl) (fun _ _ _ h => h) (Or.inl ⟨rfl, ?_⟩) hHeld ?_
      rotate_left
      · (intro wz hSw; go_simp; try with_reducible rfl)
      try simp only [Act.put, List.setIfInBounds_toArray, List.set_cons_zero, List.set_cons_succ]
      refine wpE.take (i := 8) (oi := { dst := some 36, op := Op.convert 37 3 (Operand.tmp 35), type := 3, pos := "dump.go:137", after := #[{ on := 7, ground := Ground.data }], guard := none }) (v := ?_) rfl (by kernel_rfl) (by kernel_rfl) (by kernel_rfl) (by kernel_rfl) (by kernel_rfl) (fun _ _ _ h => h) (Or.inl ⟨rfl, ?_⟩) hHeld ?_
      rotate_left
      · (intro wz hSw; go_simp; (try simp only [q1]); try with_reducible rfl)
      try simp only [Act.put, List.setIfInBounds_toArray, List.set_cons_zero, List.set_cons_succ]
      refine wpE.one (i := 6) (o := { dst := some 34, op := Op.call { callee := Callee.value (Operand.func 70), args := #[Operand.tmp 33], argTypes := #[9] }, type := 9, pos := "dump.go:137", after := #[{ on := 5, ground := Ground.data }], guard := none }) rfl (by kernel_rfl) (fun K hK => ?_)
      go_simp
      go_at_call 70
      refine (hcl.out _).mono ?_
      rintro r w5 ⟨rfl, hE⟩
      have hT4 := Lib.hid (hTd.out.below hE)
      have hE4 := Lib.hid (hEd.out.trans (hE.mono hTd.out.low))
      have hE5 := Lib.hid hE
      clear hHeld
      refine hK.out _ _ hE (fun hHeld => ?_)
      clear hK K hE
      try simp only [Act.put, List.setIfInBounds_toArray, List.set_cons_zero, List.set_cons_succ]
      refine wpE.take (i := 9) (oi := { dst := some 37, op := Op.build 54 #[(0, Operand.tmp 34), (1, Operand.tmp 36)], type := 54, pos := "dump.go:137", after := #[{ on := 6, ground := Ground.data }, { on := 8, ground := Ground.data }], guard := none }) (v := ?_) rfl (by kernel_rfl) (by kernel_rfl) (by kernel_rfl) (by kernel_rfl) (by kernel_rfl) (fun _ _ _ h => h) (Or.inl ⟨rfl, ?_⟩) hHeld ?_
      rotate_left
      · (intro wz hSw; go_simp; try with_reducible rfl)
      try simp only [Act.put, List.setIfInBounds_toArray, List.set_cons_zero, List.set_cons_succ]
      refine wpE.one (i := 10) (o := { dst := some 38, op := Op.buildSlice 24 1 #[(0, Operand.tmp 37)], type := 24, pos := "dump.go:137", after := #[{ on := 9, ground := Ground.data }], guard := none }) rfl (by kernel_rfl) (fun K hK => ?_)
      go_simp
      have hA := ((Kept.refl w5).alloc #[.string t, .int .i64 n] 54).below
      have hE := Bel.trans hE5.out hA
      have hY9 := Lib.hid (Sy.one (Has.new #[.string t, .int .i64 n] 54 w5))
      replace hE4 := Lib.hid (hE4.out.trans (hA.mono hT4.out.low))
      replace hT4 := Lib.hid (hT4.out.below hA)
      generalize w5.alloc (.cells #[.string t, .int .i64 n] 54) = w6 at *
      clear hA hE5
      clear hHeld
      refine hK.out _ _ hE (fun hHeld => ?_)
      clear hK K hE
      try simp only [Act.put, List.setIfInBounds_toArray, List.set_cons_zero, List.set_cons_succ]
      refine wpE.late (i := 11) (o := { dst := some 39, op := Op.call { callee := Callee.builtin Builtin.append, args := #[Operand.tmp 32, Operand.tmp 38], argTypes := #[24, 24] }, type := 24, pos := "dump.go:137", after := #[{ on := 4, ground := Ground.data }, { on := 10, ground := Ground.data }, { on := 6, ground := Ground.chain }], guard := none }) rfl rfl (by kernel_rfl) (fun K hK => ?_)
      have hsT := hT4.out.low
      refine append_syK3 Try.underlying24 Ob.info39 rfl (by omega) (.tmp 32) (.tmp 38) rfl base C k e Y rfl hT4.out.hY _ 1 1 [(t, n)] rfl hY9.out (by omega) (by omega) hsT ?_
      intro g1 cap1 w7 hO8 hG8
      have hGG := hT4.out.hG.grown hG8 (hT4.out.hY.ne hT4.out.hG (by decide))
      have f0 := hGG.cell 2 (.slice C k e) rfl
      have f1 := hGG.free 2
      have hT5 := Lib.hid (hT4.out.grow2 hG8 hO8)
      have hEF := Lib.hid ((hE4.out.grown hG8 hsT hT4.out.hY.from).setCell (p := ⟨O, 2, none⟩) hT4.out.hO (.slice (some ⟨g1, 0, none⟩) (k + 1) cap1))
      clear hO8 hG8 hGG hY9 hsT hT4 hE4 hHeld
      refine hK.out _ _ ?_
      clear hK K
      try simp only [Act.put, List.setIfInBounds_toArray, List.set_cons_zero, List.set_cons_succ]
      refine wpE.late (i := 12) (o := { dst := some 40, op := Op.nilCheck (Operand.tmp 28), type := 0, pos := "dump.go:137", after := #[{ on := 0, ground := Ground.data }, { on := 0, ground := Ground.phase }, { on := 1, ground := Ground.phase }, { on := 2, ground := Ground.phase }, { on := 3, ground := Ground.phase }, { on := 4, ground := Ground.phase }, { on := 5, ground := Ground.phase }, { on := 6, ground := Ground.phase }, { on := 7, ground := Ground.phase }, { on := 8, ground := Ground.phase }, { on := 9, ground := Ground.phase }, { on := 10, ground := Ground.phase }, { on := 11, ground := Ground.phase }], guard := none }) rfl rfl (by kernel_rfl) (fun K hK => ?_)
      go_simp
      refine hK.out _ _ ?_
      clear hK K
      try simp only [Act.put, List.setIfInBounds_toArray, List.set_cons_zero, List.set_cons_succ]
      refine wpE.late (i := 13) (o := { dst := some 41, op := Op.fieldAddr 26 (Operand.tmp 40) 2, type := 0, pos := "dump.go:137", after := #[{ on := 12, ground := Ground.data }, { on := 0, ground := Ground.phase }, { on := 1, ground := Ground.phase }, { on := 2, ground := Ground.phase }, { on := 3, ground := Ground.phase }, { on := 4, ground := Ground.phase }, { on := 5, ground := Ground.phase }, { on := 6, ground := Ground.phase }, { on := 7, ground := Ground.phase }, { on := 8, ground := Ground.phase }, { on := 9, ground := Ground.phase }, { on := 10, ground := Ground.phase }, { on := 11, ground := Ground.phase }], guard := none }) rfl rfl (by kernel_rfl) (fun K hK => ?_)
      go_simp
      refine hK.out _ _ ?_
      clear hK K
      try simp only [Act.put, List.setIfInBounds_toArray, List.set_cons_zero, List.set_cons_succ]
      refine wpE.late (i := 14) (o := { dst := none, op := Op.store 24 (Operand.tmp 41) (Operand.tmp 39), type := 0, pos := "dump.go:137", after := #[{ on := 13, ground := Ground.data }, { on := 11, ground := Ground.data }, { on := 11, ground := Ground.chain }, { on := 0, ground := Ground.phase }, { on := 1, ground := Ground.phase }, { on := 2, ground := Ground.phase }, { on := 3, ground := Ground.phase }, { on := 4, ground := Ground.phase }, { on := 5, ground := Ground.phase }, { on := 6, ground := Ground.phase }, { on := 7, ground := Ground.phase }, { on := 8, ground := Ground.phase }, { on := 9, ground := Ground.phase }, { on := 10, ground := Ground.phase }, { on := 11, ground := Ground.phase }], guard := none }) rfl rfl (by kernel_rfl) (fun K hK => ?_)
      go_simp
      refine hK.out _ _ ?_
      clear hK K
      try simp only [Act.put, List.setIfInBounds_toArray, List.set_cons_zero, List.set_cons_succ]
      refine wpE.done (by kernel_rfl) ?_ _
      clear f0 f1
      go_wp2
      go_ret
      exact ⟨rfl, hEF.out, fun W1 S1 Y1 q => by cases q; exact ⟨_, _, _, _, _, _, _, _, _, hT5.out⟩⟩
end Go.Proofs.Ytpfejjkoemnmiaa
