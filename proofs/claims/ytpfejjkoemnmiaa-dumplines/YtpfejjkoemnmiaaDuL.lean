/-
  The walk of DumpLines.
-/
import Derived.Test.YtpfejjkoemnmiaaM15
import Derived.Test.YtpfejjkoemnmiaaDu8
import Derived.Test.YtpfejjkoemnmiaaOb9
namespace Go.Proofs.Ytpfejjkoemnmiaa
open Go.RowKit
set_option linter.unusedVariables false
set_option linter.unusedSimpArgs false
set_option maxRecDepth 100000
theorem Fi.put_byt {W S : List Int} {Y : List Ob.Y} (h : Fi.Ok W S Y) : L.Byt (Fi.put W S Y) := by
  intro x hx
  unfold Fi.put at hx
  rcases List.mem_append.1 hx with hx | hx
  · rcases List.mem_append.1 hx with hx | hx
    · exact L.put_byt _ x hx
    · exact L.put_byt _ x hx
  · obtain ⟨y, hy, hx⟩ := List.mem_flatMap.1 hx
    unfold Fi.one at hx
    rcases List.mem_append.1 hx with hx | hx
    · exact L.nameB_byt _ (L.bs_rng y.1) (L.name_len (h.hN y hy).1).2 x hx
    · rw [Fi.four_put] at hx; exact L.put_byt _ x hx
theorem Du.shape26 : shapeOf Try.prog 26 = some (#[.slice none 0 0, .slice none 0 0, .slice none 0 0], [(0, 1), (1, 1), (2, 1)]) := by kernel_rfl
theorem Du.built2 (A B : Option Addr) (n c m d : Nat) : Try.prog.built 26 [(0, .slice A n c), (1, .slice B m d)] = some #[.slice A n c, .slice B m d, .slice none 0 0] := by
  rw [built_of Du.shape26]
  simp [Instr.fill, Value.cells]
theorem Du.exec2 {o : Oper} {a : Act} {w : World} {A B : Option Addr} {n c m d : Nat} (x y : Operand) (ho : o.op = .build 26 #[(0, x), (1, y)]) (hx : a.eval x = .slice A n c) (hy : a.eval y = .slice B m d) : (execOp a.eval o).run Try.prog w = .ok (.value (.agg #[.slice A n c, .slice B m d, .slice none 0 0])) w := by
  refine exec_build 26 #[(0, x), (1, y)] ho _ ?_
  simp only [List.map_toArray, List.map_cons, List.map_nil, hx, hy]
  exact Du.built2 A B n c m d
set_option maxHeartbeats 8000000 in
set_option maxRecDepth 100000 in
theorem walk_lines (w : World) (A B C : Option Addr) (n c m d k e : Nat) (ws bs : List Int) (ns : List ByteArray) (hW : Wo w A n c ws) (hS : By w B m d bs) (hN : St w C k e ns) :
    Calls Try.prog 7 #[.agg #[.slice A n c, .slice B m d, .slice C k e]] w fun e w' => e = .returned (.bool true) ∧ Below w.heap.size w w' := by
  have hB := ((Kept.refl w).alloc #[.slice A n c, .slice B m d, .slice C k e] 45).below
  have hO := Lib.hid (Has.new #[.slice A n c, .slice B m d, .slice C k e] 45 w)
  have CF := fun w' (hb : Below w.heap.size w w') => Ob.fit_any (hW.below hb) (hS.below hb) (hN.below hb)
  have hF := Ob.fine_fit bs ns hW.rng
  have hWl := Ob.fW_len ws bs
  rw [hW.len] at hF hWl
  generalize Ob.fW ws bs = W at *
  generalize Ob.fS (min n 40) bs = S at *
  generalize Ob.fY (min n 40) ns = Y at *
  generalize min n 40 = n1 at *
  subst hWl
  replace CF := Lib.hid CF
  have hW40 := hF.hn
  have hY8 := hF.hy
  have hS64 : S.length ≤ 65535 := by
    rcases Nat.eq_zero_or_pos S.length with q | q
    · omega
    · have h1 := hF.hR
      have h2 : ∀ j, j < S.length → (j : Int) ≤ S.getD j 0 := fun j => by
        induction j with
        | zero => intro hj; have := Ch.at_ge h1 0 hj; omega
        | succ j ih => intro hj; have := ih (by omega); have := Ch.mono h1 j (j + 1) (by omega) hj; omega
      have h3 := h2 (S.length - 1) (by omega)
      have h4 := Ch.at_ge h1 (S.length - 1) (by omega)
      omega
  replace hF := Lib.hid hF
  clear hW hS hN
  go_enter Try.func7, Try.ntmps7
  go_wp2_with (fail)
  generalize w.alloc (.cells #[.slice A n c, .slice B m d, .slice C k e] 45) = w1 at *
  refine (Du.shown_any w1).mono ?_; rintro r w2 ⟨rfl, hE⟩
  replace hB := Lib.hid (hB.trans (hE.mono hB.size))
  replace hO := Lib.hid (hO.out.below hE)
  clear hE
  have o0 := hO.out.cell 0 (.slice A n c) rfl
  have o1 := hO.out.cell 1 (.slice B m d) rfl
  have o2 := hO.out.cell 2 (.slice C k e) rfl
  go_wp2_with (fail)
  clear o0 o1 o2
  refine (CF.out w2 hB.out).mono ?_; rintro r w3 ⟨gW, cW, gS, cS, C1, e1, rfl, hP, hQ, hY, hE⟩
  have hA3 := ((Kept.refl w3).alloc #[.slice (some ⟨gW, 0, none⟩) W.length cW, .slice (some ⟨gS, 0, none⟩) S.length cS, .slice C1 Y.length e1] 26).below
  have hX := Lib.hid (show Ob.Own w2.heap.size w3.heap.size (some ⟨gW, 0, none⟩) W.length cW (some ⟨gS, 0, none⟩) S.length cS C1 Y.length e1 W S Y (w3.alloc (.cells #[.slice (some ⟨gW, 0, none⟩) W.length cW, .slice (some ⟨gS, 0, none⟩) S.length cS, .slice C1 Y.length e1] 26)) from ⟨Has.new _ _ _, (hP.on.below hA3), (hQ.on.below hA3), hY.below hA3, hE.size⟩)
  replace hB := Lib.hid ((hB.out.trans (hE.mono hB.out.size)).trans (hA3.mono (Nat.le_trans hB.out.size hE.size)))
  replace hO := (hO.out.below hE).below hA3
  clear hP hQ hY hE hA3
  clear hO CF
  have o0 := hX.out.hG.cell 0 (.slice (some ⟨gW, 0, none⟩) W.length cW) rfl
  have o1 := hX.out.hG.cell 1 (.slice (some ⟨gS, 0, none⟩) S.length cS) rfl
  have o2 := hX.out.hG.cell 2 (.slice C1 Y.length e1) rfl
  go_wp2_with (fail)
  clear o0 o1 o2
  generalize hw4 : w3.alloc (.cells #[.slice (some ⟨gW, 0, none⟩) W.length cW, .slice (some ⟨gS, 0, none⟩) S.length cS, .slice C1 Y.length e1] 26) = w4 at *
  clear hw4
  generalize w3.heap.size = O at *
  have hK := Fi.may_ok hF.out.hr hF.out.ok
  have hTl : (Du.put W S Y).length ≤ 14 * W.length + 27 * Y.length := by
    have h1 := Du.wls_len (S := S) W 0
    have h2 := Du.names_len hK.hN Y.length
    rw [List.take_of_length_le (Nat.le_refl _)] at h2
    rw [Du.put_parts, List.length_append]
    omega
  have hTb := Du.put_byt W S Y
  have hTt := Du.take_put hK hF.out.ok
  have CP := fun (v : World) (A' B' C' : Option Addr) (n' c' m' d' k' e' : Nat) (h1 : Wo v A' n' c' W) (h2 : In v B' m' d' S) (h3 : Sy v C' k' e' Y) => Du.put_any h1 h2 h3 hF.out.siz
  rw [hF.out.ok, Du.put_yes hF.out.ok] at CP
  have hTs := L.bs_str _ hTb
  have hTz : (strOfNums (Du.put W S Y)).size ≤ 1000000 := by rw [strOfNums_size]; omega
  generalize strOfNums (Du.put W S Y) = T at *
  have hyl := Du.names_len hK.hN Y.length
  rw [List.take_of_length_le (Nat.le_refl _)] at hyl
  have hTsz : T.size = 14 * W.length + (Du.text (Y.map Du.nl)).length := by rw [← L.bs_len, hTs, Du.put_parts, List.length_append, Du.wls_len]
  replace CP := Lib.hid CP
  replace hTs := Lib.hid hTs
  clear hTt hTb hTz
  refine (CP.out _ _ _ _ _ _ _ _ _ _ (hX.out.wo hF.out.hr) hX.out.in hX.out.sy).mono ?_; rintro r w5 ⟨rfl, hE⟩
  clear CP
  replace hB := Lib.hid (hB.out.trans (hE.mono hB.out.size))
  replace hX := Lib.hid (hX.out.below hE)
  clear hE
  have o0 := hX.out.hG.cell 0 (.slice (some ⟨gW, 0, none⟩) W.length cW) rfl
  have o1 := hX.out.hG.cell 1 (.slice (some ⟨gS, 0, none⟩) S.length cS) rfl
  have o2 := hX.out.hG.cell 2 (.slice C1 Y.length e1) rfl
  go_wp2_with (fail)
  go_loopw [7, 8] (fun v i wr => ∃ j : Nat, j ≤ Y.length ∧ i = .int .i64 j ∧ v = .int .i64 ((14 * W.length + (Du.text ((Y.take j).map Du.nl)).length : Nat) : Int) ∧ w5 = wr) (fun _ i _ => Y.length - (intOf i).toNat)
  case atStart => exact ⟨0, Nat.zero_le _, rfl, by congr 1, rfl⟩
  case round =>
    obtain ⟨j, hj, rfl, rfl, rfl⟩ := hrel
    by_cases d1 : j < Y.length
    · have d2 : (j : Int) < Y.length := by omega
      obtain ⟨bc, oc, rfl⟩ := hX.out.sy.place (by omega)
      have g1 := hX.out.sy.name j d1
      have hst := congrArg List.length (Du.names_step (ys := Y) d1)
      rw [List.length_append, List.length_append, Du.nl_len, L.bs_len, List.length_singleton] at hst
      have hul := Du.names_len hK.hN j
      have hs7 := L.name_len (hK.at (k := j) d1).1
      rw [L.bs_len] at hs7
      replace hst : (Du.text ((Y.take (j + 1)).map Du.nl)).length = (Du.text ((Y.take j).map Du.nl)).length + (14 + (Ob.nm Y j).size + 1) := hst
      generalize hU1 : (Du.text ((Y.take (j + 1)).map Du.nl)).length = U1 at *
      generalize hU : (Du.text ((Y.take j).map Du.nl)).length = U at *
      generalize Ob.nm Y j = s at *
      have hs12 : s.size ≤ 12 := hs7.2
      replace hst := Lib.hid hst
      go_wp2
      exact ⟨⟨j + 1, d1, by go_num, by congr 1; rw [hU1, hst.out]; omega, trivial⟩, by simp [intOf]; omega⟩
    · have d2 : ¬ (j : Int) < Y.length := by omega
      obtain rfl : j = Y.length := by omega
      rw [List.take_of_length_le (Nat.le_refl _), ← hTsz]
      by_cases c0 : W.length = 0
      · have c1 : ((W.length : Int) == 0) = true := by rw [c0]; rfl
        go_wp2
        go_ret
        exact ⟨rfl, hB.out⟩
      have c1 : ((W.length : Int) == 0) = false := beq_eq_false_iff_ne.2 (by omega)
      by_cases y0 : Y.length = 0
      · have y1 : ((Y.length : Int) == 0) = true := by rw [y0]; rfl
        go_wp2
        go_ret
        exact ⟨rfl, hB.out⟩
      have y1 : ((Y.length : Int) == 0) = false := beq_eq_false_iff_ne.2 (by omega)
      clear hj
      go_wp2_with (fail)
      clear o0 o1 o2
      obtain ⟨q, hq⟩ : ∃ q, 14 * W.length = q := ⟨_, rfl⟩
      have q1 : IntKind.i64.wrap (14 * (W.length : Int)) = (q : Int) := by rw [IntKind.wrap_i64]; omega
      have q2 : (q : Int) ≤ T.size := by omega
      have q3 : T.size ≤ 1000 := by omega
      have c5 : ¬ 9223372036854775807 < T.size - q + min q T.size := by omega
      replace hTsz := Lib.hid hTsz
      replace hq := Lib.hid hq
      refine wp_region_held_drew (S := fun w' => Below w5.heap.size w5 w') (by kernel_rfl) ((Below.refl _ _).drew) (fun hHeld => ?_)
      replace hB := Lib.hid (hB.out.trans (hHeld.mono hB.out.size))
      replace hX := Lib.hid (hX.out.below hHeld)
      refine wpAnyH_now _ _ _ _ hHeld (fun hHeld => ?_)
      generalize w5.drew = w5d at *
      refine wpAnyH_take (i := 0) (oi := { dst := some 70, op := Op.move (Operand.tmp 5), type := 9, pos := "more.go:25", after := #[], guard := none }) (v := ?_) rfl (by kernel_rfl) (by kernel_rfl) (by kernel_rfl) (fun _ _ _ h => h) (Or.inl ⟨rfl, ?_⟩) hHeld ?_
      rotate_left
      · (intro wz hSw; go_simp; try with_reducible rfl)
      try simp only [Act.put, List.setIfInBounds_toArray, List.set_cons_zero, List.set_cons_succ]
      refine wpAnyH_take (i := 1) (oi := { dst := some 71, op := Op.fieldAddr 26 (Operand.tmp 4) 0, type := 0, pos := "more.go:25", after := #[], guard := none }) (v := ?_) rfl (by kernel_rfl) (by kernel_rfl) (by kernel_rfl) (fun _ _ _ h => h) (Or.inl ⟨rfl, ?_⟩) hHeld ?_
      rotate_left
      · (intro wz hSw; go_simp; try with_reducible rfl)
      try simp only [Act.put, List.setIfInBounds_toArray, List.set_cons_zero, List.set_cons_succ]
      refine wpAnyH_take (i := 2) (oi := { dst := some 72, op := Op.load 22 (Operand.tmp 71), type := 22, pos := "more.go:25", after := #[{ on := 1, ground := Ground.data }], guard := none }) (v := ?_) rfl (by kernel_rfl) (by kernel_rfl) (by kernel_rfl) (fun _ _ _ h => h) (Or.inl ⟨rfl, ?_⟩) hHeld ?_
      rotate_left
      · (intro wz hSw; have o0 := (hX.out.below hSw).hG.cell 0 (.slice (some ⟨gW, 0, none⟩) W.length cW) rfl; go_simp; try with_reducible rfl)
      try simp only [Act.put, List.setIfInBounds_toArray, List.set_cons_zero, List.set_cons_succ]
      refine wpAnyH_take (i := 3) (oi := { dst := some 73, op := Op.call { callee := Callee.builtin Builtin.len, args := #[Operand.tmp 72], argTypes := #[22] }, type := 3, pos := "more.go:25", after := #[{ on := 2, ground := Ground.data }], guard := none }) (v := ?_) rfl (by kernel_rfl) (by kernel_rfl) (by kernel_rfl) (fun _ _ _ h => h) (Or.inl ⟨rfl, ?_⟩) hHeld ?_
      rotate_left
      · (intro wz hSw; go_simp; try with_reducible rfl)
      try simp only [Act.put, List.setIfInBounds_toArray, List.set_cons_zero, List.set_cons_succ]
      refine wpAnyH_take (i := 4) (oi := { dst := some 74, op := Op.binOp BinOp.mul 3 (Operand.const (Value.int IntKind.i64 14)) (Operand.tmp 73) 3, type := 3, pos := "more.go:25", after := #[{ on := 3, ground := Ground.data }], guard := none }) (v := ?_) rfl (by kernel_rfl) (by kernel_rfl) (by kernel_rfl) (fun _ _ _ h => h) (Or.inl ⟨rfl, ?_⟩) hHeld ?_
      rotate_left
      · (intro wz hSw; go_simp; (try simp only [q1]); try with_reducible rfl)
      try simp only [Act.put, List.setIfInBounds_toArray, List.set_cons_zero, List.set_cons_succ]
      refine wpAnyH_take (i := 5) (oi := { dst := some 75, op := Op.slice 9 (Operand.tmp 70) (some (Operand.tmp 74)) none none, type := 9, pos := "more.go:25", after := #[{ on := 0, ground := Ground.data }, { on := 4, ground := Ground.data }], guard := none }) (v := ?_) rfl (by kernel_rfl) (by kernel_rfl) (by kernel_rfl) (fun _ _ _ h => h) (Or.inl ⟨rfl, ?_⟩) hHeld ?_
      rotate_left
      · (intro wz hSw; go_simp; try with_reducible rfl)
      try simp only [Act.put, List.setIfInBounds_toArray, List.set_cons_zero, List.set_cons_succ]
      refine wpAnyH_take (i := 6) (oi := { dst := some 76, op := Op.move (Operand.tmp 5), type := 9, pos := "more.go:25", after := #[], guard := none }) (v := ?_) rfl (by kernel_rfl) (by kernel_rfl) (by kernel_rfl) (fun _ _ _ h => h) (Or.inl ⟨rfl, ?_⟩) hHeld ?_
      rotate_left
      · (intro wz hSw; go_simp; try with_reducible rfl)
      try simp only [Act.put, List.setIfInBounds_toArray, List.set_cons_zero, List.set_cons_succ]
      refine wpAnyH_take (i := 7) (oi := { dst := some 77, op := Op.fieldAddr 26 (Operand.tmp 4) 0, type := 0, pos := "more.go:25", after := #[], guard := none }) (v := ?_) rfl (by kernel_rfl) (by kernel_rfl) (by kernel_rfl) (fun _ _ _ h => h) (Or.inl ⟨rfl, ?_⟩) hHeld ?_
      rotate_left
      · (intro wz hSw; go_simp; try with_reducible rfl)
      try simp only [Act.put, List.setIfInBounds_toArray, List.set_cons_zero, List.set_cons_succ]
      refine wpAnyH_take (i := 8) (oi := { dst := some 78, op := Op.load 22 (Operand.tmp 77), type := 22, pos := "more.go:25", after := #[{ on := 7, ground := Ground.data }], guard := none }) (v := ?_) rfl (by kernel_rfl) (by kernel_rfl) (by kernel_rfl) (fun _ _ _ h => h) (Or.inl ⟨rfl, ?_⟩) hHeld ?_
      rotate_left
      · (intro wz hSw; have o0 := (hX.out.below hSw).hG.cell 0 (.slice (some ⟨gW, 0, none⟩) W.length cW) rfl; go_simp; try with_reducible rfl)
      try simp only [Act.put, List.setIfInBounds_toArray, List.set_cons_zero, List.set_cons_succ]
      refine wpAnyH_take (i := 9) (oi := { dst := some 79, op := Op.call { callee := Callee.builtin Builtin.len, args := #[Operand.tmp 78], argTypes := #[22] }, type := 3, pos := "more.go:25", after := #[{ on := 8, ground := Ground.data }], guard := none }) (v := ?_) rfl (by kernel_rfl) (by kernel_rfl) (by kernel_rfl) (fun _ _ _ h => h) (Or.inl ⟨rfl, ?_⟩) hHeld ?_
      rotate_left
      · (intro wz hSw; go_simp; try with_reducible rfl)
      try simp only [Act.put, List.setIfInBounds_toArray, List.set_cons_zero, List.set_cons_succ]
      refine wpAnyH_take (i := 10) (oi := { dst := some 80, op := Op.binOp BinOp.mul 3 (Operand.const (Value.int IntKind.i64 14)) (Operand.tmp 79) 3, type := 3, pos := "more.go:25", after := #[{ on := 9, ground := Ground.data }], guard := none }) (v := ?_) rfl (by kernel_rfl) (by kernel_rfl) (by kernel_rfl) (fun _ _ _ h => h) (Or.inl ⟨rfl, ?_⟩) hHeld ?_
      rotate_left
      · (intro wz hSw; go_simp; (try simp only [q1]); try with_reducible rfl)
      try simp only [Act.put, List.setIfInBounds_toArray, List.set_cons_zero, List.set_cons_succ]
      refine wpAnyH_take (i := 11) (oi := { dst := some 81, op := Op.slice 9 (Operand.tmp 76) none (some (Operand.tmp 80)) none, type := 9, pos := "more.go:25", after := #[{ on := 6, ground := Ground.data }, { on := 10, ground := Ground.data }], guard := none }) (v := ?_) rfl (by kernel_rfl) (by kernel_rfl) (by kernel_rfl) (fun _ _ _ h => h) (Or.inl ⟨rfl, ?_⟩) hHeld ?_
      rotate_left
      · (intro wz hSw; go_simp; try with_reducible rfl)
      try simp only [Act.put, List.setIfInBounds_toArray, List.set_cons_zero, List.set_cons_succ]
      refine wpAnyH_take (i := 12) (oi := { dst := some 82, op := Op.binOp BinOp.add 9 (Operand.tmp 75) (Operand.tmp 81) 9, type := 9, pos := "more.go:25", after := #[{ on := 5, ground := Ground.data }, { on := 11, ground := Ground.data }], guard := none }) (v := ?_) rfl (by kernel_rfl) (by kernel_rfl) (by kernel_rfl) (fun _ _ _ h => h) (Or.inl ⟨rfl, ?_⟩) hHeld ?_
      rotate_left
      · (intro wz hSw; go_simp; (try simp only [c5, if_false]); try with_reducible rfl)
      try simp only [Act.put, List.setIfInBounds_toArray, List.set_cons_zero, List.set_cons_succ]
      refine wpAnyH_take (i := 13) (oi := { dst := some 9, op := Op.assign (Operand.tmp 82), type := 9, pos := "more.go:25", after := #[{ on := 12, ground := Ground.data }, { on := 0, ground := Ground.phase }, { on := 1, ground := Ground.phase }, { on := 2, ground := Ground.phase }, { on := 3, ground := Ground.phase }, { on := 4, ground := Ground.phase }, { on := 5, ground := Ground.phase }, { on := 6, ground := Ground.phase }, { on := 7, ground := Ground.phase }, { on := 8, ground := Ground.phase }, { on := 9, ground := Ground.phase }, { on := 10, ground := Ground.phase }, { on := 11, ground := Ground.phase }, { on := 12, ground := Ground.phase }], guard := none }) (v := ?_) rfl (by kernel_rfl) (by kernel_rfl) (by kernel_rfl) (fun _ _ _ h => h) (Or.inl ⟨rfl, ?_⟩) hHeld ?_
      rotate_left
      · (intro wz hSw; go_simp; try with_reducible rfl)
      try simp only [Act.put, List.setIfInBounds_toArray, List.set_cons_zero, List.set_cons_succ]
      refine wpAnyH_done (by kernel_rfl) ?_ _
      have hW0 : 0 < W.length := by omega
      have hY0 : 0 < Y.length := by omega
      have hbw : L.bs (T.extract 0 q) = Du.text (Du.wls S 0 W) := by rw [Du.bs_extract, List.drop_zero, Nat.sub_zero, hTs.out, Du.put_parts, List.take_left' (by rw [Du.wls_len, hq.out])]
      have hbn : L.bs (T.extract q T.size) = Du.text (Y.map Du.nl) := by rw [Du.bs_extract, hTs.out, Du.put_parts, List.drop_left' (by rw [Du.wls_len, hq.out]), List.take_of_length_le (by have h1 := hTsz.out; have h2 := hq.out; omega)]
      have hV : L.bs (T.extract q T.size ++ T.extract 0 q) = Du.text (Y.map Du.nl) ++ Du.text (Du.wls S 0 W) := by rw [L.bs_append, hbn, hbw]
      have CV := fun v => Du.take_any (T.extract q T.size ++ T.extract 0 q) (by rw [← L.bs_len, hV, List.length_append, Du.wls_len]; omega) v
      rw [hV, Du.turned hK hW0 hY0] at CV
      have CL := fun v => Du.take_any (T.extract 0 q) (by rw [← L.bs_len, hbw, Du.wls_len]; omega) v
      have hK0 : Fi.Ok W S [] := ⟨hK.hn, by simp, hK.hr, hK.hR, hK.hF, by simp⟩
      have hpw : Du.text (Du.wls S 0 W) = Du.put W S [] := by rw [Du.put_parts]; simp [Du.text]
      rw [hbw, hpw, Du.take_put hK0 hF.out.noY.ok] at CL
      have q5 : 14 * (W.length : Int) = (q : Int) := by have := hq.out; omega
      replace CV := Lib.hid CV
      replace CL := Lib.hid CL
      clear hbw hbn hV hK0 hpw hTs hTsz hK hq c5 q1 hHeld
      go_wp2_with (fail)
      refine (CV.out _).mono ?_
      rintro r w6 ⟨A6, n6, c6, B6, m6, d6, C6, k6, f6, rfl, hW6, hS6, hY6, hE⟩
      rw [show Fi.tE (.error 22) = 22 from rfl]
      have hA := ((Kept.refl w6).alloc #[.slice A6 n6 c6, .slice B6 m6 d6, .slice C6 k6 f6] 26).below
      have hO6 := Lib.hid (Has.new #[.slice A6 n6 c6, .slice B6 m6 d6, .slice C6 k6 f6] 26 w6)
      have hBx := hB.out.trans (hE.mono hB.out.size)
      replace hB := Lib.hid (hBx.trans (hA.mono hBx.size))
      replace hW6 := Lib.hid (hW6.below hA)
      replace hS6 := Lib.hid (hS6.below hA)
      replace hY6 := Lib.hid (hY6.below hA)
      replace hX := Lib.hid ((hX.out.below hE).below hA)
      clear hE hA hBx
      clear CV
      have o0 := hX.out.hG.cell 0 (.slice (some ⟨gW, 0, none⟩) W.length cW) rfl
      have o1 := hX.out.hG.cell 1 (.slice (some ⟨gS, 0, none⟩) S.length cS) rfl
      have o2 := hX.out.hG.cell 2 (.slice C1 Y.length e1) rfl
      go_wp2_with (fail)
      clear o0 o1 o2
      generalize hwG : w6.alloc (.cells #[.slice A6 n6 c6, .slice B6 m6 d6, .slice C6 k6 f6] 26) = w7 at *
      clear hwG
      refine (CL.out w7).mono ?_
      rintro r w8 ⟨A8, n8, c8, B8, m8, d8, C8, k8, f8, rfl, hW8, hS8, hY8, hE⟩
      rw [show Fi.tE (.ok (W, S, [])) = 0 from rfl]
      have hA := ((Kept.refl w8).alloc #[.slice A8 n8 c8, .slice B8 m8 d8, .slice C8 k8 f8] 26).below
      have hO8 := Lib.hid (Has.new #[.slice A8 n8 c8, .slice B8 m8 d8, .slice C8 k8 f8] 26 w8)
      have hBx := hB.out.trans (hE.mono hB.out.size)
      replace hB := Lib.hid (hBx.trans (hA.mono hBx.size))
      replace hW8 := Lib.hid (hW8.below hA)
      replace hS8 := Lib.hid (hS8.below hA)
      replace hY8 := Lib.hid (hY8.below hA)
      replace hX := Lib.hid ((hX.out.below hE).below hA)
      replace hO6 := Lib.hid ((hO6.out.below hE).below hA)
      replace hW6 := Lib.hid ((hW6.out.below hE).below hA)
      replace hS6 := Lib.hid ((hS6.out.below hE).below hA)
      replace hY6 := Lib.hid ((hY6.out.below hE).below hA)
      clear hE hA hBx
      clear CL
      have p0 := hO6.out.cell 0 (.slice A6 n6 c6) rfl
      have p1 := hO6.out.cell 1 (.slice B6 m6 d6) rfl
      have p2 := hO6.out.cell 2 (.slice C6 k6 f6) rfl
      go_wp2_with (first
        | (with_reducible refine want_do (o := ⟨some 102, _, _, _, _, _⟩) rfl (Fi.exec26 rfl) ?_)
        | fail)
      clear p0 p1 p2
      generalize hwG : w8.alloc (.cells #[.slice A8 n8 c8, .slice B8 m8 d8, .slice C8 k8 f8] 26) = w9 at *
      clear hwG
      refine (Ob.same_any hW6.out hS6.out hY6.out (Rw.empty _ _ _) (Rg.empty _ _) (Sy.empty _)).mono ?_; rintro r w10 ⟨rfl, hE⟩
      rw [show Ob.same (Fi.tW (.error 22)) (Fi.tS (.error 22)) (Fi.tY (.error 22)) [] [] [] = true from rfl]
      replace hB := Lib.hid (hB.out.trans (hE.mono hB.out.size))
      replace hX := Lib.hid (hX.out.below hE)
      replace hO8 := Lib.hid (hO8.out.below hE)
      replace hW8 := Lib.hid (hW8.out.below hE)
      replace hS8 := Lib.hid (hS8.out.below hE)
      replace hY8 := Lib.hid (hY8.out.below hE)
      clear hE
      clear hO6 hW6 hS6 hY6
      have o0 := hX.out.hG.cell 0 (.slice (some ⟨gW, 0, none⟩) W.length cW) rfl
      have o1 := hX.out.hG.cell 1 (.slice (some ⟨gS, 0, none⟩) S.length cS) rfl
      have o2 := hX.out.hG.cell 2 (.slice C1 Y.length e1) rfl
      have p0 := hO8.out.cell 0 (.slice A8 n8 c8) rfl
      have p1 := hO8.out.cell 1 (.slice B8 m8 d8) rfl
      have p2 := hO8.out.cell 2 (.slice C8 k8 f8) rfl
      go_wp2_with (first
        | (with_reducible refine want_do (o := ⟨some 115, _, _, _, _, _⟩) rfl (Du.exec2 (.tmp 112) (.tmp 114) rfl rfl rfl) ?_)
        | fail)
      clear o0 o1 o2 p0 p1 p2
      refine (Ob.same_any hW8.out hS8.out hY8.out (hX.out.wo hF.out.hr) hX.out.in (Sy.empty _)).mono ?_; rintro r w11 ⟨rfl, hE⟩
      rw [show Ob.same (Fi.tW (.ok (W, S, []))) (Fi.tS (.ok (W, S, []))) (Fi.tY (.ok (W, S, []))) W S [] = true from Ob.same_self W S []]
      replace hB := Lib.hid (hB.out.trans (hE.mono hB.out.size))
      clear hE
      go_wp2
      go_ret
      exact ⟨rfl, hB.out⟩
end Go.Proofs.Ytpfejjkoemnmiaa
