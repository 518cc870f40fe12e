/-
  The walk of FileParts.
-/
import Derived.Test.YtmdknjfhdmigdaaFi8
namespace Go.Proofs.Ytmdknjfhdmigdaa
open Go.RowKit
set_option linter.unusedVariables false
set_option linter.unusedSimpArgs false
set_option maxRecDepth 100000
set_option maxHeartbeats 2000000 in
set_option maxRecDepth 100000 in
theorem walk_parts (w : World) (A B C : Option Addr) (n c m d k e : Nat) (ws bs : List Int) (ns : List ByteArray) (hW : Wo w A n c ws) (hS : By w B m d bs) (hN : St w C k e ns) :
    Calls Try.prog 7 #[.agg #[.slice A n c, .slice B m d, .slice C k e]] w fun e w' => e = .returned (.bool true) ∧ Below w.heap.size w w' := by
  have hB := ((Kept.refl w).alloc #[.slice A n c, .slice B m d, .slice C k e] 40).below
  have hO := Lib.hid (Has.new #[.slice A n c, .slice B m d, .slice C k e] 40 w)
  have CF := fun w' (hb : Below w.heap.size w w') => Ob.fit_any (hW.below hb) (hS.below hb) (hN.below hb)
  have hF := Ob.fine_fit bs ns hW.rng
  have hWl := Ob.fW_len ws bs
  rw [hW.len] at hF hWl
  generalize Ob.fW ws bs = W at *
  generalize Ob.fS (min n 40) bs = S at *
  generalize Ob.fY (min n 40) ns = Y at *
  generalize min n 40 = n1 at *
  subst hWl
  replace CF := Lib.hid CF
  have hW40 := hF.hn
  have hY8 := hF.hy
  have hS64 : S.length ≤ 65535 := by
    rcases Nat.eq_zero_or_pos S.length with q | q
    · omega
    · have h1 := hF.hR
      have h2 : ∀ j, j < S.length → (j : Int) ≤ S.getD j 0 := fun j => by
        induction j with
        | zero => intro hj; have := Ch.at_ge h1 0 hj; omega
        | succ j ih => intro hj; have := ih (by omega); have := Ch.mono h1 j (j + 1) (by omega) hj; omega
      have h3 := h2 (S.length - 1) (by omega)
      have h4 := Ch.at_ge h1 (S.length - 1) (by omega)
      omega
  replace hF := Lib.hid hF
  clear hW hS hN
  go_enter Try.func7, Try.ntmps7
  go_wp2_with (fail)
  generalize w.alloc (.cells #[.slice A n c, .slice B m d, .slice C k e] 40) = w1 at *
  refine (Fi.shown_any w1).mono ?_; rintro r w2 ⟨rfl, hE⟩
  replace hB := Lib.hid (hB.trans (hE.mono hB.size))
  replace hO := Lib.hid (hO.out.below hE)
  clear hE
  have o0 := hO.out.cell 0 (.slice A n c) rfl
  have o1 := hO.out.cell 1 (.slice B m d) rfl
  have o2 := hO.out.cell 2 (.slice C k e) rfl
  go_wp2_with (fail)
  clear o0 o1 o2
  refine (CF.out w2 hB.out).mono ?_; rintro r w3 ⟨gW, cW, gS, cS, C1, e1, rfl, hP, hQ, hY, hE⟩
  have hA3 := ((Kept.refl w3).alloc #[.slice (some ⟨gW, 0, none⟩) W.length cW, .slice (some ⟨gS, 0, none⟩) S.length cS, .slice C1 Y.length e1] 26).below
  have hX := Lib.hid (show Ob.Own w2.heap.size w3.heap.size (some ⟨gW, 0, none⟩) W.length cW (some ⟨gS, 0, none⟩) S.length cS C1 Y.length e1 W S Y (w3.alloc (.cells #[.slice (some ⟨gW, 0, none⟩) W.length cW, .slice (some ⟨gS, 0, none⟩) S.length cS, .slice C1 Y.length e1] 26)) from ⟨Has.new _ _ _, (hP.on.below hA3), (hQ.on.below hA3), hY.below hA3, hE.size⟩)
  replace hB := Lib.hid ((hB.out.trans (hE.mono hB.out.size)).trans (hA3.mono (Nat.le_trans hB.out.size hE.size)))
  replace hO := (hO.out.below hE).below hA3
  clear hP hQ hY hE hA3
  clear hO CF
  have o0 := hX.out.hG.cell 0 (.slice (some ⟨gW, 0, none⟩) W.length cW) rfl
  have o1 := hX.out.hG.cell 1 (.slice (some ⟨gS, 0, none⟩) S.length cS) rfl
  have o2 := hX.out.hG.cell 2 (.slice C1 Y.length e1) rfl
  go_wp2_with (fail)
  clear o0 o1 o2
  generalize hw4 : w3.alloc (.cells #[.slice (some ⟨gW, 0, none⟩) W.length cW, .slice (some ⟨gS, 0, none⟩) S.length cS, .slice C1 Y.length e1] 26) = w4 at *
  clear hw4
  generalize w3.heap.size = O at *
  have hK := Fi.may_ok hF.out.hr hF.out.ok
  have hPr := Lib.hid hK.pk
  obtain ⟨e1', e2', e3'⟩ := hK.pack
  have hPl := Ch.pk_len W S S.length
  have hh := hK.head
  have hh0 := hh.1
  have hh1 := hh.2
  have CP := fun (v : World) (h1 : Ob.Own w2.heap.size O (some ⟨gW, 0, none⟩) W.length cW (some ⟨gS, 0, none⟩) S.length cS C1 Y.length e1 W S Y v) => Fi.put_any (h1.wo hF.out.hr) h1.in h1.sy hF.out.siz
  rw [hF.out.ok, Fi.put_yes (w := w) hF.out.ok] at CP
  have hZb := Lib.hid (Fi.put_byt hK)
  have CQ := fun (v : World) (h1 : Ob.Own w2.heap.size O (some ⟨gW, 0, none⟩) W.length cW (some ⟨gS, 0, none⟩) S.length cS C1 Y.length e1 W S Y v) => Ch.pack_any (h1.wo hF.out.hr) h1.in (by omega)
  rw [e1', e2', e3'] at CQ
  have hpu : Fi.put W S Y = L.put [894847314, (W.length : Int), Ch.prev S S.length + 1, (Y.length : Int)] ++ L.put (Ch.pk W S S.length) ++ Fi.names Y := rfl
  generalize Fi.put W S Y = Z at *
  generalize Ch.pk W S S.length = P at *
  generalize Ch.prev S S.length + 1 = hd at *
  replace hpu := Lib.hid hpu
  replace hK := Lib.hid hK
  replace CQ := Lib.hid CQ
  clear e1' e2' e3' hh
  refine (CP _ hX.out).mono ?_; rintro r w5 ⟨A5, n5, c5, rfl, hP, hE⟩
  clear CP
  replace hP := Lib.hid (hP.rg.rw (L := 256) hZb.out)
  replace hB := Lib.hid (hB.out.trans (hE.mono hB.out.size))
  replace hX := Lib.hid (hX.out.below hE)
  clear hE
  have o0 := hX.out.hG.cell 0 (.slice (some ⟨gW, 0, none⟩) W.length cW) rfl
  have o1 := hX.out.hG.cell 1 (.slice (some ⟨gS, 0, none⟩) S.length cS) rfl
  have o2 := hX.out.hG.cell 2 (.slice C1 Y.length e1) rfl
  go_wp2_with (fail)
  clear o0 o1 o2
  refine (CQ.out _ hX.out).mono ?_; rintro r w6 ⟨A6, n6, c6, rfl, hR, hE⟩
  clear CQ
  replace hR := Lib.hid (hR.rg.rw hPr.out)
  have hn6 := hR.out.len
  rw [hPl] at hn6
  subst hn6
  replace hB := Lib.hid (hB.out.trans (hE.mono hB.out.size))
  replace hX := Lib.hid (hX.out.below hE)
  replace hP := Lib.hid (hP.out.below hE)
  clear hE
  have hT := Lib.hid (Below.refl w6.heap.size w6)
  have o0 := hX.out.hG.cell 0 (.slice (some ⟨gW, 0, none⟩) W.length cW) rfl
  have o1 := hX.out.hG.cell 1 (.slice (some ⟨gS, 0, none⟩) S.length cS) rfl
  have o2 := hX.out.hG.cell 2 (.slice C1 Y.length e1) rfl
  have hA := ((Kept.refl w6).alloc #[.int .u32 894847314, .int .u32 W.length, .int .u32 hd, .int .u32 Y.length] 45).below
  have hH := Lib.hid (show Wo _ (some ⟨w6.heap.size, 0, none⟩) 4 4 [(894847314 : Int), (W.length : Int), hd, (Y.length : Int)] from Rw.of (k := .u32) (L := 4294967296) [(894847314 : Int), (W.length : Int), hd, (Y.length : Int)] (Has.new #[.int .u32 894847314, .int .u32 W.length, .int .u32 hd, .int .u32 Y.length] 45 w6) (by simp [maxLen]) (by intro x hx; simp only [List.mem_cons, List.not_mem_nil, or_false] at hx; rcases hx with rfl | rfl | rfl | rfl <;> omega))
  replace hT := Lib.hid hA
  have hn40 : (W.length : Int) ≤ 40 := by omega
  have hy8 : (Y.length : Int) ≤ 8 := by omega
  clear hA
  go_wp2_with (fail)
  clear o0 o1 o2
  generalize hwG : w6.alloc (.cells #[.int .u32 894847314, .int .u32 W.length, .int .u32 hd, .int .u32 Y.length] 45) = w7 at *
  clear hwG
  refine (L.put_own hH.out (by omega)).mono ?_; rintro r w8 ⟨g8, cap8, rfl, hQ, hE⟩
  replace hQ := Lib.hid (hQ.lower hT.out.size)
  replace hT := Lib.hid (hT.out.trans (hE.mono hT.out.size))
  clear hH hE
  go_wp2_with (fail)
  refine (L.put_any (hR.out.below hT.out) (by omega)).mono ?_; rintro r w9 ⟨g9, cap9, rfl, hV, hE⟩
  replace hT := Lib.hid (hT.out.trans (hE.mono hT.out.size))
  replace hQ := Lib.hid (hQ.out.below hE)
  replace hV := Lib.hid hV
  have hsC := hT.out.size
  clear hE hR
  go_wp2_with (first
    | (with_reducible refine append_row (o := ⟨some 50, _, _, _, _, _⟩) (L := 256) Try.underlying27 L.info8 (by omega) rfl (.tmp 47) (.tmp 49) rfl w6.heap.size g8 (4 * 4) cap8 _ rfl hQ.out _ (4 * W.length) cap9 _ rfl hV.out (by omega) hsC ?_
       intro g10 cap10 w10 hQ10 hG
       have hT10 := Lib.hid (hT.out.grown hG hsC (fun q e => by cases e; exact hQ.out.has.1))
       obtain ⟨N0, hN0⟩ : ∃ N, 4 * 4 + 4 * W.length = N := ⟨_, rfl⟩
       rw [hN0] at hQ10 ⊢
       replace hQ10 := Lib.hid hQ10
       clear hG hQ hV hT hsC)
    | fail)
  have hN1 : N0 ≤ 5000 := by omega
  obtain ⟨Z0, hZ0⟩ : ∃ Z0, L.put [(894847314 : Int), (W.length : Int), hd, (Y.length : Int)] ++ L.put P = Z0 := ⟨_, rfl⟩
  rw [hZ0] at hQ10
  have hpu2 := hpu.out
  rw [hZ0] at hpu2
  replace hpu2 := Lib.hid hpu2
  clear hN0 hZ0 hpu hPr
  have hYs := Lib.hid hX.out.sy
  have hO10 := Lib.hid (hX.out.hG.below hT10.out)
  go_loopw [10, 11] (fun b i wr => ∃ (j g N cap : Nat), j ≤ Y.length ∧ N ≤ 5000 + 20 * j ∧ i = .int .i64 j ∧ b = .slice (some ⟨g, 0, none⟩) N cap ∧ Ow 5 .u8 w6.heap.size g N cap (Z0 ++ Fi.names (Y.take j)) wr ∧ Has O #[.slice (some ⟨gW, 0, none⟩) W.length cW, .slice (some ⟨gS, 0, none⟩) S.length cS, .slice C1 Y.length e1] 26 wr ∧ Below w6.heap.size w6 wr) (fun _ i _ => Y.length - (intOf i).toNat)
  case atStart => exact ⟨0, g10, N0, cap10, Nat.zero_le _, by omega, rfl, rfl, by rw [List.take_zero, show Fi.names [] = [] from rfl, List.append_nil]; exact hQ10.out, hO10.out, hT10.out⟩
  case round =>
    clear hT10 hQ10 hO10
    obtain ⟨j, g, N, cap, hj, hN, rfl, rfl, hQ, hO, hT⟩ := hrel
    by_cases d1 : j < Y.length
    · have d2 : (j : Int) < Y.length := by omega
      obtain ⟨bc, oc, hbc⟩ := hYs.out.place (by omega)
      subst hbc
      have o2 := hO.cell 2 (.slice (some ⟨bc, oc, none⟩) Y.length e1) rfl
      have hYat := fun (v : World) (hv : Below w6.heap.size w6 v) => (hYs.out.below hv).at j d1
      have g1 := (hYs.out.below hT).name j d1
      have g2 := (hYs.out.below hT).at j d1
      have hyk := hK.out.at (k := j) (by omega)
      have R := Fi.names_take (ys := Y) (k := j) (by omega)
      have hs0 : (Ob.nm Y j).size ≤ 1000000 := Ob.size_at hF.out.siz j
      have hol := Fi.one_le hyk.1
      generalize Ob.nm Y j = s at *
      generalize Ob.pl Y j = p at *
      replace hYat := Lib.hid hYat
      have hp0 : 0 ≤ p := hyk.2.1
      have hp1 : p < 4294967296 := hyk.2.2
      have hsn : L.name (L.bs s) = true := hyk.1
      have hpn : L.pnE (L.bs s) = 0 ∧ L.pnB (L.bs s) = L.nameB (L.bs s) := by
        unfold L.pnE L.pnB
        rw [if_pos hsn, if_pos hsn]; exact ⟨rfl, rfl⟩
      have hol2 := hol
      rw [Fi.one_len] at hol2
      have hnl := L.nameB_len (L.bs s)
      rw [show Fi.one (s, p) = L.nameB (L.bs s) ++ L.put [p] from by unfold Fi.one; rw [Fi.four_put]] at R
      replace R := Lib.hid R
      have hSr : w6.heap.size ≤ wr.heap.size := hT.size
      replace hO := Lib.hid hO
      have hB := Lib.hid hT
      replace hQ := Lib.hid hQ
      clear hT hyk hol hsn
      go_wp2_with (fail)
      clear g1 g2 o2
      refine (L.putName_any s hs0 wr).mono ?_; rintro r w12 ⟨A9, n9, c9, rfl, hM, hE⟩
      rw [hpn.1]
      rw [hpn.2] at hM
      have hn9 : n9 ≤ 16 := by rw [← hM.len, hnl]; omega
      replace hB := Lib.hid (hB.out.trans (hE.mono hSr))
      replace hO := Lib.hid (hO.out.below hE)
      replace hQ := Lib.hid (hQ.out.below hE)
      replace hM := Lib.hid hM
      have q1 : IntKind.u32.wrap p = p := by rw [IntKind.wrap_u32]; omega
      clear hE hpn hnl hol2
      go_wp2_with (fail)
      refine wp_region_held_drew (S := fun w' => Below w6.heap.size w6 w' ∧ Has O #[.slice (some ⟨gW, 0, none⟩) W.length cW, .slice (some ⟨gS, 0, none⟩) S.length cS, .slice (some ⟨bc, oc, none⟩) Y.length e1] 26 w') (by kernel_rfl) ⟨hB.out.drew, hO.out.drew⟩ (fun hHeld => ?_)
      replace hQ := Lib.hid (hQ.out.drew)
      replace hM := Lib.hid (hM.out.drew)
      clear hB hO
      generalize w12.drew = v0 at *
      refine wpAnyH_take (i := 0) (oi := { dst := some 70, op := Op.move (Operand.tmp 10), type := 27, pos := "more.go:24", after := #[], guard := none }) (v := ?_) rfl (by kernel_rfl) (by kernel_rfl) (by kernel_rfl) (fun _ _ _ h => h) (Or.inl ⟨rfl, ?_⟩) hHeld ?_
      rotate_left
      · (intro wz hSw; (try dsimp only at hSw); go_simp; try with_reducible rfl)
      try simp only [Act.put, List.setIfInBounds_toArray, List.set_cons_zero, List.set_cons_succ]
      refine wpAnyH_take (i := 1) (oi := { dst := some 71, op := Op.move (Operand.tmp 12), type := 27, pos := "more.go:24", after := #[], guard := none }) (v := ?_) rfl (by kernel_rfl) (by kernel_rfl) (by kernel_rfl) (fun _ _ _ h => h) (Or.inl ⟨rfl, ?_⟩) hHeld ?_
      rotate_left
      · (intro wz hSw; (try dsimp only at hSw); go_simp; try with_reducible rfl)
      try simp only [Act.put, List.setIfInBounds_toArray, List.set_cons_zero, List.set_cons_succ]
      refine wpAnyH_take (i := 3) (oi := { dst := some 73, op := Op.fieldAddr 26 (Operand.tmp 4) 2, type := 0, pos := "more.go:24", after := #[], guard := none }) (v := ?_) rfl (by kernel_rfl) (by kernel_rfl) (by kernel_rfl) (fun _ _ _ h => h) (Or.inl ⟨rfl, ?_⟩) hHeld ?_
      rotate_left
      · (intro wz hSw; (try dsimp only at hSw); go_simp; try with_reducible rfl)
      try simp only [Act.put, List.setIfInBounds_toArray, List.set_cons_zero, List.set_cons_succ]
      refine wpAnyH_take (i := 4) (oi := { dst := some 74, op := Op.load 24 (Operand.tmp 73), type := 24, pos := "more.go:24", after := #[{ on := 3, ground := Ground.data }], guard := none }) (v := ?_) rfl (by kernel_rfl) (by kernel_rfl) (by kernel_rfl) (fun _ _ _ h => h) (Or.inl ⟨rfl, ?_⟩) hHeld ?_
      rotate_left
      · (intro wz hSw; have o2 := hSw.2.cell 2 (.slice (some ⟨bc, oc, none⟩) Y.length e1) rfl; go_simp; try with_reducible rfl)
      try simp only [Act.put, List.setIfInBounds_toArray, List.set_cons_zero, List.set_cons_succ]
      refine wpAnyH_take (i := 5) (oi := { dst := some 75, op := Op.move (Operand.tmp 11), type := 3, pos := "more.go:24", after := #[], guard := none }) (v := ?_) rfl (by kernel_rfl) (by kernel_rfl) (by kernel_rfl) (fun _ _ _ h => h) (Or.inl ⟨rfl, ?_⟩) hHeld ?_
      rotate_left
      · (intro wz hSw; (try dsimp only at hSw); go_simp; try with_reducible rfl)
      try simp only [Act.put, List.setIfInBounds_toArray, List.set_cons_zero, List.set_cons_succ]
      refine wpAnyH_take (i := 6) (oi := { dst := some 76, op := Op.indexAddr 24 (Operand.tmp 74) (Operand.tmp 75), type := 0, pos := "more.go:24", after := #[{ on := 4, ground := Ground.data }, { on := 5, ground := Ground.data }], guard := none }) (v := ?_) rfl (by kernel_rfl) (by kernel_rfl) (by kernel_rfl) (fun _ _ _ h => h) (Or.inl ⟨rfl, ?_⟩) hHeld ?_
      rotate_left
      · (intro wz hSw; (try dsimp only at hSw); go_simp; try with_reducible rfl)
      try simp only [Act.put, List.setIfInBounds_toArray, List.set_cons_zero, List.set_cons_succ]
      refine wpAnyH_take (i := 7) (oi := { dst := some 77, op := Op.fieldAddr 52 (Operand.tmp 76) 1, type := 0, pos := "more.go:24", after := #[{ on := 6, ground := Ground.data }], guard := none }) (v := ?_) rfl (by kernel_rfl) (by kernel_rfl) (by kernel_rfl) (fun _ _ _ h => h) (Or.inl ⟨rfl, ?_⟩) hHeld ?_
      rotate_left
      · (intro wz hSw; (try dsimp only at hSw); go_simp; try with_reducible rfl)
      try simp only [Act.put, List.setIfInBounds_toArray, List.set_cons_zero, List.set_cons_succ]
      refine wpAnyH_take (i := 8) (oi := { dst := some 78, op := Op.load 3 (Operand.tmp 77), type := 3, pos := "more.go:24", after := #[{ on := 7, ground := Ground.data }], guard := none }) (v := ?_) rfl (by kernel_rfl) (by kernel_rfl) (by kernel_rfl) (fun _ _ _ h => h) (Or.inl ⟨rfl, ?_⟩) hHeld ?_
      rotate_left
      · (intro wz hSw; have g2 := hYat.out _ hSw.1; go_simp; try with_reducible rfl)
      try simp only [Act.put, List.setIfInBounds_toArray, List.set_cons_zero, List.set_cons_succ]
      refine wpAnyH_take (i := 9) (oi := { dst := some 79, op := Op.convert 3 45 (Operand.tmp 78), type := 45, pos := "more.go:24", after := #[{ on := 8, ground := Ground.data }], guard := none }) (v := ?_) rfl (by kernel_rfl) (by kernel_rfl) (by kernel_rfl) (fun _ _ _ h => h) (Or.inl ⟨rfl, ?_⟩) hHeld ?_
      rotate_left
      · (intro wz hSw; go_simp; (try simp only [q1]); try with_reducible rfl)
      try simp only [Act.put, List.setIfInBounds_toArray, List.set_cons_zero, List.set_cons_succ]
      refine wpAnyH_ready (rs := [2, 10]) (by kernel_rfl) (by simp) ?_
      refine AllReadyH.cons (o := { dst := some 72, op := Op.call { callee := Callee.builtin Builtin.append, args := #[Operand.tmp 70, Operand.tmp 71], argTypes := #[27, 27] }, type := 27, pos := "more.go:24", after := #[{ on := 0, ground := Ground.data }, { on := 1, ground := Ground.data }], guard := none }) rfl (fun K hK => ?_) (AllReadyH.cons (o := { dst := some 80, op := Op.buildSlice 22 1 #[(0, Operand.tmp 79)], type := 22, pos := "more.go:24", after := #[{ on := 9, ground := Ground.data }], guard := none }) rfl (fun K hK => ?_) (AllReadyH.nil))
      · refine wp_append_row Try.underlying27 L.info8 (by omega) (.tmp 70) (.tmp 71) rfl w6.heap.size g N cap _ rfl hQ.out A9 n9 c9 _ rfl hM.out (by omega) hHeld.1.size ?_
        intro g2 cap2 v2 hQ2 hG2
        obtain ⟨N2, hN2⟩ : ∃ N2, N + n9 = N2 := ⟨_, rfl⟩
        rw [hN2] at hQ2 ⊢
        have hN0 := hHeld.1.grown hG2 hHeld.1.size (fun q e => by cases e; exact hQ.out.has.1)
        have hN1 := hHeld.2.grown hG2 (hQ.out.on.ne hHeld.2 (by decide))
        replace hQ2 := Lib.hid hQ2
        clear hG2 hQ hM
        have hN := (show (fun w' => Below w6.heap.size w6 w' ∧ Has O #[.slice (some ⟨gW, 0, none⟩) W.length cW, .slice (some ⟨gS, 0, none⟩) S.length cS, .slice (some ⟨bc, oc, none⟩) Y.length e1] 26 w') _ from ⟨hN0, hN1⟩)
        clear hHeld
        refine hK.out _ _ hN (fun hHeld => ?_)
        clear hK K hN
        try simp only [Act.put, List.setIfInBounds_toArray, List.set_cons_zero, List.set_cons_succ]
        refine wpAnyH_ready (rs := [10]) (by kernel_rfl) (by simp) ?_
        refine AllReadyH.cons (o := { dst := some 80, op := Op.buildSlice 22 1 #[(0, Operand.tmp 79)], type := 22, pos := "more.go:24", after := #[{ on := 9, ground := Ground.data }], guard := none }) rfl (fun K hK => ?_) (AllReadyH.nil)
        go_simp
        have hA := ((Kept.refl v2).alloc #[.int .u32 p] 45).below
        have hV2 := Lib.hid (show On 45 .u32 w6.heap.size (some ⟨v2.heap.size, 0, none⟩) 1 1 [p] (v2.alloc (.cells #[.int .u32 p] 45)) from Ow.one 45 .u32 p v2 w6.heap.size hHeld.1.size)
        have hN0 := hHeld.1.trans (hA.mono hHeld.1.size)
        have hN1 := hHeld.2.below hA
        replace hQ2 := Lib.hid (hQ2.out.below hA)
        generalize v2.alloc (.cells #[.int .u32 p] 45) = v3 at *
        clear hA
        have hN := (show (fun w' => Below w6.heap.size w6 w' ∧ Has O #[.slice (some ⟨gW, 0, none⟩) W.length cW, .slice (some ⟨gS, 0, none⟩) S.length cS, .slice (some ⟨bc, oc, none⟩) Y.length e1] 26 w') _ from ⟨hN0, hN1⟩)
        clear hHeld
        refine hK.out _ _ hN (fun hHeld => ?_)
        clear hK K hN
        try simp only [Act.put, List.setIfInBounds_toArray, List.set_cons_zero, List.set_cons_succ]
        refine wpAnyH_ready (rs := [11]) (by kernel_rfl) (by simp) ?_
        refine AllReadyH.cons (o := { dst := some 81, op := Op.call { callee := Callee.value (Operand.func 20), args := #[Operand.tmp 80], argTypes := #[22] }, type := 27, pos := "more.go:24", after := #[{ on := 10, ground := Ground.data }, { on := 2, ground := Ground.chain }], guard := none }) rfl (fun K hK => ?_) (AllReadyH.nil)
        go_simp
        go_at_call 20
        refine (L.put_any (hV2.out.rg.rw (L := 4294967296) (fun x hx => by simp only [List.mem_cons, List.not_mem_nil, or_false] at hx; subst hx; exact ⟨hp0, hp1⟩)) (by omega)).mono ?_
        rintro r v4 ⟨g12, cap12, rfl, hM4, hE⟩
        have hN0 := hHeld.1.trans (hE.mono hHeld.1.size)
        have hN1 := hHeld.2.below hE
        replace hQ2 := Lib.hid (hQ2.out.below hE)
        replace hM4 := Lib.hid hM4
        clear hE hV2
        have hN := (show (fun w' => Below w6.heap.size w6 w' ∧ Has O #[.slice (some ⟨gW, 0, none⟩) W.length cW, .slice (some ⟨gS, 0, none⟩) S.length cS, .slice (some ⟨bc, oc, none⟩) Y.length e1] 26 w') _ from ⟨hN0, hN1⟩)
        clear hHeld
        refine hK.out _ _ hN (fun hHeld => ?_)
        clear hK K hN
        try simp only [Act.put, List.setIfInBounds_toArray, List.set_cons_zero, List.set_cons_succ]
        refine wpAnyH_ready (rs := [12]) (by kernel_rfl) (by simp) ?_
        refine AllReadyH.cons (o := { dst := some 82, op := Op.call { callee := Callee.builtin Builtin.append, args := #[Operand.tmp 72, Operand.tmp 81], argTypes := #[27, 27] }, type := 27, pos := "more.go:24", after := #[{ on := 2, ground := Ground.data }, { on := 11, ground := Ground.data }, { on := 11, ground := Ground.chain }], guard := none }) rfl (fun K hK => ?_) (AllReadyH.nil)
        refine wp_append_row Try.underlying27 L.info8 (by omega) (.tmp 72) (.tmp 81) rfl w6.heap.size g2 N2 cap2 _ rfl hQ2.out _ (4 * 1) cap12 _ rfl hM4.out (by omega) hHeld.1.size ?_
        intro g5 cap5 v5 hQ5 hG5
        obtain ⟨N5, hN5⟩ : ∃ N5, N2 + 4 * 1 = N5 := ⟨_, rfl⟩
        rw [hN5] at hQ5 ⊢
        have hN0 := hHeld.1.grown hG5 hHeld.1.size (fun q e => by cases e; exact hQ2.out.has.1)
        have hN1 := hHeld.2.grown hG5 (hQ2.out.on.ne hHeld.2 (by decide))
        rw [List.append_assoc, List.append_assoc, ← R.out] at hQ5
        replace hQ5 := Lib.hid hQ5
        clear hG5 hQ2 hM4
        have hN := (show (fun w' => Below w6.heap.size w6 w' ∧ Has O #[.slice (some ⟨gW, 0, none⟩) W.length cW, .slice (some ⟨gS, 0, none⟩) S.length cS, .slice (some ⟨bc, oc, none⟩) Y.length e1] 26 w') _ from ⟨hN0, hN1⟩)
        clear hHeld
        refine hK.out _ _ hN (fun hHeld => ?_)
        clear hK K hN
        try simp only [Act.put, List.setIfInBounds_toArray, List.set_cons_zero, List.set_cons_succ]
        refine wpAnyH_take (i := 13) (oi := { dst := some 10, op := Op.assign (Operand.tmp 82), type := 27, pos := "more.go:24", after := #[{ on := 12, ground := Ground.data }, { on := 12, ground := Ground.chain }, { on := 0, ground := Ground.phase }, { on := 1, ground := Ground.phase }, { on := 2, ground := Ground.phase }, { on := 3, ground := Ground.phase }, { on := 4, ground := Ground.phase }, { on := 5, ground := Ground.phase }, { on := 6, ground := Ground.phase }, { on := 7, ground := Ground.phase }, { on := 8, ground := Ground.phase }, { on := 9, ground := Ground.phase }, { on := 10, ground := Ground.phase }, { on := 11, ground := Ground.phase }, { on := 12, ground := Ground.phase }], guard := none }) (v := ?_) rfl (by kernel_rfl) (by kernel_rfl) (by kernel_rfl) (fun _ _ _ h => h) (Or.inl ⟨rfl, ?_⟩) hHeld ?_
        rotate_left
        · (intro wz hSw; (try dsimp only at hSw); go_simp; try with_reducible rfl)
        try simp only [Act.put, List.setIfInBounds_toArray, List.set_cons_zero, List.set_cons_succ]
        refine wpAnyH_done (by kernel_rfl) ?_ _
        go_wp2
        go_roundw
        case rel => exact ⟨j + 1, g5, N5, cap5, by omega, by omega, by go_num, rfl, hQ5.out, hHeld.2, hHeld.1⟩
        case measure => simp [intOf]; omega
      · go_simp
        have hA := ((Kept.refl v0).alloc #[.int .u32 p] 45).below
        have hV := Lib.hid (Ow.one 45 .u32 p v0 w6.heap.size hHeld.1.size)
        have hN0 := hHeld.1.trans (hA.mono hHeld.1.size)
        have hN1 := hHeld.2.below hA
        replace hQ := Lib.hid (hQ.out.below hA)
        replace hM := Lib.hid (hM.out.below hA)
        generalize v0.alloc (.cells #[.int .u32 p] 45) = v1 at *
        clear hA
        have hN := (show (fun w' => Below w6.heap.size w6 w' ∧ Has O #[.slice (some ⟨gW, 0, none⟩) W.length cW, .slice (some ⟨gS, 0, none⟩) S.length cS, .slice (some ⟨bc, oc, none⟩) Y.length e1] 26 w') _ from ⟨hN0, hN1⟩)
        clear hHeld
        refine hK.out _ _ hN (fun hHeld => ?_)
        clear hK K hN
        try simp only [Act.put, List.setIfInBounds_toArray, List.set_cons_zero, List.set_cons_succ]
        refine wpAnyH_ready (rs := [2]) (by kernel_rfl) (by simp) ?_
        refine AllReadyH.cons (o := { dst := some 72, op := Op.call { callee := Callee.builtin Builtin.append, args := #[Operand.tmp 70, Operand.tmp 71], argTypes := #[27, 27] }, type := 27, pos := "more.go:24", after := #[{ on := 0, ground := Ground.data }, { on := 1, ground := Ground.data }], guard := none }) rfl (fun K hK => ?_) (AllReadyH.nil)
        refine wp_append_row Try.underlying27 L.info8 (by omega) (.tmp 70) (.tmp 71) rfl w6.heap.size g N cap _ rfl hQ.out A9 n9 c9 _ rfl hM.out (by omega) hHeld.1.size ?_
        intro g2 cap2 v3 hQ2 hG2
        obtain ⟨N2, hN2⟩ : ∃ N2, N + n9 = N2 := ⟨_, rfl⟩
        rw [hN2] at hQ2 ⊢
        have hN0 := hHeld.1.grown hG2 hHeld.1.size (fun q e => by cases e; exact hQ.out.has.1)
        have hN1 := hHeld.2.grown hG2 (hQ.out.on.ne hHeld.2 (by decide))
        have hV2 := Lib.hid (hV.out.on.grown (base'' := w6.heap.size) hG2 (hQ.out.on.unlike hV.out.on (by decide)))
        clear hV
        replace hQ2 := Lib.hid hQ2
        clear hG2 hQ hM
        have hN := (show (fun w' => Below w6.heap.size w6 w' ∧ Has O #[.slice (some ⟨gW, 0, none⟩) W.length cW, .slice (some ⟨gS, 0, none⟩) S.length cS, .slice (some ⟨bc, oc, none⟩) Y.length e1] 26 w') _ from ⟨hN0, hN1⟩)
        clear hHeld
        refine hK.out _ _ hN (fun hHeld => ?_)
        clear hK K hN
        try simp only [Act.put, List.setIfInBounds_toArray, List.set_cons_zero, List.set_cons_succ]
        refine wpAnyH_ready (rs := [11]) (by kernel_rfl) (by simp) ?_
        refine AllReadyH.cons (o := { dst := some 81, op := Op.call { callee := Callee.value (Operand.func 20), args := #[Operand.tmp 80], argTypes := #[22] }, type := 27, pos := "more.go:24", after := #[{ on := 10, ground := Ground.data }, { on := 2, ground := Ground.chain }], guard := none }) rfl (fun K hK => ?_) (AllReadyH.nil)
        go_simp
        go_at_call 20
        refine (L.put_any (hV2.out.rg.rw (L := 4294967296) (fun x hx => by simp only [List.mem_cons, List.not_mem_nil, or_false] at hx; subst hx; exact ⟨hp0, hp1⟩)) (by omega)).mono ?_
        rintro r v4 ⟨g12, cap12, rfl, hM4, hE⟩
        have hN0 := hHeld.1.trans (hE.mono hHeld.1.size)
        have hN1 := hHeld.2.below hE
        replace hQ2 := Lib.hid (hQ2.out.below hE)
        replace hM4 := Lib.hid hM4
        clear hE hV2
        have hN := (show (fun w' => Below w6.heap.size w6 w' ∧ Has O #[.slice (some ⟨gW, 0, none⟩) W.length cW, .slice (some ⟨gS, 0, none⟩) S.length cS, .slice (some ⟨bc, oc, none⟩) Y.length e1] 26 w') _ from ⟨hN0, hN1⟩)
        clear hHeld
        refine hK.out _ _ hN (fun hHeld => ?_)
        clear hK K hN
        try simp only [Act.put, List.setIfInBounds_toArray, List.set_cons_zero, List.set_cons_succ]
        refine wpAnyH_ready (rs := [12]) (by kernel_rfl) (by simp) ?_
        refine AllReadyH.cons (o := { dst := some 82, op := Op.call { callee := Callee.builtin Builtin.append, args := #[Operand.tmp 72, Operand.tmp 81], argTypes := #[27, 27] }, type := 27, pos := "more.go:24", after := #[{ on := 2, ground := Ground.data }, { on := 11, ground := Ground.data }, { on := 11, ground := Ground.chain }], guard := none }) rfl (fun K hK => ?_) (AllReadyH.nil)
        refine wp_append_row Try.underlying27 L.info8 (by omega) (.tmp 72) (.tmp 81) rfl w6.heap.size g2 N2 cap2 _ rfl hQ2.out _ (4 * 1) cap12 _ rfl hM4.out (by omega) hHeld.1.size ?_
        intro g5 cap5 v5 hQ5 hG5
        obtain ⟨N5, hN5⟩ : ∃ N5, N2 + 4 * 1 = N5 := ⟨_, rfl⟩
        rw [hN5] at hQ5 ⊢
        have hN0 := hHeld.1.grown hG5 hHeld.1.size (fun q e => by cases e; exact hQ2.out.has.1)
        have hN1 := hHeld.2.grown hG5 (hQ2.out.on.ne hHeld.2 (by decide))
        rw [List.append_assoc, List.append_assoc, ← R.out] at hQ5
        replace hQ5 := Lib.hid hQ5
        clear hG5 hQ2 hM4
        have hN := (show (fun w' => Below w6.heap.size w6 w' ∧ Has O #[.slice (some ⟨gW, 0, none⟩) W.length cW, .slice (some ⟨gS, 0, none⟩) S.length cS, .slice (some ⟨bc, oc, none⟩) Y.length e1] 26 w') _ from ⟨hN0, hN1⟩)
        clear hHeld
        refine hK.out _ _ hN (fun hHeld => ?_)
        clear hK K hN
        try simp only [Act.put, List.setIfInBounds_toArray, List.set_cons_zero, List.set_cons_succ]
        refine wpAnyH_take (i := 13) (oi := { dst := some 10, op := Op.assign (Operand.tmp 82), type := 27, pos := "more.go:24", after := #[{ on := 12, ground := Ground.data }, { on := 12, ground := Ground.chain }, { on := 0, ground := Ground.phase }, { on := 1, ground := Ground.phase }, { on := 2, ground := Ground.phase }, { on := 3, ground := Ground.phase }, { on := 4, ground := Ground.phase }, { on := 5, ground := Ground.phase }, { on := 6, ground := Ground.phase }, { on := 7, ground := Ground.phase }, { on := 8, ground := Ground.phase }, { on := 9, ground := Ground.phase }, { on := 10, ground := Ground.phase }, { on := 11, ground := Ground.phase }, { on := 12, ground := Ground.phase }], guard := none }) (v := ?_) rfl (by kernel_rfl) (by kernel_rfl) (by kernel_rfl) (fun _ _ _ h => h) (Or.inl ⟨rfl, ?_⟩) hHeld ?_
        rotate_left
        · (intro wz hSw; (try dsimp only at hSw); go_simp; try with_reducible rfl)
        try simp only [Act.put, List.setIfInBounds_toArray, List.set_cons_zero, List.set_cons_succ]
        refine wpAnyH_done (by kernel_rfl) ?_ _
        go_wp2
        go_roundw
        case rel => exact ⟨j + 1, g5, N5, cap5, by omega, by omega, by go_num, rfl, hQ5.out, hHeld.2, hHeld.1⟩
        case measure => simp [intOf]; omega
    · have d2 : ¬ (j : Int) < Y.length := by omega
      obtain rfl : j = Y.length := by omega
      rw [List.take_of_length_le (by omega), ← hpu2.out] at hQ
      have hQb := Lib.hid (hQ.rw (L := 256) hZb.out)
      have hPb := Lib.hid (hP.out.below hT)
      replace hB := Lib.hid (hB.out.trans (hT.mono hB.out.size))
      have o2 := hO.cell 2 (.slice C1 Y.length e1) rfl
      clear hQ hT hO hP
      go_wp2_with (first
        | (with_reducible refine want_do (o := ⟨some 94, _, _, _, _, _⟩) rfl (exec_text Try.underlying27 Try.underlying5 Try.underlying9 (.tmp 93) rfl rfl hPb.out) ?_)
        | (with_reducible refine want_do (o := ⟨some 96, _, _, _, _, _⟩) rfl (exec_text Try.underlying27 Try.underlying5 Try.underlying9 (.tmp 95) rfl rfl hQb.out) ?_)
        | fail)
      go_ret
      exact ⟨rfl, hB.out⟩
end Go.Proofs.Ytmdknjfhdmigdaa
