/-
  The walk of LoadRuns.
-/
import Derived.Test.YtpfgmfiegnkocaaGreatQg
namespace Go.Proofs.YtpfgmfiegnkocaaGreat
open Go.RowKit
set_option linter.unusedVariables false
set_option linter.unusedSimpArgs false
set_option maxRecDepth 100000
set_option maxHeartbeats 8000000 in
set_option maxRecDepth 100000 in
theorem walk_runs (w : World) (P B C : Option Addr) (n c m d k e : Nat) (ws bs : List Int) (ns : List ByteArray) (hW : Wo w P n c ws) (hS : By w B m d bs) (hN : St w C k e ns) (bb mm0 : Int) (ai : Option Addr) (ni ci : Nat) (is : List Int) (hI : Ws w ai ni ci is) (a2 : Int) (l2 : 0 ≤ a2) (u2 : a2 ≤ 255) :
    Calls Tryz.prog 3 #[.agg #[.slice P n c, .slice B m d, .slice C k e], .agg #[.int .i64 bb, .int .i64 mm0, .slice ai ni ci], .int .u8 a2] w fun e w' => e = .returned (.bool true) ∧ Below w.heap.size w w' := by
  have hB := (((Kept.refl w).alloc #[.slice P n c, .slice B m d, .slice C k e] 26).alloc #[.int .i64 bb, .int .i64 mm0, .slice ai ni ci] 28).below
  have hO := Lib.hid ((Has.new #[.slice P n c, .slice B m d, .slice C k e] 26 w).alloc (.cells #[.int .i64 bb, .int .i64 mm0, .slice ai ni ci] 28))
  have hZ := Lib.hid (Has.new1 #[.int .i64 bb, .int .i64 mm0, .slice ai ni ci] 28 w (.cells #[.slice P n c, .slice B m d, .slice C k e] 26))
  have CF := fun w' (hb : Below w.heap.size w w') => Ob.fit_any (hW.below hb) (hS.below hb) (hN.below hb)
  have hF := Ob.fine_fit bs ns hW.rng
  have hWl := Ob.fW_len ws bs
  rw [hW.len] at hF hWl
  generalize Ob.fW ws bs = W at *
  generalize Ob.fS (min n 40) bs = S at *
  generalize Ob.fY (min n 40) ns = Y at *
  generalize min n 40 = n1 at *
  subst hWl
  replace CF := Lib.hid CF
  have hW40 := hF.hn
  have hY8 := hF.hy
  have hS64 : S.length ≤ 65535 := by
    rcases Nat.eq_zero_or_pos S.length with q | q
    · omega
    · have h1 := hF.hR
      have h2 : ∀ j, j < S.length → (j : Int) ≤ S.getD j 0 := fun j => by
        induction j with
        | zero => intro hj; have := Ch.at_ge h1 0 hj; omega
        | succ j ih => intro hj; have := ih (by omega); have := Ch.mono h1 j (j + 1) (by omega) hj; omega
      have h3 := h2 (S.length - 1) (by omega)
      have h4 := Ch.at_ge h1 (S.length - 1) (by omega)
      omega
  replace hF := Lib.hid hF
  clear hW hS hN
  go_enter Tryz.func3, Tryz.ntmps3
  go_wp2_with (fail)
  generalize (w.alloc (.cells #[.slice P n c, .slice B m d, .slice C k e] 26)).alloc (.cells #[.int .i64 bb, .int .i64 mm0, .slice ai ni ci] 28) = w1 at *
  refine (Lo.shown_any w1).mono ?_; rintro r w2 ⟨rfl, hE⟩
  replace hB := Lib.hid (hB.trans (hE.mono hB.size))
  replace hO := Lib.hid (hO.out.below hE)
  replace hZ := Lib.hid (hZ.out.below hE)
  clear hE
  have o0 := hO.out.cell 0 (.slice P n c) rfl
  have o1 := hO.out.cell 1 (.slice B m d) rfl
  have o2 := hO.out.cell 2 (.slice C k e) rfl
  go_wp2_with (fail)
  clear o0 o1 o2
  refine (CF.out w2 hB.out).mono ?_; rintro r w3 ⟨gW, cW, gS, cS, C1, e1, rfl, hP, hQ, hY, hE⟩
  have hA3 := ((Kept.refl w3).alloc #[.slice (some ⟨gW, 0, none⟩) W.length cW, .slice (some ⟨gS, 0, none⟩) S.length cS, .slice C1 Y.length e1] 33).below
  have hX := Lib.hid (show Ob.Own w2.heap.size w3.heap.size (some ⟨gW, 0, none⟩) W.length cW (some ⟨gS, 0, none⟩) S.length cS C1 Y.length e1 W S Y (w3.alloc (.cells #[.slice (some ⟨gW, 0, none⟩) W.length cW, .slice (some ⟨gS, 0, none⟩) S.length cS, .slice C1 Y.length e1] 33)) from ⟨Has.new _ _ _, (hP.on.below hA3), (hQ.on.below hA3), hY.below hA3, hE.size⟩)
  replace hB := Lib.hid ((hB.out.trans (hE.mono hB.out.size)).trans (hA3.mono (Nat.le_trans hB.out.size hE.size)))
  replace hO := (hO.out.below hE).below hA3
  replace hZ := (hZ.out.below hE).below hA3
  clear hP hQ hY hE hA3
  clear hO CF
  go_upto_region 3 with (fail)
  generalize w3.alloc (.cells #[.slice (some ⟨gW, 0, none⟩) W.length cW, .slice (some ⟨gS, 0, none⟩) S.length cS, .slice C1 Y.length e1] 33) = w4 at *
  generalize w3.heap.size = O at *
  obtain ⟨K, hKe, hKl⟩ := Lo.and31 bb
  obtain ⟨J, hJe, hJl⟩ := Lo.and15 mm0
  obtain ⟨I, hI4⟩ : ∃ I : Int, 4 * (K : Int) = I := ⟨_, rfl⟩
  have hIq : I / 4 = (K : Int) := by omega
  obtain ⟨mm, hmm⟩ : ∃ m : Nat, (K : Int) + (W.length : Int) + (J : Int) = (m : Int) := ⟨K + W.length + J, by omega⟩
  have hI0 : 0 ≤ I ∧ I ≤ 124 := by omega
  have hm0 : mm ≤ 100 := by omega
  have hKm : K + W.length ≤ mm := by omega
  have hb1 : Lo.base I := ⟨by omega, by omega, by omega⟩
  have hok := hF.out.ok
  have i0 := Lo.ok_E hok hb1
  have i1 := Lo.ok_W hok hb1
  have i2 : Lo.mE W S Y I (mm : Int) = 0 := by unfold Lo.mE; rw [if_pos i0, if_neg (by omega), if_pos (by omega)]
  have hIt := hI.take (min ni 20) (by omega)
  have i20 : (if (20 : Int) < (ni : Int) then (20 : Int) else ni) = ((min ni 20 : Nat) : Int) := by split <;> omega
  have hnc : ((min ni 20 : Nat) : Int) ≤ ci := by have := hI.le; omega
  have hn20 : min ni 20 ≤ 20 := by omega
  generalize is.take (min ni 20) = it at *
  generalize min ni 20 = n2 at *
  have CM := fun (v : World) (h1 : Ob.Own w2.heap.size O (some ⟨gW, 0, none⟩) W.length cW (some ⟨gS, 0, none⟩) S.length cS C1 Y.length e1 W S Y v) (h2 : Ws v ai n2 ci it) => Lo.machine_any (h1.wo hF.out.hr) h1.in h1.sy hF.out.siz I (mm : Int) h2 (by omega)
  have CY := fun (v : World) (h1 : Ob.Own w2.heap.size O (some ⟨gW, 0, none⟩) W.length cW (some ⟨gS, 0, none⟩) S.length cS C1 Y.length e1 W S Y v) (h2 : Ws v ai n2 ci it) => Lo.rmachine_any (h1.wo hF.out.hr) h1.in h1.sy hF.out.siz I (mm : Int) h2 (by omega)
  rw [i2] at CM CY
  have hs2 : (Lo.st W S I (mm : Int) it).outs.length = 0 := Lo.st_outs
  generalize Lo.st W S I (mm : Int) it = st at *
  have hIw := Lib.hid hIt
  replace CM := Lib.hid CM
  replace CY := Lib.hid CY
  clear i0 i1 i2 hb1 hok hI hIt
  obtain ⟨hI0, hI1⟩ := hI0
  have z0 := hZ.cell 0 (.int .i64 bb) rfl
  have z1 := hZ.cell 1 (.int .i64 mm0) rfl
  have z2 := hZ.cell 2 (.slice ai ni ci) rfl
  have o0 := hX.out.hG.cell 0 (.slice (some ⟨gW, 0, none⟩) W.length cW) rfl
  clear hZ
  go_wp2_with (first
    | (with_reducible refine load_has (o := ⟨some 47, _, _, _, _, _⟩) rfl 33 (.tmp 8) rfl O rfl hX.out.hG Tryz.underlying33 rfl (Ob.info26 _ _ _) ?_)
    | fail)
  refine (CM.out _ hX.out (hIw.out.below (w0 := w) (Nat.le_refl _) hB.out)).mono ?_; rintro r w5 hM
  obtain ⟨B1, rfl, hL⟩ := hM.1 rfl
  clear hM z0 z1 z2 o0 CM
  have hE := hL.below
  replace hX := Lib.hid (hX.out.below hE)
  have hB5 := Lib.hid (hB.out.trans (hE.mono hB.out.size))
  replace hL := Lib.hid hL
  clear hE hKe hJe hI4 hmm i20 hnc
  go_wp2_with (first
    | (with_reducible refine load_has (o := ⟨some 55, _, _, _, _, _⟩) rfl 33 (.tmp 8) rfl O rfl hX.out.hG Tryz.underlying33 rfl (Ob.info26 _ _ _) ?_)
    | fail)
  refine (CY.out _ hX.out (hIw.out.below (w0 := w) (Nat.le_refl _) hB5.out)).mono ?_; rintro r w6 hM
  obtain ⟨E1, rfl, hR⟩ := hM.1 rfl
  have hD := Lib.hid (Lo.Duo.of hL.out hR)
  clear hM CY hX hL hR hIw hB5
  obtain ⟨N, hN4⟩ : ∃ N : Nat, a2 % 41 = (N : Int) := ⟨(a2 % 41).toNat, by omega⟩
  have hN41 : N < 41 := by omega
  go_wp2
  go_loopw [16] (fun i wr => ∃ q : Nat, q ≤ N ∧ i = .int .i64 q ∧ Lo.Duo w4 B1 E1 (X.go q st) (X.go q st) wr) (fun i _ => N - (intOf i).toNat)
  case atStart => exact ⟨0, Nat.zero_le _, rfl, hD.out⟩
  case round =>
    clear hD
    obtain ⟨q, hq, rfl, hD⟩ := hrel
    have hou := X.go_outs q st
    by_cases d1 : q < N
    · have d2 : (q : Int) < N := by omega
      have hgs := X.go_succ q st
      generalize X.go q st = x at *
      have hx : x.outs.length < 1000000 := by omega
      replace hD := Lib.hid hD
      replace hgs := Lib.hid hgs
      clear hou
      go_wp2_with (fail)
      have hD := Lib.hid (show Lo.Duo w4 B1 E1 x x wr.drew from hD.out.keep (Below.refl _ _).drew)
      refine wp_region_held_drew (S := fun _ => True) (by kernel_rfl) ?_ (fun hHeld => ?_)
      · trivial
      refine wpAnyH_take (i := 0) (oi := { dst := some 87, op := Op.move (Operand.tmp 12), type := 35, pos := "law.go:71", after := #[], guard := none }) (v := ?_) rfl (by kernel_rfl) (by kernel_rfl) (by kernel_rfl) (fun _ _ _ h => h) (Or.inl ⟨rfl, ?_⟩) hHeld ?_
      rotate_left
      · (intro wz hSw; (try dsimp only at hSw); go_simp; try with_reducible rfl)
      try simp only [Act.put, List.setIfInBounds_toArray, List.set_cons_zero, List.set_cons_succ]
      refine wpAnyH_take (i := 2) (oi := { dst := some 89, op := Op.move (Operand.tmp 14), type := 39, pos := "law.go:71", after := #[], guard := none }) (v := ?_) rfl (by kernel_rfl) (by kernel_rfl) (by kernel_rfl) (fun _ _ _ h => h) (Or.inl ⟨rfl, ?_⟩) hHeld ?_
      rotate_left
      · (intro wz hSw; (try dsimp only at hSw); go_simp; try with_reducible rfl)
      try simp only [Act.put, List.setIfInBounds_toArray, List.set_cons_zero, List.set_cons_succ]
      refine wpAnyH_ready (rs := [1]) (by kernel_rfl) (by simp) ?_
      refine AllReadyH.cons (o := { dst := some 88, op := Op.call { callee := Callee.value (Operand.func 8), args := #[Operand.tmp 87], argTypes := #[35] }, type := 3, pos := "law.go:71", after := #[{ on := 0, ground := Ground.data }], guard := none }) rfl (fun K hK => ?_) AllReadyH.nil
      go_simp
      go_at_call 8
      refine (hD.out.step hx).mono ?_
      rintro e w7 ⟨rfl, hD1⟩
      replace hD1 := Lib.hid hD1
      clear hD
      have hN := trivial
      clear hHeld
      refine hK.out _ _ hN (fun hHeld => ?_)
      clear hK K hN
      try simp only [Act.put, List.setIfInBounds_toArray, List.set_cons_zero, List.set_cons_succ]
      refine wpAnyH_ready (rs := [3]) (by kernel_rfl) (by simp) ?_
      refine AllReadyH.cons (o := { dst := some 90, op := Op.call { callee := Callee.value (Operand.func 9), args := #[Operand.tmp 89], argTypes := #[39] }, type := 3, pos := "law.go:71", after := #[{ on := 2, ground := Ground.data }, { on := 1, ground := Ground.chain }], guard := none }) rfl (fun K hK => ?_) AllReadyH.nil
      go_simp
      go_at_call 9
      refine (hD1.out.rstep hx).mono ?_
      rintro e w8 ⟨rfl, hD2⟩
      replace hD2 := Lib.hid hD2
      clear hD1
      have hN := trivial
      clear hHeld
      refine hK.out _ _ hN (fun hHeld => ?_)
      clear hK K hN
      try simp only [Act.put, List.setIfInBounds_toArray, List.set_cons_zero, List.set_cons_succ]
      generalize X.step x = x1 at *
      have hD3 := hD2.out
      obtain ⟨F1, G1, hM1, ⟨D1, D2, ai1, ni1, ci1, ao1, no1, co1, hR1⟩, _⟩ := hD3
      clear hHeld
      refine wpAnyH_more (S' := fun wz => Lo.Duo w4 B1 E1 x1 x1 wz ∧ Mac F1 B1 x1 wz ∧ RMacAt G1 E1 x1 D1 D2 ai1 ni1 ci1 ao1 no1 co1 wz) (fun _ _ => trivial) _ _ _ _ ?_
      have hHeld := (show (fun wz => Lo.Duo w4 B1 E1 x1 x1 wz ∧ Mac F1 B1 x1 wz ∧ RMacAt G1 E1 x1 D1 D2 ai1 ni1 ci1 ao1 no1 co1 wz) _ from ⟨hD2.out, hM1, hR1⟩)
      clear hD2 hM1 hR1
      refine wpAnyH_take (i := 4) (oi := { dst := some 91, op := Op.binOp BinOp.neq 3 (Operand.tmp 88) (Operand.tmp 90) 3, type := 4, pos := "law.go:71", after := #[{ on := 1, ground := Ground.data }, { on := 3, ground := Ground.data }], guard := none }) (v := ?_) rfl (by kernel_rfl) (by kernel_rfl) (by kernel_rfl) (fun _ _ _ h => h) (Or.inl ⟨rfl, ?_⟩) hHeld ?_
      rotate_left
      · (intro wz hSw; (try dsimp only at hSw); have p22 : World.cell? wz ⟨E1, 22, none⟩ = some (.int .u32 x1.pc) := hSw.2.2.box.cell 22 _ rfl; clear hSw; go_simp; try with_reducible rfl)
      try simp only [Act.put, List.setIfInBounds_toArray, List.set_cons_zero, List.set_cons_succ]
      refine wpAnyH_take (i := 5) (oi := { dst := some 92, op := Op.move (Operand.tmp 91), type := 4, pos := "law.go:71", after := #[{ on := 4, ground := Ground.data }, { on := 3, ground := Ground.chain }], guard := none }) (v := ?_) rfl (by kernel_rfl) (by kernel_rfl) (by kernel_rfl) (fun _ _ _ h => h) (Or.inl ⟨rfl, ?_⟩) hHeld ?_
      rotate_left
      · (intro wz hSw; (try dsimp only at hSw); have p22 : World.cell? wz ⟨E1, 22, none⟩ = some (.int .u32 x1.pc) := hSw.2.2.box.cell 22 _ rfl; clear hSw; go_simp; try with_reducible rfl)
      try simp only [Act.put, List.setIfInBounds_toArray, List.set_cons_zero, List.set_cons_succ]
      refine wpAnyH_take (i := 6) (oi := { dst := some 93, op := Op.move (Operand.tmp 12), type := 35, pos := "law.go:71", after := #[{ on := 5, ground := Ground.guard }], guard := some (5, false) }) (v := ?_) rfl (by kernel_rfl) (by kernel_rfl) (by kernel_rfl) (fun _ _ _ h => h) (Or.inl ⟨rfl, ?_⟩) hHeld ?_
      rotate_left
      · (intro wz hSw; (try dsimp only at hSw); have p22 : World.cell? wz ⟨E1, 22, none⟩ = some (.int .u32 x1.pc) := hSw.2.2.box.cell 22 _ rfl; clear hSw; go_simp; try with_reducible rfl)
      try simp only [Act.put, List.setIfInBounds_toArray, List.set_cons_zero, List.set_cons_succ]
      refine wpAnyH_take (i := 8) (oi := { dst := some 95, op := Op.move (Operand.tmp 14), type := 39, pos := "law.go:71", after := #[{ on := 5, ground := Ground.guard }], guard := some (5, false) }) (v := ?_) rfl (by kernel_rfl) (by kernel_rfl) (by kernel_rfl) (fun _ _ _ h => h) (Or.inl ⟨rfl, ?_⟩) hHeld ?_
      rotate_left
      · (intro wz hSw; (try dsimp only at hSw); have p22 : World.cell? wz ⟨E1, 22, none⟩ = some (.int .u32 x1.pc) := hSw.2.2.box.cell 22 _ rfl; clear hSw; go_simp; try with_reducible rfl)
      try simp only [Act.put, List.setIfInBounds_toArray, List.set_cons_zero, List.set_cons_succ]
      refine wpAnyH_take (i := 9) (oi := { dst := some 96, op := Op.nilCheck (Operand.tmp 95), type := 0, pos := "law.go:71", after := #[{ on := 8, ground := Ground.data }, { on := 5, ground := Ground.guard }], guard := some (5, false) }) (v := ?_) rfl (by kernel_rfl) (by kernel_rfl) (by kernel_rfl) (fun _ _ _ h => h) (Or.inl ⟨rfl, ?_⟩) hHeld ?_
      rotate_left
      · (intro wz hSw; (try dsimp only at hSw); have p22 : World.cell? wz ⟨E1, 22, none⟩ = some (.int .u32 x1.pc) := hSw.2.2.box.cell 22 _ rfl; clear hSw; go_simp; try with_reducible rfl)
      try simp only [Act.put, List.setIfInBounds_toArray, List.set_cons_zero, List.set_cons_succ]
      refine wpAnyH_take (i := 10) (oi := { dst := some 97, op := Op.fieldAddr 50 (Operand.tmp 96) 2, type := 0, pos := "law.go:71", after := #[{ on := 9, ground := Ground.data }, { on := 5, ground := Ground.guard }], guard := some (5, false) }) (v := ?_) rfl (by kernel_rfl) (by kernel_rfl) (by kernel_rfl) (fun _ _ _ h => h) (Or.inl ⟨rfl, ?_⟩) hHeld ?_
      rotate_left
      · (intro wz hSw; (try dsimp only at hSw); have p22 : World.cell? wz ⟨E1, 22, none⟩ = some (.int .u32 x1.pc) := hSw.2.2.box.cell 22 _ rfl; clear hSw; go_simp; try with_reducible rfl)
      try simp only [Act.put, List.setIfInBounds_toArray, List.set_cons_zero, List.set_cons_succ]
      refine wpAnyH_take (i := 11) (oi := { dst := some 98, op := Op.load 43 (Operand.tmp 97), type := 43, pos := "law.go:71", after := #[{ on := 10, ground := Ground.data }, { on := 5, ground := Ground.guard }], guard := some (5, false) }) (v := ?_) rfl (by kernel_rfl) (by kernel_rfl) (by kernel_rfl) (fun _ _ _ h => h) (Or.inl ⟨rfl, ?_⟩) hHeld ?_
      rotate_left
      · (intro wz hSw; (try dsimp only at hSw); have p22 : World.cell? wz ⟨E1, 22, none⟩ = some (.int .u32 x1.pc) := hSw.2.2.box.cell 22 _ rfl; clear hSw; go_simp; try with_reducible rfl)
      try simp only [Act.put, List.setIfInBounds_toArray, List.set_cons_zero, List.set_cons_succ]
      refine wpAnyH_ready (rs := [7]) (by kernel_rfl) (by simp) ?_
      refine AllReadyH.cons (o := { dst := some 94, op := Op.call { callee := Callee.value (Operand.func 10), args := #[Operand.tmp 93], argTypes := #[35] }, type := 43, pos := "law.go:71", after := #[{ on := 6, ground := Ground.data }, { on := 5, ground := Ground.chain }, { on := 5, ground := Ground.guard }], guard := some (5, false) }) rfl (fun K hK => ?_) AllReadyH.nil
      go_simp
      go_at_call 10
      refine (pc_any hHeld.2.1).mono ?_
      rintro e wb ⟨rfl, rfl⟩
      have hN := (show (fun wz => Lo.Duo w4 B1 E1 x1 x1 wz ∧ Mac F1 B1 x1 wz ∧ RMacAt G1 E1 x1 D1 D2 ai1 ni1 ci1 ao1 no1 co1 wz) _ from hHeld)
      clear hHeld
      refine hK.out _ _ hN (fun hHeld => ?_)
      clear hK K hN
      try simp only [Act.put, List.setIfInBounds_toArray, List.set_cons_zero, List.set_cons_succ]
      refine wpAnyH_take (i := 12) (oi := { dst := some 99, op := Op.binOp BinOp.neq 43 (Operand.tmp 94) (Operand.tmp 98) 43, type := 4, pos := "law.go:71", after := #[{ on := 7, ground := Ground.data }, { on := 11, ground := Ground.data }, { on := 5, ground := Ground.guard }], guard := some (5, false) }) (v := ?_) rfl (by kernel_rfl) (by kernel_rfl) (by kernel_rfl) (fun _ _ _ h => h) (Or.inl ⟨rfl, ?_⟩) hHeld ?_
      rotate_left
      · (intro wz hSw; (try dsimp only at hSw); have p22 : World.cell? wz ⟨E1, 22, none⟩ = some (.int .u32 x1.pc) := hSw.2.2.box.cell 22 _ rfl; clear hSw; go_simp; try with_reducible rfl)
      try simp only [Act.put, List.setIfInBounds_toArray, List.set_cons_zero, List.set_cons_succ]
      refine wpAnyH_take (i := 13) (oi := { dst := some 100, op := Op.pick (Operand.tmp 92) (Operand.const (Value.bool true)) (Operand.tmp 99), type := 4, pos := "law.go:71", after := #[{ on := 5, ground := Ground.data }, { on := 12, ground := Ground.data }], guard := none }) (v := ?_) rfl (by kernel_rfl) (by kernel_rfl) (by kernel_rfl) (fun _ _ _ h => h) (Or.inl ⟨rfl, ?_⟩) hHeld ?_
      rotate_left
      · (intro wz hSw; (try dsimp only at hSw); have p22 : World.cell? wz ⟨E1, 22, none⟩ = some (.int .u32 x1.pc) := hSw.2.2.box.cell 22 _ rfl; clear hSw; go_simp; try with_reducible rfl)
      try simp only [Act.put, List.setIfInBounds_toArray, List.set_cons_zero, List.set_cons_succ]
      refine wpAnyH_take (i := 14) (oi := { dst := some 101, op := Op.move (Operand.tmp 100), type := 4, pos := "law.go:71", after := #[{ on := 13, ground := Ground.data }, { on := 7, ground := Ground.chain }], guard := none }) (v := ?_) rfl (by kernel_rfl) (by kernel_rfl) (by kernel_rfl) (fun _ _ _ h => h) (Or.inl ⟨rfl, ?_⟩) hHeld ?_
      rotate_left
      · (intro wz hSw; (try dsimp only at hSw); have p22 : World.cell? wz ⟨E1, 22, none⟩ = some (.int .u32 x1.pc) := hSw.2.2.box.cell 22 _ rfl; clear hSw; go_simp; try with_reducible rfl)
      try simp only [Act.put, List.setIfInBounds_toArray, List.set_cons_zero, List.set_cons_succ]
      refine wpAnyH_take (i := 15) (oi := { dst := some 102, op := Op.move (Operand.tmp 12), type := 35, pos := "law.go:71", after := #[{ on := 14, ground := Ground.guard }], guard := some (14, false) }) (v := ?_) rfl (by kernel_rfl) (by kernel_rfl) (by kernel_rfl) (fun _ _ _ h => h) (Or.inl ⟨rfl, ?_⟩) hHeld ?_
      rotate_left
      · (intro wz hSw; (try dsimp only at hSw); have p22 : World.cell? wz ⟨E1, 22, none⟩ = some (.int .u32 x1.pc) := hSw.2.2.box.cell 22 _ rfl; clear hSw; go_simp; try with_reducible rfl)
      try simp only [Act.put, List.setIfInBounds_toArray, List.set_cons_zero, List.set_cons_succ]
      refine wpAnyH_take (i := 17) (oi := { dst := some 104, op := Op.move (Operand.tmp 14), type := 39, pos := "law.go:71", after := #[{ on := 14, ground := Ground.guard }], guard := some (14, false) }) (v := ?_) rfl (by kernel_rfl) (by kernel_rfl) (by kernel_rfl) (fun _ _ _ h => h) (Or.inl ⟨rfl, ?_⟩) hHeld ?_
      rotate_left
      · (intro wz hSw; (try dsimp only at hSw); have p22 : World.cell? wz ⟨E1, 22, none⟩ = some (.int .u32 x1.pc) := hSw.2.2.box.cell 22 _ rfl; clear hSw; go_simp; try with_reducible rfl)
      try simp only [Act.put, List.setIfInBounds_toArray, List.set_cons_zero, List.set_cons_succ]
      refine wpAnyH_take (i := 18) (oi := { dst := some 105, op := Op.nilCheck (Operand.tmp 104), type := 0, pos := "law.go:71", after := #[{ on := 17, ground := Ground.data }, { on := 14, ground := Ground.guard }], guard := some (14, false) }) (v := ?_) rfl (by kernel_rfl) (by kernel_rfl) (by kernel_rfl) (fun _ _ _ h => h) (Or.inl ⟨rfl, ?_⟩) hHeld ?_
      rotate_left
      · (intro wz hSw; (try dsimp only at hSw); have p22 : World.cell? wz ⟨E1, 22, none⟩ = some (.int .u32 x1.pc) := hSw.2.2.box.cell 22 _ rfl; clear hSw; go_simp; try with_reducible rfl)
      try simp only [Act.put, List.setIfInBounds_toArray, List.set_cons_zero, List.set_cons_succ]
      refine wpAnyH_take (i := 19) (oi := { dst := some 106, op := Op.fieldAddr 50 (Operand.tmp 105) 1, type := 0, pos := "law.go:71", after := #[{ on := 18, ground := Ground.data }, { on := 14, ground := Ground.guard }], guard := some (14, false) }) (v := ?_) rfl (by kernel_rfl) (by kernel_rfl) (by kernel_rfl) (fun _ _ _ h => h) (Or.inl ⟨rfl, ?_⟩) hHeld ?_
      rotate_left
      · (intro wz hSw; (try dsimp only at hSw); have p22 : World.cell? wz ⟨E1, 22, none⟩ = some (.int .u32 x1.pc) := hSw.2.2.box.cell 22 _ rfl; clear hSw; go_simp; try with_reducible rfl)
      try simp only [Act.put, List.setIfInBounds_toArray, List.set_cons_zero, List.set_cons_succ]
      refine wpAnyH_take (i := 20) (oi := { dst := some 107, op := Op.load 48 (Operand.tmp 106), type := 48, pos := "law.go:71", after := #[{ on := 19, ground := Ground.data }, { on := 14, ground := Ground.guard }], guard := some (14, false) }) (v := ?_) rfl (by kernel_rfl) (by kernel_rfl) (by kernel_rfl) (fun _ _ _ h => h) (Or.inl ⟨rfl, ?_⟩) hHeld ?_
      rotate_left
      · (intro wz hSw; refine Lo.exec_mid 48 (Operand.tmp 106) ?_ E1 1 ?_ (A.cells x1.s) (X.rc_range hSw.2.2.box) Tryz.underlying48 rfl (A.info25 _) <;> rfl)
      try simp only [Act.put, List.setIfInBounds_toArray, List.set_cons_zero, List.set_cons_succ]
      refine wpAnyH_ready (rs := [16]) (by kernel_rfl) (by simp) ?_
      refine AllReadyH.cons (o := { dst := some 103, op := Op.call { callee := Callee.value (Operand.func 11), args := #[Operand.tmp 102], argTypes := #[35] }, type := 48, pos := "law.go:71", after := #[{ on := 15, ground := Ground.data }, { on := 14, ground := Ground.chain }, { on := 14, ground := Ground.guard }], guard := some (14, false) }) rfl (fun K hK => ?_) AllReadyH.nil
      go_simp
      go_at_call 11
      refine (regs_any hHeld.2.1).mono ?_
      rintro e wc ⟨rfl, hKc⟩
      have hN := (show (fun wz => Lo.Duo w4 B1 E1 x1 x1 wz ∧ Mac F1 B1 x1 wz ∧ RMacAt G1 E1 x1 D1 D2 ai1 ni1 ci1 ao1 no1 co1 wz) _ from ⟨hHeld.1.keep hKc.below, hHeld.2.1.kept hKc, Lo.keepR hHeld.2.2 hKc.below⟩)
      clear hHeld
      refine hK.out _ _ hN (fun hHeld => ?_)
      clear hK K hN
      try simp only [Act.put, List.setIfInBounds_toArray, List.set_cons_zero, List.set_cons_succ]
      refine wpAnyH_take (i := 21) (oi := { dst := some 108, op := Op.binOp BinOp.neq 48 (Operand.tmp 103) (Operand.tmp 107) 48, type := 4, pos := "law.go:71", after := #[{ on := 16, ground := Ground.data }, { on := 20, ground := Ground.data }, { on := 14, ground := Ground.guard }], guard := some (14, false) }) (v := ?_) rfl (by kernel_rfl) (by kernel_rfl) (by kernel_rfl) (fun _ _ _ h => h) (Or.inl ⟨rfl, ?_⟩) hHeld ?_
      rotate_left
      · (intro wz hSw; refine Lo.exec_neq (o := { dst := some 108, op := Op.binOp BinOp.neq 48 (Operand.tmp 103) (Operand.tmp 107) 48, type := 4, pos := "law.go:71", after := #[{ on := 16, ground := Ground.data }, { on := 20, ground := Ground.data }, { on := 14, ground := Ground.guard }], guard := some (14, false) }) (Operand.tmp 103) (Operand.tmp 107) ?_ x1.s ?_ ?_ <;> rfl)
      try simp only [Act.put, List.setIfInBounds_toArray, List.set_cons_zero, List.set_cons_succ]
      refine wpAnyH_take (i := 22) (oi := { dst := some 109, op := Op.pick (Operand.tmp 101) (Operand.const (Value.bool true)) (Operand.tmp 108), type := 4, pos := "law.go:71", after := #[{ on := 14, ground := Ground.data }, { on := 21, ground := Ground.data }], guard := none }) (v := ?_) rfl (by kernel_rfl) (by kernel_rfl) (by kernel_rfl) (fun _ _ _ h => h) (Or.inl ⟨rfl, ?_⟩) hHeld ?_
      rotate_left
      · (intro wz hSw; (try dsimp only at hSw); have p22 : World.cell? wz ⟨E1, 22, none⟩ = some (.int .u32 x1.pc) := hSw.2.2.box.cell 22 _ rfl; clear hSw; go_simp; try with_reducible rfl)
      try simp only [Act.put, List.setIfInBounds_toArray, List.set_cons_zero, List.set_cons_succ]
      refine wpAnyH_done (by kernel_rfl) ?_ _
      have hD2 := Lib.hid hHeld.1
      clear hHeld
      go_wp2
      go_roundw
      case rel => exact ⟨q + 1, by omega, by go_num, by rw [hgs.out]; exact hD2.out⟩
      case measure => simp [intOf]; omega
    · have d2 : ¬ (q : Int) < N := by omega
      obtain rfl : q = N := by omega
      have hxo : (X.go q st).outs.length ≤ 1000000000 := by omega
      generalize X.go q st = x at *
      obtain ⟨F1, G1, hM1, ⟨D1, D2, ai', ni', ci', ao, no, co, hR1⟩, _, _, _, hb⟩ := hD
      have hB6 := hB.out.trans (hb.mono hB.out.size)
      have hS0 := Lib.hid (show Mac F1 B1 x wr.drew ∧ RMacAt G1 E1 x D1 D2 ai' ni' ci' ao no co wr.drew ∧ Below w.heap.size w wr.drew from ⟨hM1.kept (Kept.refl _).drew, hR1.kept (Kept.refl _).drew, hB6.drew⟩)
      clear hM1 hR1 hb hB6 hB hou
      go_wp2_with (fail)
      refine wp_region_held_drew (S := fun wz => Mac F1 B1 x wz ∧ RMacAt G1 E1 x D1 D2 ai' ni' ci' ao no co wz ∧ Below w.heap.size w wz) (by kernel_rfl) ?_ (fun hHeld => ?_)
      · exact hS0.out
      refine wpAnyH_take (i := 0) (oi := { dst := some 110, op := Op.move (Operand.tmp 12), type := 35, pos := "law.go:75", after := #[], guard := none }) (v := ?_) rfl (by kernel_rfl) (by kernel_rfl) (by kernel_rfl) (fun _ _ _ h => h) (Or.inl ⟨rfl, ?_⟩) hHeld ?_
      rotate_left
      · (intro wz hSw; (try dsimp only at hSw); have p0 : World.cell? wz ⟨E1, 0, none⟩ = some (.pointer (some ⟨D1, 0, none⟩)) := hSw.2.1.box.cell 0 _ rfl; have p25 : World.cell? wz ⟨E1, 25, none⟩ = some (.slice ao no co) := hSw.2.1.box.cell 25 _ rfl; clear hSw; go_simp; try with_reducible rfl)
      try simp only [Act.put, List.setIfInBounds_toArray, List.set_cons_zero, List.set_cons_succ]
      refine wpAnyH_take (i := 2) (oi := { dst := some 112, op := Op.move (Operand.tmp 14), type := 39, pos := "law.go:75", after := #[], guard := none }) (v := ?_) rfl (by kernel_rfl) (by kernel_rfl) (by kernel_rfl) (fun _ _ _ h => h) (Or.inl ⟨rfl, ?_⟩) hHeld ?_
      rotate_left
      · (intro wz hSw; (try dsimp only at hSw); have p0 : World.cell? wz ⟨E1, 0, none⟩ = some (.pointer (some ⟨D1, 0, none⟩)) := hSw.2.1.box.cell 0 _ rfl; have p25 : World.cell? wz ⟨E1, 25, none⟩ = some (.slice ao no co) := hSw.2.1.box.cell 25 _ rfl; clear hSw; go_simp; try with_reducible rfl)
      try simp only [Act.put, List.setIfInBounds_toArray, List.set_cons_zero, List.set_cons_succ]
      refine wpAnyH_take (i := 3) (oi := { dst := some 113, op := Op.nilCheck (Operand.tmp 112), type := 0, pos := "law.go:75", after := #[{ on := 2, ground := Ground.data }], guard := none }) (v := ?_) rfl (by kernel_rfl) (by kernel_rfl) (by kernel_rfl) (fun _ _ _ h => h) (Or.inl ⟨rfl, ?_⟩) hHeld ?_
      rotate_left
      · (intro wz hSw; (try dsimp only at hSw); have p0 : World.cell? wz ⟨E1, 0, none⟩ = some (.pointer (some ⟨D1, 0, none⟩)) := hSw.2.1.box.cell 0 _ rfl; have p25 : World.cell? wz ⟨E1, 25, none⟩ = some (.slice ao no co) := hSw.2.1.box.cell 25 _ rfl; clear hSw; go_simp; try with_reducible rfl)
      try simp only [Act.put, List.setIfInBounds_toArray, List.set_cons_zero, List.set_cons_succ]
      refine wpAnyH_take (i := 4) (oi := { dst := some 114, op := Op.fieldAddr 50 (Operand.tmp 113) 0, type := 0, pos := "law.go:75", after := #[{ on := 3, ground := Ground.data }], guard := none }) (v := ?_) rfl (by kernel_rfl) (by kernel_rfl) (by kernel_rfl) (fun _ _ _ h => h) (Or.inl ⟨rfl, ?_⟩) hHeld ?_
      rotate_left
      · (intro wz hSw; (try dsimp only at hSw); have p0 : World.cell? wz ⟨E1, 0, none⟩ = some (.pointer (some ⟨D1, 0, none⟩)) := hSw.2.1.box.cell 0 _ rfl; have p25 : World.cell? wz ⟨E1, 25, none⟩ = some (.slice ao no co) := hSw.2.1.box.cell 25 _ rfl; clear hSw; go_simp; try with_reducible rfl)
      try simp only [Act.put, List.setIfInBounds_toArray, List.set_cons_zero, List.set_cons_succ]
      refine wpAnyH_take (i := 5) (oi := { dst := some 115, op := Op.load 45 (Operand.tmp 114), type := 45, pos := "law.go:75", after := #[{ on := 4, ground := Ground.data }], guard := none }) (v := ?_) rfl (by kernel_rfl) (by kernel_rfl) (by kernel_rfl) (fun _ _ _ h => h) (Or.inl ⟨rfl, ?_⟩) hHeld ?_
      rotate_left
      · (intro wz hSw; (try dsimp only at hSw); have p0 : World.cell? wz ⟨E1, 0, none⟩ = some (.pointer (some ⟨D1, 0, none⟩)) := hSw.2.1.box.cell 0 _ rfl; have p25 : World.cell? wz ⟨E1, 25, none⟩ = some (.slice ao no co) := hSw.2.1.box.cell 25 _ rfl; clear hSw; go_simp; try with_reducible rfl)
      try simp only [Act.put, List.setIfInBounds_toArray, List.set_cons_zero, List.set_cons_succ]
      refine wpAnyH_ready (rs := [1]) (by kernel_rfl) (by simp) ?_
      refine AllReadyH.cons (o := { dst := some 111, op := Op.call { callee := Callee.value (Operand.func 13), args := #[Operand.tmp 110], argTypes := #[35] }, type := 22, pos := "law.go:75", after := #[{ on := 0, ground := Ground.data }], guard := none }) rfl (fun K hK => ?_) AllReadyH.nil
      go_simp
      go_at_call 13
      refine (Lo.words_mac hHeld.1).mono ?_
      rintro e wd ⟨gx, rfl, px1, px3⟩
      have hN := (show (fun wz => Mac F1 B1 x wz ∧ RMacAt G1 E1 x D1 D2 ai' ni' ci' ao no co wz ∧ Below w.heap.size w wz) _ from ⟨hHeld.1.turn (Lo.t0 px3.below) (fun _ _ h => h), Lo.keepR hHeld.2.1 px3.below, hHeld.2.2.trans (px3.below.mono hHeld.2.2.size)⟩)
      clear hHeld
      refine hK.out _ _ hN (fun hHeld => ?_)
      clear hK K hN
      try simp only [Act.put, List.setIfInBounds_toArray, List.set_cons_zero, List.set_cons_succ]
      refine wpAnyH_ready (rs := [6]) (by kernel_rfl) (by simp) ?_
      refine AllReadyH.cons (o := { dst := some 116, op := Op.call { callee := Callee.value (Operand.func 14), args := #[Operand.tmp 115], argTypes := #[45] }, type := 22, pos := "law.go:75", after := #[{ on := 5, ground := Ground.data }, { on := 1, ground := Ground.chain }], guard := none }) rfl (fun K hK => ?_) AllReadyH.nil
      go_simp
      go_at_call 14
      refine (R.words_any hHeld.2.1.mem).mono ?_
      rintro e we ⟨gy, cy, rfl, py1, py2⟩
      have px4 := px1.below py2
      have hN := (show (fun wz => Mac F1 B1 x wz ∧ RMacAt G1 E1 x D1 D2 ai' ni' ci' ao no co wz ∧ Below w.heap.size w wz) _ from ⟨hHeld.1.turn (Lo.t0 py2) (fun _ _ h => h), Lo.keepR hHeld.2.1 py2, hHeld.2.2.trans (py2.mono hHeld.2.2.size)⟩)
      clear hHeld
      refine hK.out _ _ hN (fun hHeld => ?_)
      clear hK K hN
      try simp only [Act.put, List.setIfInBounds_toArray, List.set_cons_zero, List.set_cons_succ]
      refine wpAnyH_ready (rs := [7]) (by kernel_rfl) (by simp) ?_
      refine AllReadyH.cons (o := { dst := some 117, op := Op.call { callee := Callee.value (Operand.func 12), args := #[Operand.tmp 111, Operand.tmp 116], argTypes := #[22, 22] }, type := 4, pos := "law.go:75", after := #[{ on := 1, ground := Ground.data }, { on := 6, ground := Ground.data }, { on := 6, ground := Ground.chain }], guard := none }) rfl (fun K hK => ?_) AllReadyH.nil
      have CS := Ch.same5_any px4.rg py1.rw.rg
      rw [decide_eq_true (rfl : x.ws = x.ws)] at CS
      go_simp
      go_at_call 12
      refine (CS).mono ?_
      rintro e wf ⟨rfl, hKf⟩
      clear CS px1 px4 py1
      have hN := (show (fun wz => Mac F1 B1 x wz ∧ RMacAt G1 E1 x D1 D2 ai' ni' ci' ao no co wz ∧ Below w.heap.size w wz) _ from ⟨hHeld.1.turn (Lo.t0 hKf) (fun _ _ h => h), Lo.keepR hHeld.2.1 hKf, hHeld.2.2.trans (hKf.mono hHeld.2.2.size)⟩)
      clear hHeld
      refine hK.out _ _ hN (fun hHeld => ?_)
      clear hK K hN
      try simp only [Act.put, List.setIfInBounds_toArray, List.set_cons_zero, List.set_cons_succ]
      refine wpAnyH_take (i := 8) (oi := { dst := some 118, op := Op.move (Operand.tmp 117), type := 4, pos := "law.go:75", after := #[{ on := 7, ground := Ground.data }, { on := 7, ground := Ground.chain }], guard := none }) (v := ?_) rfl (by kernel_rfl) (by kernel_rfl) (by kernel_rfl) (fun _ _ _ h => h) (Or.inl ⟨rfl, ?_⟩) hHeld ?_
      rotate_left
      · (intro wz hSw; (try dsimp only at hSw); have p0 : World.cell? wz ⟨E1, 0, none⟩ = some (.pointer (some ⟨D1, 0, none⟩)) := hSw.2.1.box.cell 0 _ rfl; have p25 : World.cell? wz ⟨E1, 25, none⟩ = some (.slice ao no co) := hSw.2.1.box.cell 25 _ rfl; clear hSw; go_simp; try with_reducible rfl)
      try simp only [Act.put, List.setIfInBounds_toArray, List.set_cons_zero, List.set_cons_succ]
      refine wpAnyH_take (i := 9) (oi := { dst := some 119, op := Op.move (Operand.tmp 12), type := 35, pos := "law.go:75", after := #[{ on := 8, ground := Ground.guard }], guard := some (8, true) }) (v := ?_) rfl (by kernel_rfl) (by kernel_rfl) (by kernel_rfl) (fun _ _ _ h => h) (Or.inl ⟨rfl, ?_⟩) hHeld ?_
      rotate_left
      · (intro wz hSw; (try dsimp only at hSw); have p0 : World.cell? wz ⟨E1, 0, none⟩ = some (.pointer (some ⟨D1, 0, none⟩)) := hSw.2.1.box.cell 0 _ rfl; have p25 : World.cell? wz ⟨E1, 25, none⟩ = some (.slice ao no co) := hSw.2.1.box.cell 25 _ rfl; clear hSw; go_simp; try with_reducible rfl)
      try simp only [Act.put, List.setIfInBounds_toArray, List.set_cons_zero, List.set_cons_succ]
      refine wpAnyH_take (i := 11) (oi := { dst := some 121, op := Op.move (Operand.tmp 14), type := 39, pos := "law.go:75", after := #[{ on := 8, ground := Ground.guard }], guard := some (8, true) }) (v := ?_) rfl (by kernel_rfl) (by kernel_rfl) (by kernel_rfl) (fun _ _ _ h => h) (Or.inl ⟨rfl, ?_⟩) hHeld ?_
      rotate_left
      · (intro wz hSw; (try dsimp only at hSw); have p0 : World.cell? wz ⟨E1, 0, none⟩ = some (.pointer (some ⟨D1, 0, none⟩)) := hSw.2.1.box.cell 0 _ rfl; have p25 : World.cell? wz ⟨E1, 25, none⟩ = some (.slice ao no co) := hSw.2.1.box.cell 25 _ rfl; clear hSw; go_simp; try with_reducible rfl)
      try simp only [Act.put, List.setIfInBounds_toArray, List.set_cons_zero, List.set_cons_succ]
      refine wpAnyH_take (i := 12) (oi := { dst := some 122, op := Op.nilCheck (Operand.tmp 121), type := 0, pos := "law.go:75", after := #[{ on := 11, ground := Ground.data }, { on := 8, ground := Ground.guard }], guard := some (8, true) }) (v := ?_) rfl (by kernel_rfl) (by kernel_rfl) (by kernel_rfl) (fun _ _ _ h => h) (Or.inl ⟨rfl, ?_⟩) hHeld ?_
      rotate_left
      · (intro wz hSw; (try dsimp only at hSw); have p0 : World.cell? wz ⟨E1, 0, none⟩ = some (.pointer (some ⟨D1, 0, none⟩)) := hSw.2.1.box.cell 0 _ rfl; have p25 : World.cell? wz ⟨E1, 25, none⟩ = some (.slice ao no co) := hSw.2.1.box.cell 25 _ rfl; clear hSw; go_simp; try with_reducible rfl)
      try simp only [Act.put, List.setIfInBounds_toArray, List.set_cons_zero, List.set_cons_succ]
      refine wpAnyH_take (i := 13) (oi := { dst := some 123, op := Op.fieldAddr 50 (Operand.tmp 122) 5, type := 0, pos := "law.go:75", after := #[{ on := 12, ground := Ground.data }, { on := 8, ground := Ground.guard }], guard := some (8, true) }) (v := ?_) rfl (by kernel_rfl) (by kernel_rfl) (by kernel_rfl) (fun _ _ _ h => h) (Or.inl ⟨rfl, ?_⟩) hHeld ?_
      rotate_left
      · (intro wz hSw; (try dsimp only at hSw); have p0 : World.cell? wz ⟨E1, 0, none⟩ = some (.pointer (some ⟨D1, 0, none⟩)) := hSw.2.1.box.cell 0 _ rfl; have p25 : World.cell? wz ⟨E1, 25, none⟩ = some (.slice ao no co) := hSw.2.1.box.cell 25 _ rfl; clear hSw; go_simp; try with_reducible rfl)
      try simp only [Act.put, List.setIfInBounds_toArray, List.set_cons_zero, List.set_cons_succ]
      refine wpAnyH_take (i := 14) (oi := { dst := some 124, op := Op.load 22 (Operand.tmp 123), type := 22, pos := "law.go:75", after := #[{ on := 13, ground := Ground.data }, { on := 8, ground := Ground.guard }], guard := some (8, true) }) (v := ?_) rfl (by kernel_rfl) (by kernel_rfl) (by kernel_rfl) (fun _ _ _ h => h) (Or.inl ⟨rfl, ?_⟩) hHeld ?_
      rotate_left
      · (intro wz hSw; (try dsimp only at hSw); have p0 : World.cell? wz ⟨E1, 0, none⟩ = some (.pointer (some ⟨D1, 0, none⟩)) := hSw.2.1.box.cell 0 _ rfl; have p25 : World.cell? wz ⟨E1, 25, none⟩ = some (.slice ao no co) := hSw.2.1.box.cell 25 _ rfl; clear hSw; go_simp; try with_reducible rfl)
      try simp only [Act.put, List.setIfInBounds_toArray, List.set_cons_zero, List.set_cons_succ]
      refine wpAnyH_ready (rs := [10]) (by kernel_rfl) (by simp) ?_
      refine AllReadyH.cons (o := { dst := some 120, op := Op.call { callee := Callee.value (Operand.func 15), args := #[Operand.tmp 119], argTypes := #[35] }, type := 22, pos := "law.go:75", after := #[{ on := 9, ground := Ground.data }, { on := 8, ground := Ground.chain }, { on := 8, ground := Ground.guard }], guard := some (8, true) }) rfl (fun K hK => ?_) AllReadyH.nil
      go_simp
      go_at_call 15
      refine (outs_any hHeld.1 hxo).mono ?_
      rintro e wg ⟨az, cz, rfl, pz1, pz2, pz3⟩
      have hN := (show (fun wz => Mac F1 B1 x wz ∧ RMacAt G1 E1 x D1 D2 ai' ni' ci' ao no co wz ∧ Below w.heap.size w wz) _ from ⟨hHeld.1.turn (Lo.t0 pz2.kept0) (fun _ _ h => h), Lo.keepR hHeld.2.1 pz2.kept0, hHeld.2.2.trans (pz2.kept0.mono hHeld.2.2.size)⟩)
      clear hHeld
      refine hK.out _ _ hN (fun hHeld => ?_)
      clear hK K hN
      try simp only [Act.put, List.setIfInBounds_toArray, List.set_cons_zero, List.set_cons_succ]
      refine wpAnyH_ready (rs := [15]) (by kernel_rfl) (by simp) ?_
      refine AllReadyH.cons (o := { dst := some 125, op := Op.call { callee := Callee.value (Operand.func 12), args := #[Operand.tmp 120, Operand.tmp 124], argTypes := #[22, 22] }, type := 4, pos := "law.go:75", after := #[{ on := 10, ground := Ground.data }, { on := 14, ground := Ground.data }, { on := 10, ground := Ground.chain }, { on := 8, ground := Ground.guard }], guard := some (8, true) }) rfl (fun K hK => ?_) AllReadyH.nil
      have CS := Ch.same5_any pz1.rw.rg (hHeld.2.1.out.ws hHeld.2.1.rng).rw.rg
      rw [decide_eq_true (rfl : x.outs = x.outs)] at CS
      go_simp
      go_at_call 12
      refine (CS).mono ?_
      rintro e wh ⟨rfl, hKh⟩
      clear CS
      have hN := (show (fun wz => Mac F1 B1 x wz ∧ RMacAt G1 E1 x D1 D2 ai' ni' ci' ao no co wz ∧ Below w.heap.size w wz) _ from ⟨hHeld.1.turn (Lo.t0 hKh) (fun _ _ h => h), Lo.keepR hHeld.2.1 hKh, hHeld.2.2.trans (hKh.mono hHeld.2.2.size)⟩)
      clear hHeld
      refine hK.out _ _ hN (fun hHeld => ?_)
      clear hK K hN
      try simp only [Act.put, List.setIfInBounds_toArray, List.set_cons_zero, List.set_cons_succ]
      refine wpAnyH_take (i := 16) (oi := { dst := some 126, op := Op.pick (Operand.tmp 118) (Operand.tmp 125) (Operand.const (Value.bool false)), type := 4, pos := "law.go:75", after := #[{ on := 8, ground := Ground.data }, { on := 15, ground := Ground.data }], guard := none }) (v := ?_) rfl (by kernel_rfl) (by kernel_rfl) (by kernel_rfl) (fun _ _ _ h => h) (Or.inl ⟨rfl, ?_⟩) hHeld ?_
      rotate_left
      · (intro wz hSw; (try dsimp only at hSw); have p0 : World.cell? wz ⟨E1, 0, none⟩ = some (.pointer (some ⟨D1, 0, none⟩)) := hSw.2.1.box.cell 0 _ rfl; have p25 : World.cell? wz ⟨E1, 25, none⟩ = some (.slice ao no co) := hSw.2.1.box.cell 25 _ rfl; clear hSw; go_simp; try with_reducible rfl)
      try simp only [Act.put, List.setIfInBounds_toArray, List.set_cons_zero, List.set_cons_succ]
      refine wpAnyH_take (i := 17) (oi := { dst := some 6, op := Op.assign (Operand.tmp 126), type := 4, pos := "law.go:75", after := #[{ on := 16, ground := Ground.data }, { on := 15, ground := Ground.chain }, { on := 0, ground := Ground.phase }, { on := 1, ground := Ground.phase }, { on := 2, ground := Ground.phase }, { on := 3, ground := Ground.phase }, { on := 4, ground := Ground.phase }, { on := 5, ground := Ground.phase }, { on := 6, ground := Ground.phase }, { on := 7, ground := Ground.phase }, { on := 8, ground := Ground.phase }, { on := 9, ground := Ground.phase }, { on := 10, ground := Ground.phase }, { on := 11, ground := Ground.phase }, { on := 12, ground := Ground.phase }, { on := 13, ground := Ground.phase }, { on := 14, ground := Ground.phase }, { on := 15, ground := Ground.phase }, { on := 16, ground := Ground.phase }], guard := none }) (v := ?_) rfl (by kernel_rfl) (by kernel_rfl) (by kernel_rfl) (fun _ _ _ h => h) (Or.inl ⟨rfl, ?_⟩) hHeld ?_
      rotate_left
      · (intro wz hSw; (try dsimp only at hSw); have p0 : World.cell? wz ⟨E1, 0, none⟩ = some (.pointer (some ⟨D1, 0, none⟩)) := hSw.2.1.box.cell 0 _ rfl; have p25 : World.cell? wz ⟨E1, 25, none⟩ = some (.slice ao no co) := hSw.2.1.box.cell 25 _ rfl; clear hSw; go_simp; try with_reducible rfl)
      try simp only [Act.put, List.setIfInBounds_toArray, List.set_cons_zero, List.set_cons_succ]
      refine wpAnyH_done (by kernel_rfl) ?_ _
      have hE := Lib.hid hHeld.2.2
      clear hHeld
      go_wp2
      go_ret
      exact ⟨rfl, hE.out⟩
end Go.Proofs.YtpfgmfiegnkocaaGreat
