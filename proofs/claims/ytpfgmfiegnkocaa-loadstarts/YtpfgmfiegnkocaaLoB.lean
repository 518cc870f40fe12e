/-
  The walk of LoadStarts.
-/
import Derived.Test.YtpfgmfiegnkocaaM17
namespace Go.Proofs.Ytpfgmfiegnkocaa
open Go.RowKit
set_option linter.unusedVariables false
set_option linter.unusedSimpArgs false
set_option maxRecDepth 100000
set_option maxHeartbeats 8000000 in
set_option maxRecDepth 100000 in
theorem walk_starts (w : World) (P B C : Option Addr) (n c m d k e : Nat) (ws bs : List Int) (ns : List ByteArray) (hW : Wo w P n c ws) (hS : By w B m d bs) (hN : St w C k e ns) (bb mm0 : Int) (ai : Option Addr) (ni ci : Nat) (is : List Int) (hI : Ws w ai ni ci is) :
    Calls Try.prog 5 #[.agg #[.slice P n c, .slice B m d, .slice C k e], .agg #[.int .i64 bb, .int .i64 mm0, .slice ai ni ci]] w fun e w' => e = .returned (.bool true) ∧ Below w.heap.size w w' := by
  have hB := (((Kept.refl w).alloc #[.slice P n c, .slice B m d, .slice C k e] 55).alloc #[.int .i64 bb, .int .i64 mm0, .slice ai ni ci] 60).below
  have hO := Lib.hid ((Has.new #[.slice P n c, .slice B m d, .slice C k e] 55 w).alloc (.cells #[.int .i64 bb, .int .i64 mm0, .slice ai ni ci] 60))
  have hZ := Lib.hid (Has.new1 #[.int .i64 bb, .int .i64 mm0, .slice ai ni ci] 60 w (.cells #[.slice P n c, .slice B m d, .slice C k e] 55))
  have CF := fun w' (hb : Below w.heap.size w w') => Ob.fit_any (hW.below hb) (hS.below hb) (hN.below hb)
  have hF := Ob.fine_fit bs ns hW.rng
  have hWl := Ob.fW_len ws bs
  rw [hW.len] at hF hWl
  generalize Ob.fW ws bs = W at *
  generalize Ob.fS (min n 40) bs = S at *
  generalize Ob.fY (min n 40) ns = Y at *
  generalize min n 40 = n1 at *
  subst hWl
  replace CF := Lib.hid CF
  have hW40 := hF.hn
  have hY8 := hF.hy
  have hS64 : S.length ≤ 65535 := by
    rcases Nat.eq_zero_or_pos S.length with q | q
    · omega
    · have h1 := hF.hR
      have h2 : ∀ j, j < S.length → (j : Int) ≤ S.getD j 0 := fun j => by
        induction j with
        | zero => intro hj; have := Ch.at_ge h1 0 hj; omega
        | succ j ih => intro hj; have := ih (by omega); have := Ch.mono h1 j (j + 1) (by omega) hj; omega
      have h3 := h2 (S.length - 1) (by omega)
      have h4 := Ch.at_ge h1 (S.length - 1) (by omega)
      omega
  replace hF := Lib.hid hF
  clear hW hS hN hI
  go_enter Try.func5, Try.ntmps5
  go_wp2_with (fail)
  generalize (w.alloc (.cells #[.slice P n c, .slice B m d, .slice C k e] 55)).alloc (.cells #[.int .i64 bb, .int .i64 mm0, .slice ai ni ci] 60) = w1 at *
  refine (Lo.shown_any w1).mono ?_; rintro r w2 ⟨rfl, hE⟩
  replace hB := Lib.hid (hB.trans (hE.mono hB.size))
  replace hO := Lib.hid (hO.out.below hE)
  replace hZ := Lib.hid (hZ.out.below hE)
  clear hE
  have o0 := hO.out.cell 0 (.slice P n c) rfl
  have o1 := hO.out.cell 1 (.slice B m d) rfl
  have o2 := hO.out.cell 2 (.slice C k e) rfl
  go_wp2_with (fail)
  clear o0 o1 o2
  refine (CF.out w2 hB.out).mono ?_; rintro r w3 ⟨gW, cW, gS, cS, C1, e1, rfl, hP, hQ, hY, hE⟩
  have hA3 := ((Kept.refl w3).alloc #[.slice (some ⟨gW, 0, none⟩) W.length cW, .slice (some ⟨gS, 0, none⟩) S.length cS, .slice C1 Y.length e1] 26).below
  have hX := Lib.hid (show Ob.Own w2.heap.size w3.heap.size (some ⟨gW, 0, none⟩) W.length cW (some ⟨gS, 0, none⟩) S.length cS C1 Y.length e1 W S Y (w3.alloc (.cells #[.slice (some ⟨gW, 0, none⟩) W.length cW, .slice (some ⟨gS, 0, none⟩) S.length cS, .slice C1 Y.length e1] 26)) from ⟨Has.new _ _ _, (hP.on.below hA3), (hQ.on.below hA3), hY.below hA3, hE.size⟩)
  replace hB := Lib.hid ((hB.out.trans (hE.mono hB.out.size)).trans (hA3.mono (Nat.le_trans hB.out.size hE.size)))
  replace hO := (hO.out.below hE).below hA3
  replace hZ := (hZ.out.below hE).below hA3
  clear hP hQ hY hE hA3
  clear hO CF
  go_upto_region 3 with (fail)
  generalize w3.alloc (.cells #[.slice (some ⟨gW, 0, none⟩) W.length cW, .slice (some ⟨gS, 0, none⟩) S.length cS, .slice C1 Y.length e1] 26) = w4 at *
  generalize w3.heap.size = O at *
  obtain ⟨K, hKe, hKl⟩ := Lo.and31 bb
  obtain ⟨J, hJe, hJl⟩ := Lo.and15 mm0
  obtain ⟨I, hI4⟩ : ∃ I : Int, 4 * (K : Int) = I := ⟨_, rfl⟩
  have hIq : I / 4 = (K : Int) := by omega
  obtain ⟨mm, hmm⟩ : ∃ m : Nat, (K : Int) + (W.length : Int) + (J : Int) = (m : Int) := ⟨K + W.length + J, by omega⟩
  have hI0 : 0 ≤ I ∧ I ≤ 124 := by omega
  have hm0 : mm ≤ 100 := by omega
  have hKm : K + W.length ≤ mm := by omega
  have hb1 : Lo.base I := ⟨by omega, by omega, by omega⟩
  have hok := hF.out.ok
  have i0 := Lo.ok_E hok hb1
  have i1 := Lo.ok_W hok hb1
  have i2 : Lo.mE W S Y I (mm : Int) = 0 := by unfold Lo.mE; rw [if_pos i0, if_neg (by omega), if_pos (by omega)]
  have e3 : Lo.regs I (mm : Int) = Lo.rg I (4 * (mm : Int)) := by unfold Lo.regs; rw [Int.emod_eq_of_lt hI0.1 (by omega), Int.emod_eq_of_lt (by omega) (by omega)]
  have e2 : Lo.st W S I (mm : Int) [] = ⟨M.placed (List.replicate mm 0) K (Lo.img S I 0 W), Lo.rg I (4 * (mm : Int)), I, 0, [], []⟩ := by
    unfold Lo.st
    rw [hIq, e3, Int.toNat_natCast, Int.toNat_natCast]
  have hl1 : (Lo.img S I 0 W).length = W.length := Lo.img_len _ _ _ _
  have hir := Lo.img_base (S := S) (b := I) hF.out.hr
  have hlr : (List.replicate mm (0 : Int)).length = mm := List.length_replicate
  have CM := fun (v : World) (h1 : Ob.Own w2.heap.size O (some ⟨gW, 0, none⟩) W.length cW (some ⟨gS, 0, none⟩) S.length cS C1 Y.length e1 W S Y v) => Lo.machine_any (h1.wo hF.out.hr) h1.in h1.sy hF.out.siz I (mm : Int) (Ws.empty v) (by omega)
  have CI := fun (v : World) (h1 : Ob.Own w2.heap.size O (some ⟨gW, 0, none⟩) W.length cW (some ⟨gS, 0, none⟩) S.length cS C1 Y.length e1 W S Y v) => Lo.image_any (h1.wo hF.out.hr) h1.in h1.sy hF.out.siz I
  rw [i2] at CM
  rw [i0, i1] at CI
  have hs0 := Lo.st_ok (W := W) (S := S) (b := I) (m := (mm : Int))
  generalize Lo.st W S I (mm : Int) [] = st at *
  generalize Lo.img S I 0 W = V at *
  obtain ⟨hs0, hs1⟩ := hs0
  have hs2 : st.outs.length = 0 := by rw [hs1]; rfl
  replace CM := Lib.hid CM
  replace CI := Lib.hid CI
  replace hir := Lib.hid hir
  replace e2 := Lib.hid e2
  replace hs1 := Lib.hid hs1
  clear e3 i0 i1 i2 hb1 hok
  obtain ⟨hI0, hI1⟩ := hI0
  have z0 := hZ.cell 0 (.int .i64 bb) rfl
  have z1 := hZ.cell 1 (.int .i64 mm0) rfl
  have o0 := hX.out.hG.cell 0 (.slice (some ⟨gW, 0, none⟩) W.length cW) rfl
  clear hZ
  go_wp2_with (first
    | (with_reducible refine load_has (o := ⟨some 39, _, _, _, _, _⟩) rfl 26 (.tmp 6) rfl O rfl hX.out.hG Try.underlying26 rfl (Ob.info26 _ _ _) ?_)
    | fail)
  refine (CM.out _ hX.out).mono ?_; rintro r w5 hM
  obtain ⟨B1, rfl, hL⟩ := hM.1 rfl
  clear hM z0 z1 o0 CM
  have hE := hL.below
  replace hB := Lib.hid (hB.out.trans (hE.mono hB.out.size))
  replace hX := Lib.hid (hX.out.below hE)
  replace hL := Lib.hid hL
  clear hE hKe hJe hI4 hmm
  go_wp2_with (first
    | (with_reducible refine load_has (o := ⟨some 46, _, _, _, _, _⟩) rfl 26 (.tmp 6) rfl O rfl hX.out.hG Try.underlying26 rfl (Ob.info26 _ _ _) ?_)
    | fail)
  refine (CI.out _ hX.out).mono ?_; rintro r w6 ⟨A6, n6, c6, rfl, hP, hE⟩
  have hP1 := hP.rg.rw (L := 4294967296) hir.out
  have hn6 := hP1.len
  rw [hl1] at hn6
  subst hn6
  replace hB := Lib.hid (hB.out.trans (hE.mono hB.out.size))
  replace hL := Lib.hid (hL.out.keep hE)
  replace hP := Lib.hid hP1.ws
  clear hE hX CI hP1
  go_wp2_with (fail)
  refine (new_live mm (by omega) (Ws.empty w6) (by omega)).mono ?_; rintro r w7 ⟨B2, rfl, hL2⟩
  replace hP := Lib.hid (hP.out.below (w0 := w6) (Nat.le_refl _) hL2.below)
  replace hL2 := Lib.hid hL2
  go_wp2_with (fail)
  refine (place_live hL2.out K A6 W.length c6 V hP.out (by rw [hlr]; omega)).mono ?_; rintro r w8 ⟨rfl, hL3⟩
  replace hL2 := Lib.hid hL3
  clear hL3 hP
  go_upto_region 11 with (first
    | (with_reducible refine want_do (o := ⟨some 86, _, _, _, _, _⟩) rfl (Lo.exec_regs0 rfl) ?_)
    | (with_reducible refine store_last (o := ⟨none, Op.store 42 (.tmp 15) _, _, _, _, _⟩) rfl 42 _ _ rfl _ _ rfl rfl rfl (A.info25 _) (by kernel_rfl) (A.one_cells _) ?_)
    | fail)
  have hA := (Kept.refl w8).alloc (A.cells A.none') 42
  have hR := Has.new (A.cells A.none') 42 w8
  have hE8 := Lib.hid hA.below
  have hG8 : w8.heap.size ≤ w8.heap.size := Nat.le_refl _
  generalize w8.alloc (.cells (A.cells A.none') 42) = w9 at *
  generalize hGe : w8.heap.size = G at hR ⊢
  clear hA hG8
  have q1 := hR.cell 13 (.int .u32 0) rfl
  have f1 := hR.free 13
  have hR2 := hR.set 13 (.int .u32 I)
  rw [Lo.set_13] at hR2
  have hE9 := Lib.hid (hE8.out.setCell (p := ⟨G, 13, none⟩) (by show w8.heap.size ≤ G; omega) (.int .u32 I))
  replace hR2 := Lib.hid hR2
  clear hR hE8
  go_upto_region 12 with (fail)
  generalize w9.setCell ⟨G, 13, none⟩ (.int .u32 I) = w10 at *
  clear q1 f1
  have q1 := hR2.out.cell 14 (.int .u32 0) rfl
  have f1 := hR2.out.free 14
  have hR3 := hR2.out.set 14 (.int .u32 (4 * (mm : Int)))
  rw [Lo.set_14] at hR3
  have hE10 := Lib.hid (hE9.out.setCell (p := ⟨G, 14, none⟩) (by show w8.heap.size ≤ G; omega) (.int .u32 (4 * (mm : Int))))
  replace hR3 := Lib.hid hR3
  clear hR2 hE9
  go_upto_region 13 with (fail)
  generalize w10.setCell ⟨G, 14, none⟩ (.int .u32 (4 * (mm : Int))) = w11 at *
  clear q1 f1
  replace hL2 := Lib.hid (hL2.out.keep hE10.out)
  clear hE10 hGe
  go_wp2_with (first
    | (with_reducible refine load_has (o := ⟨some 99, _, _, _, _, _⟩) rfl 42 (.tmp 15) rfl G rfl hR3.out Try.underlying42 rfl (A.info25 _) ?_)
    | fail)
  refine (start_live hL2.out I (Lo.rg I (4 * (mm : Int))) (Lo.ok_rg hI0 (by omega) (by omega) (by omega)) hI0 (by omega)).mono ?_; rintro r w12 ⟨rfl, hL3⟩
  clear hL2 hR3
  have hL2 : Live w6 B2 st w12 := by rw [e2.out]; exact hL3
  have hE := hL2.below
  replace hB := Lib.hid (hB.out.trans (hE.mono hB.out.size))
  replace hL := Lib.hid (hL.out.keep hE)
  replace hL2 := Lib.hid hL2
  clear hE hL3 e2
  go_wp2_with (fail)
  refine (Lo.words_live hL.out).mono ?_; rintro r w13 ⟨g1, rfl, hV1, hK1⟩
  replace hB := Lib.hid (hB.out.trans (hK1.below.mono hB.out.size))
  replace hL := Lib.hid (hL.out.kept hK1)
  replace hL2 := Lib.hid (hL2.out.kept hK1)
  replace hV1 := Lib.hid hV1
  clear hK1
  go_wp2_with (fail)
  refine (Lo.words_live hL2.out).mono ?_; rintro r w14 ⟨g2, rfl, hV2, hK1⟩
  replace hB := Lib.hid (hB.out.trans (hK1.below.mono hB.out.size))
  replace hL := Lib.hid (hL.out.kept hK1)
  replace hL2 := Lib.hid (hL2.out.kept hK1)
  replace hV1 := Lib.hid (hV1.out.below hK1.below)
  replace hV2 := Lib.hid hV2
  clear hK1
  go_wp2_with (fail)
  refine (Ch.same5_any hV1.out.rg hV2.out.rg).mono ?_; rintro r w15 ⟨rfl, hE⟩
  rw [decide_eq_true rfl]
  replace hB := Lib.hid (hB.out.trans (hE.mono hB.out.size))
  replace hL := Lib.hid (hL.out.keep hE)
  replace hL2 := Lib.hid (hL2.out.keep hE)
  clear hE hV1 hV2
  go_wp2_with (fail)
  refine (pc_live hL.out).mono ?_; rintro r w16 ⟨rfl, rfl⟩
  go_wp2_with (fail)
  refine (pc_live hL2.out).mono ?_; rintro r w16 ⟨rfl, rfl⟩
  go_wp2_with (fail)
  refine (regs_live hL.out).mono ?_; rintro r w16 ⟨rfl, hK1⟩
  replace hB := Lib.hid (hB.out.trans (hK1.below.mono hB.out.size))
  replace hL := Lib.hid (hL.out.kept hK1)
  replace hL2 := Lib.hid (hL2.out.kept hK1)
  clear hK1
  go_wp2_with (fail)
  refine (regs_live hL2.out).mono ?_; rintro r w17 ⟨rfl, hK1⟩
  replace hB := Lib.hid (hB.out.trans (hK1.below.mono hB.out.size))
  replace hL := Lib.hid (hL.out.kept hK1)
  clear hK1 hL2
  go_wp2_with (first
    | (refine want_exec (o := ⟨some 118, _, _, _, _, _⟩) rfl (exec_eq_regs (.tmp 115) (.tmp 117) rfl st.s rfl rfl) ?_)
    | fail)
  refine (Lo.status_live hL.out).mono ?_; rintro r w18 ⟨rfl, rfl⟩
  rw [hs0]
  go_wp2_with (fail)
  refine (outs_live hL.out (by omega)).mono ?_; rintro r w19 ⟨A9, c9, rfl, _, hT, _⟩
  have hE := hT.kept0
  replace hB := Lib.hid (hB.out.trans (hE.mono hB.out.size))
  clear hE hT hL
  rw [hs2]
  go_wp2
  go_ret
  exact ⟨rfl, hB.out⟩
end Go.Proofs.Ytpfgmfiegnkocaa
