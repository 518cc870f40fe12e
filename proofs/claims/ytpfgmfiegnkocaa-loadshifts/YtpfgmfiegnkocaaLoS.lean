/-
  The walk of LoadShifts.
-/
import Derived.Test.YtpfgmfiegnkocaaM17
namespace Go.Proofs.Ytpfgmfiegnkocaa
open Go.RowKit
set_option linter.unusedVariables false
set_option linter.unusedSimpArgs false
set_option maxRecDepth 100000
set_option maxHeartbeats 8000000 in
set_option maxRecDepth 100000 in
theorem walk_shifts (w : World) (A B C : Option Addr) (n c m d k e : Nat) (ws bs : List Int) (ns : List ByteArray) (hW : Wo w A n c ws) (hS : By w B m d bs) (hN : St w C k e ns) (a1 : Int) (l1 : 0 ≤ a1) (u1 : a1 < 65536) (a2 : Int) (l2 : 0 ≤ a2) (u2 : a2 < 65536) :
    Calls Try.prog 4 #[.agg #[.slice A n c, .slice B m d, .slice C k e], .int .u16 a1, .int .u16 a2] w fun e w' => e = .returned (.bool true) ∧ Below w.heap.size w w' := by
  have hB := ((Kept.refl w).alloc #[.slice A n c, .slice B m d, .slice C k e] 55).below
  have hO := Lib.hid (Has.new #[.slice A n c, .slice B m d, .slice C k e] 55 w)
  have CF := fun w' (hb : Below w.heap.size w w') => Ob.fit_any (hW.below hb) (hS.below hb) (hN.below hb)
  have hF := Ob.fine_fit bs ns hW.rng
  have hWl := Ob.fW_len ws bs
  rw [hW.len] at hF hWl
  generalize Ob.fW ws bs = W at *
  generalize Ob.fS (min n 40) bs = S at *
  generalize Ob.fY (min n 40) ns = Y at *
  generalize min n 40 = n1 at *
  subst hWl
  replace CF := Lib.hid CF
  have hW40 := hF.hn
  have hY8 := hF.hy
  have hS64 : S.length ≤ 65535 := by
    rcases Nat.eq_zero_or_pos S.length with q | q
    · omega
    · have h1 := hF.hR
      have h2 : ∀ j, j < S.length → (j : Int) ≤ S.getD j 0 := fun j => by
        induction j with
        | zero => intro hj; have := Ch.at_ge h1 0 hj; omega
        | succ j ih => intro hj; have := ih (by omega); have := Ch.mono h1 j (j + 1) (by omega) hj; omega
      have h3 := h2 (S.length - 1) (by omega)
      have h4 := Ch.at_ge h1 (S.length - 1) (by omega)
      omega
  replace hF := Lib.hid hF
  clear hW hS hN
  go_enter Try.func4, Try.ntmps4
  go_wp2_with (fail)
  generalize w.alloc (.cells #[.slice A n c, .slice B m d, .slice C k e] 55) = w1 at *
  refine (Lo.shown_any w1).mono ?_; rintro r w2 ⟨rfl, hE⟩
  replace hB := Lib.hid (hB.trans (hE.mono hB.size))
  replace hO := Lib.hid (hO.out.below hE)
  clear hE
  have o0 := hO.out.cell 0 (.slice A n c) rfl
  have o1 := hO.out.cell 1 (.slice B m d) rfl
  have o2 := hO.out.cell 2 (.slice C k e) rfl
  go_wp2_with (fail)
  clear o0 o1 o2
  refine (CF.out w2 hB.out).mono ?_; rintro r w3 ⟨gW, cW, gS, cS, C1, e1, rfl, hP, hQ, hY, hE⟩
  have hA3 := ((Kept.refl w3).alloc #[.slice (some ⟨gW, 0, none⟩) W.length cW, .slice (some ⟨gS, 0, none⟩) S.length cS, .slice C1 Y.length e1] 26).below
  have hX := Lib.hid (show Ob.Own w2.heap.size w3.heap.size (some ⟨gW, 0, none⟩) W.length cW (some ⟨gS, 0, none⟩) S.length cS C1 Y.length e1 W S Y (w3.alloc (.cells #[.slice (some ⟨gW, 0, none⟩) W.length cW, .slice (some ⟨gS, 0, none⟩) S.length cS, .slice C1 Y.length e1] 26)) from ⟨Has.new _ _ _, (hP.on.below hA3), (hQ.on.below hA3), hY.below hA3, hE.size⟩)
  replace hB := Lib.hid ((hB.out.trans (hE.mono hB.out.size)).trans (hA3.mono (Nat.le_trans hB.out.size hE.size)))
  replace hO := (hO.out.below hE).below hA3
  clear hP hQ hY hE hA3
  clear hO CF
  go_upto_region 3 with (fail)
  generalize w3.alloc (.cells #[.slice (some ⟨gW, 0, none⟩) W.length cW, .slice (some ⟨gS, 0, none⟩) S.length cS, .slice C1 Y.length e1] 26) = w4 at *
  generalize w3.heap.size = O at *
  have r1 : 0 ≤ a1 % 4097 ∧ a1 % 4097 < 4097 := by omega
  have r2 : 0 ≤ a2 % 4097 ∧ a2 % 4097 < 4097 := by omega
  obtain ⟨I1, hI1⟩ : ∃ I, 4 * (a1 % 4097) = I := ⟨_, rfl⟩
  obtain ⟨I2, hI2⟩ : ∃ I, 4 * (a2 % 4097) = I := ⟨_, rfl⟩
  have hb1 : Lo.base I1 := ⟨by omega, by omega, by omega⟩
  have hb2 : Lo.base I2 := ⟨by omega, by omega, by omega⟩
  have hok := hF.out.ok
  have i0 := Lo.ok_E hok hb1
  have i1 := Lo.ok_W hok hb1
  have i2 := Lo.ok_E hok hb2
  have i3 := Lo.ok_W hok hb2
  have j2 : Lo.iE W S Y (I1 + 2) = 11 := (Lo.bad_E hok (fun q => by have h1 := hb1.2.2; have h2 := q.2.2; omega)).1
  have j4 : Lo.iE W S Y 16388 = 11 := (Lo.bad_E hok (fun q => by have h2 := q.2.1; omega)).1
  have j8 : Lo.iE W S Y 8 = 0 := Lo.ok_E hok ⟨by omega, by omega, by omega⟩
  have j6 : Lo.mE W S Y 8 (1 + (W.length : Int)) = 11 := by unfold Lo.mE; rw [if_pos j8, if_neg (by omega), if_neg (by omega)]
  have j7 : Lo.mE W S Y 8 (2 + (W.length : Int)) = 0 := by unfold Lo.mE; rw [if_pos j8, if_neg (by omega), if_pos (by omega)]
  have CI1 := fun (v : World) (h1 : Ob.Own w2.heap.size O (some ⟨gW, 0, none⟩) W.length cW (some ⟨gS, 0, none⟩) S.length cS C1 Y.length e1 W S Y v) => Lo.image_any (h1.wo hF.out.hr) h1.in h1.sy hF.out.siz I1
  have CI2 := fun (v : World) (h1 : Ob.Own w2.heap.size O (some ⟨gW, 0, none⟩) W.length cW (some ⟨gS, 0, none⟩) S.length cS C1 Y.length e1 W S Y v) => Lo.image_any (h1.wo hF.out.hr) h1.in h1.sy hF.out.siz I2
  have CI3 := fun (v : World) (h1 : Ob.Own w2.heap.size O (some ⟨gW, 0, none⟩) W.length cW (some ⟨gS, 0, none⟩) S.length cS C1 Y.length e1 W S Y v) => Lo.image_any (h1.wo hF.out.hr) h1.in h1.sy hF.out.siz (I1 + 2)
  have CI4 := fun (v : World) (h1 : Ob.Own w2.heap.size O (some ⟨gW, 0, none⟩) W.length cW (some ⟨gS, 0, none⟩) S.length cS C1 Y.length e1 W S Y v) => Lo.image_any (h1.wo hF.out.hr) h1.in h1.sy hF.out.siz 16388
  have CM1 := fun (v : World) (h1 : Ob.Own w2.heap.size O (some ⟨gW, 0, none⟩) W.length cW (some ⟨gS, 0, none⟩) S.length cS C1 Y.length e1 W S Y v) => Lo.machine_any (h1.wo hF.out.hr) h1.in h1.sy hF.out.siz 8 (1 + (W.length : Int)) (Ws.empty v) (by omega)
  have CM2 := fun (v : World) (h1 : Ob.Own w2.heap.size O (some ⟨gW, 0, none⟩) W.length cW (some ⟨gS, 0, none⟩) S.length cS C1 Y.length e1 W S Y v) => Lo.machine_any (h1.wo hF.out.hr) h1.in h1.sy hF.out.siz 8 (2 + (W.length : Int)) (Ws.empty v) (by omega)
  rw [i0, i1] at CI1
  rw [i2, i3] at CI2
  rw [j2] at CI3
  rw [j4] at CI4
  rw [j6] at CM1
  rw [j7] at CM2
  have G1 : ∀ q, q < W.length → (Lo.img S I1 0 W).getD q 0 = if (q : Int) ∈ S then (W.getD q 0 + I1) % 4294967296 else W.getD q 0 := fun q hq => Lo.img_get hq
  have G2 : ∀ q, q < W.length → (Lo.img S I2 0 W).getD q 0 = if (q : Int) ∈ S then (W.getD q 0 + I2) % 4294967296 else W.getD q 0 := fun q hq => Lo.img_get hq
  generalize hV1 : Lo.img S I1 0 W = V1 at *
  generalize hV2 : Lo.img S I2 0 W = V2 at *
  have hl1 : V1.length = W.length := by rw [← hV1]; exact Lo.img_len _ _ _ _
  have hl2 : V2.length = W.length := by rw [← hV2]; exact Lo.img_len _ _ _ _
  have k1 : 0 ≤ I1 ∧ I1 ≤ 16384 := ⟨hb1.1, hb1.2.1⟩
  have k2 : 0 ≤ I2 ∧ I2 ≤ 16384 := ⟨hb2.1, hb2.2.1⟩
  clear hb1 hb2 i0 i1 i2 i3 j2 j4 j6 j7 j8 hV1 hV2 hok
  replace CI1 := Lib.hid CI1
  replace CI2 := Lib.hid CI2
  replace CI3 := Lib.hid CI3
  replace CI4 := Lib.hid CI4
  replace CM1 := Lib.hid CM1
  replace CM2 := Lib.hid CM2
  replace G1 := Lib.hid G1
  replace G2 := Lib.hid G2
  obtain ⟨k10, k11⟩ := k1
  obtain ⟨k20, k21⟩ := k2
  go_wp2_with (first
    | (with_reducible refine load_has (o := ⟨some 43, _, _, _, _, _⟩) rfl 26 (.tmp 8) rfl O rfl hX.out.hG Try.underlying26 rfl (Ob.info26 _ _ _) ?_)
    | fail)
  refine (CI1.out _ hX.out).mono ?_; rintro r w5 ⟨A5, n5, c5, rfl, hP, hE⟩
  have hn5 := hP.rg.len
  rw [hl1] at hn5
  subst hn5
  replace hB := Lib.hid (hB.out.trans (hE.mono hB.out.size))
  replace hX := Lib.hid (hX.out.below hE)
  replace hP := Lib.hid hP
  clear CI1 hE
  clear hI1 hI2 r1 r2
  go_wp2_with (first
    | (with_reducible refine load_has (o := ⟨some 49, _, _, _, _, _⟩) rfl 26 (.tmp 8) rfl O rfl hX.out.hG Try.underlying26 rfl (Ob.info26 _ _ _) ?_)
    | fail)
  refine (CI2.out _ hX.out).mono ?_; rintro r w6 ⟨A6, n6, c6, rfl, hQ, hE⟩
  have hn6 := hQ.rg.len
  rw [hl2] at hn6
  subst hn6
  replace hB := Lib.hid (hB.out.trans (hE.mono hB.out.size))
  replace hX := Lib.hid (hX.out.below hE)
  replace hP := Lib.hid (hP.out.below hE)
  replace hQ := Lib.hid hQ
  clear CI2 hE
  have o0 := hX.out.hG.cell 0 (.slice (some ⟨gW, 0, none⟩) W.length cW) rfl
  go_wp2
  clear o0
  have hN0 := Lib.hid (Lo.Next.zero hF.out.hR)
  go_loopw [15, 16, 17] (fun t i _ wr => ∃ (q t' : Nat), q ≤ W.length ∧ t = .int .i64 t' ∧ i = .int .i64 q ∧ Lo.Next S q t' ∧ Below w6.heap.size w6 wr) (fun _ i _ _ => W.length - (intOf i).toNat)
  case atStart => exact ⟨0, 0, Nat.zero_le _, rfl, rfl, hN0.out, Below.refl _ _⟩
  case round =>
    clear hN0
    obtain ⟨q, t, hq, rfl, rfl, hN, hE⟩ := hrel
    by_cases d1 : q < W.length
    · have d2 : (q : Int) < W.length := by omega
      have hXr := hX.out.below hE
      have gw := (show Ow 39 .u32 _ gW W.length cW W wr from hXr.hP).at q d1
      have o0 := hXr.hG.cell 0 (.slice (some ⟨gW, 0, none⟩) W.length cW) rfl
      have o1 := hXr.hG.cell 1 (.slice (some ⟨gS, 0, none⟩) S.length cS) rfl
      have hPr := hP.out.below hE
      have hQr := hQ.out.below hE
      rcases hPr.cases with ⟨_, h0, _⟩ | ⟨g5, rfl, hO5⟩
      · omega
      rcases hQr.cases with ⟨_, h0, _⟩ | ⟨g6, rfl, hO6⟩
      · omega
      have ga := (show Ow 39 .u32 _ g5 W.length c5 V1 wr from hO5).at q d1
      have gb := (show Ow 39 .u32 _ g6 W.length c6 V2 wr from hO6).at q d1
      rw [G1.out q d1] at ga
      rw [G2.out q d1] at gb
      have hx := (hXr.wo hF.out.hr).atR (by decide) q
      have htl := hN.le
      have hsc : S.length ≤ cS := (show Ow 3 .i64 _ gS S.length cS S wr from hXr.hQ).has.2.1
      by_cases d3 : t < S.length
      · have d4 : (t : Int) < S.length := by omega
        have gs := (show Ow 3 .i64 _ gS S.length cS S wr from hXr.hQ).at t d3
        replace hE := Lib.hid hE
        clear hXr hPr hQr hO5 hO6
        by_cases d5 : S.getD t 0 = (q : Int)
        · obtain ⟨m1, m2⟩ := hN.yes hF.out.hR d3 d5
          rw [if_pos m1] at ga gb
          rw [d5] at gs
          clear d5 m1 hN
          replace m2 := Lib.hid m2
          generalize W.getD q 0 = x at *
          obtain ⟨x0, x1⟩ := hx
          obtain ⟨p, hp⟩ : ∃ p, (x + I1) % 4294967296 = p := ⟨_, rfl⟩
          obtain ⟨p', hp'⟩ : ∃ p, (x + I2) % 4294967296 = p := ⟨_, rfl⟩
          obtain ⟨y, hy⟩ : ∃ y, (I2 - I1) % 4294967296 = y := ⟨_, rfl⟩
          have qz : IntKind.u32.wrap (p' - p) = y := by rw [IntKind.wrap_u32]; omega
          rw [hp] at ga
          rw [hp'] at gb
          by_cases hik : I2 = I1
          · have q1 : (I2 == I1) = true := by simpa using hik
            have q2 : (I2 != I1) = false := by simpa using hik
            have hy0 : y = 0 := by omega
            have hz := Lib.hid (show I2 - I1 = 0 by omega)
            subst hy0
            clear hp hp' hik
            go_wp2_with (fail)
            rw [hz.out]
            clear hy hz
            refine WS.start 31 (by kernel_rfl) (by kernel_rfl) ?_
            intro w17 hw5
            replace ga := (show wr.drew.cell? _ = some _ from ga)
            rw [← hw5] at ga
            replace gb := (show wr.drew.cell? _ = some _ from gb)
            rw [← hw5] at gb
            replace gw := (show wr.drew.cell? _ = some _ from gw)
            rw [← hw5] at gw
            replace o0 := (show wr.drew.cell? _ = some _ from o0)
            rw [← hw5] at o0
            replace hE := Lib.hid (show Below w6.heap.size w6 w17 by rw [hw5]; exact hE.out.drew)
            clear hw5
            simp only [List.take_succ_cons, List.take_zero, List.drop_succ_cons, List.drop_zero]
            refine WS.step rfl (fun K hK => ?_); go_simp; (try (simp only [qz, q1, q2]; (try go_simp))); refine hK _ ?_; clear hK K
            refine WS.step rfl (fun K hK => ?_); go_simp; (try (simp only [qz, q1, q2]; (try go_simp))); refine hK _ ?_; clear hK K
            refine WS.step rfl (fun K hK => ?_); go_simp; (try (simp only [qz, q1, q2]; (try go_simp))); refine hK _ ?_; clear hK K
            refine WS.step rfl (fun K hK => ?_); go_simp; (try (simp only [qz, q1, q2]; (try go_simp))); refine hK _ ?_; clear hK K
            refine WS.step rfl (fun K hK => ?_); go_simp; (try (simp only [qz, q1, q2]; (try go_simp))); refine hK _ ?_; clear hK K
            refine WS.step rfl (fun K hK => ?_); go_simp; (try (simp only [qz, q1, q2]; (try go_simp))); refine hK _ ?_; clear hK K
            refine WS.step rfl (fun K hK => ?_); go_simp; (try (simp only [qz, q1, q2]; (try go_simp))); refine hK _ ?_; clear hK K
            refine WS.step rfl (fun K hK => ?_); go_simp; (try (simp only [qz, q1, q2]; (try go_simp))); refine hK _ ?_; clear hK K
            refine WS.step rfl (fun K hK => ?_); go_simp; (try (simp only [qz, q1, q2]; (try go_simp))); refine hK _ ?_; clear hK K
            refine WS.step rfl (fun K hK => ?_); go_simp; (try (simp only [qz, q1, q2]; (try go_simp))); refine hK _ ?_; clear hK K
            refine WS.step rfl (fun K hK => ?_); go_simp; (try (simp only [qz, q1, q2]; (try go_simp))); refine hK _ ?_; clear hK K
            refine WS.step rfl (fun K hK => ?_); go_simp; (try (simp only [qz, q1, q2]; (try go_simp))); refine hK _ ?_; clear hK K
            refine WS.want rfl (fun K hK => ?_); go_simp; (try (simp only [qz, q1, q2]; (try go_simp))); refine hK _ ?_; clear hK K
            refine WS.want rfl (fun K hK => ?_); go_simp; (try (simp only [qz, q1, q2]; (try go_simp))); refine hK _ ?_; clear hK K
            refine WS.want rfl (fun K hK => ?_); go_simp; (try (simp only [qz, q1, q2]; (try go_simp))); refine hK _ ?_; clear hK K
            refine WS.want rfl (fun K hK => ?_); go_simp; (try (simp only [qz, q1, q2]; (try go_simp))); refine hK _ ?_; clear hK K
            refine WS.want rfl (fun K hK => ?_); go_simp; (try (simp only [qz, q1, q2]; (try go_simp))); refine hK _ ?_; clear hK K
            refine WS.want rfl (fun K hK => ?_); go_simp; (try (simp only [qz, q1, q2]; (try go_simp))); refine hK _ ?_; clear hK K
            refine WS.want rfl (fun K hK => ?_); go_simp; (try (simp only [qz, q1, q2]; (try go_simp))); refine hK _ ?_; clear hK K
            refine WS.want rfl (fun K hK => ?_); go_simp; (try (simp only [qz, q1, q2]; (try go_simp))); refine hK _ ?_; clear hK K
            refine WS.skip rfl ?_
            try simp only [Act.put, List.setIfInBounds_toArray, List.set_cons_zero, List.set_cons_succ]
            refine WS.skip rfl ?_
            try simp only [Act.put, List.setIfInBounds_toArray, List.set_cons_zero, List.set_cons_succ]
            refine WS.skip rfl ?_
            try simp only [Act.put, List.setIfInBounds_toArray, List.set_cons_zero, List.set_cons_succ]
            refine WS.skip rfl ?_
            try simp only [Act.put, List.setIfInBounds_toArray, List.set_cons_zero, List.set_cons_succ]
            refine WS.skip rfl ?_
            try simp only [Act.put, List.setIfInBounds_toArray, List.set_cons_zero, List.set_cons_succ]
            refine WS.skip rfl ?_
            try simp only [Act.put, List.setIfInBounds_toArray, List.set_cons_zero, List.set_cons_succ]
            refine WS.skip rfl ?_
            try simp only [Act.put, List.setIfInBounds_toArray, List.set_cons_zero, List.set_cons_succ]
            refine WS.skip rfl ?_
            try simp only [Act.put, List.setIfInBounds_toArray, List.set_cons_zero, List.set_cons_succ]
            refine WS.skip rfl ?_
            try simp only [Act.put, List.setIfInBounds_toArray, List.set_cons_zero, List.set_cons_succ]
            refine WS.skip rfl ?_
            try simp only [Act.put, List.setIfInBounds_toArray, List.set_cons_zero, List.set_cons_succ]
            refine WS.want rfl (fun K hK => ?_); go_simp; (try (simp only [qz, q1, q2]; (try go_simp))); refine hK _ ?_; clear hK K
            refine WS.nil ?_
            clear ga gb gw o0
            go_wp2
            go_roundw
            case rel => exact ⟨q + 1, (t + 1), by omega, by go_num, by go_num, m2.out, hE.out⟩
            case measure => simp [intOf]; omega
          · have q1 : (I2 == I1) = false := by simpa using hik
            have q2 : (I2 != I1) = true := by simpa using hik
            have hy0 : ¬ y = 0 := by omega
            have q3 : (y == 0) = false := by simpa using hy0
            have q4 : (y != 0) = true := by simpa using hy0
            clear hp hp' hik
            go_wp2_with (fail)
            rw [hy]
            clear hy
            refine WS.start 31 (by kernel_rfl) (by kernel_rfl) ?_
            intro w17 hw5
            replace ga := (show wr.drew.cell? _ = some _ from ga)
            rw [← hw5] at ga
            replace gb := (show wr.drew.cell? _ = some _ from gb)
            rw [← hw5] at gb
            replace gw := (show wr.drew.cell? _ = some _ from gw)
            rw [← hw5] at gw
            replace o0 := (show wr.drew.cell? _ = some _ from o0)
            rw [← hw5] at o0
            replace hE := Lib.hid (show Below w6.heap.size w6 w17 by rw [hw5]; exact hE.out.drew)
            clear hw5
            simp only [List.take_succ_cons, List.take_zero, List.drop_succ_cons, List.drop_zero]
            refine WS.step rfl (fun K hK => ?_); go_simp; (try (simp only [qz, q1, q2, q3]; (try go_simp))); refine hK _ ?_; clear hK K
            refine WS.step rfl (fun K hK => ?_); go_simp; (try (simp only [qz, q1, q2, q3]; (try go_simp))); refine hK _ ?_; clear hK K
            refine WS.step rfl (fun K hK => ?_); go_simp; (try (simp only [qz, q1, q2, q3]; (try go_simp))); refine hK _ ?_; clear hK K
            refine WS.step rfl (fun K hK => ?_); go_simp; (try (simp only [qz, q1, q2, q3]; (try go_simp))); refine hK _ ?_; clear hK K
            refine WS.step rfl (fun K hK => ?_); go_simp; (try (simp only [qz, q1, q2, q3]; (try go_simp))); refine hK _ ?_; clear hK K
            refine WS.step rfl (fun K hK => ?_); go_simp; (try (simp only [qz, q1, q2, q3]; (try go_simp))); refine hK _ ?_; clear hK K
            refine WS.step rfl (fun K hK => ?_); go_simp; (try (simp only [qz, q1, q2, q3]; (try go_simp))); refine hK _ ?_; clear hK K
            refine WS.step rfl (fun K hK => ?_); go_simp; (try (simp only [qz, q1, q2, q3]; (try go_simp))); refine hK _ ?_; clear hK K
            refine WS.step rfl (fun K hK => ?_); go_simp; (try (simp only [qz, q1, q2, q3]; (try go_simp))); refine hK _ ?_; clear hK K
            refine WS.step rfl (fun K hK => ?_); go_simp; (try (simp only [qz, q1, q2, q3]; (try go_simp))); refine hK _ ?_; clear hK K
            refine WS.step rfl (fun K hK => ?_); go_simp; (try (simp only [qz, q1, q2, q3]; (try go_simp))); refine hK _ ?_; clear hK K
            refine WS.step rfl (fun K hK => ?_); go_simp; (try (simp only [qz, q1, q2, q3]; (try go_simp))); refine hK _ ?_; clear hK K
            refine WS.want rfl (fun K hK => ?_); go_simp; (try (simp only [qz, q1, q2, q3]; (try go_simp))); refine hK _ ?_; clear hK K
            refine WS.want rfl (fun K hK => ?_); go_simp; (try (simp only [qz, q1, q2, q3]; (try go_simp))); refine hK _ ?_; clear hK K
            refine WS.want rfl (fun K hK => ?_); go_simp; (try (simp only [qz, q1, q2, q3]; (try go_simp))); refine hK _ ?_; clear hK K
            refine WS.skip rfl ?_
            try simp only [Act.put, List.setIfInBounds_toArray, List.set_cons_zero, List.set_cons_succ]
            refine WS.skip rfl ?_
            try simp only [Act.put, List.setIfInBounds_toArray, List.set_cons_zero, List.set_cons_succ]
            refine WS.skip rfl ?_
            try simp only [Act.put, List.setIfInBounds_toArray, List.set_cons_zero, List.set_cons_succ]
            refine WS.want rfl (fun K hK => ?_); go_simp; (try (simp only [qz, q1, q2, q3]; (try go_simp))); refine hK _ ?_; clear hK K
            refine WS.want rfl (fun K hK => ?_); go_simp; (try (simp only [qz, q1, q2, q3]; (try go_simp))); refine hK _ ?_; clear hK K
            refine WS.skip rfl ?_
            try simp only [Act.put, List.setIfInBounds_toArray, List.set_cons_zero, List.set_cons_succ]
            refine WS.skip rfl ?_
            try simp only [Act.put, List.setIfInBounds_toArray, List.set_cons_zero, List.set_cons_succ]
            refine WS.skip rfl ?_
            try simp only [Act.put, List.setIfInBounds_toArray, List.set_cons_zero, List.set_cons_succ]
            refine WS.skip rfl ?_
            try simp only [Act.put, List.setIfInBounds_toArray, List.set_cons_zero, List.set_cons_succ]
            refine WS.skip rfl ?_
            try simp only [Act.put, List.setIfInBounds_toArray, List.set_cons_zero, List.set_cons_succ]
            refine WS.skip rfl ?_
            try simp only [Act.put, List.setIfInBounds_toArray, List.set_cons_zero, List.set_cons_succ]
            refine WS.skip rfl ?_
            try simp only [Act.put, List.setIfInBounds_toArray, List.set_cons_zero, List.set_cons_succ]
            refine WS.skip rfl ?_
            try simp only [Act.put, List.setIfInBounds_toArray, List.set_cons_zero, List.set_cons_succ]
            refine WS.skip rfl ?_
            try simp only [Act.put, List.setIfInBounds_toArray, List.set_cons_zero, List.set_cons_succ]
            refine WS.skip rfl ?_
            try simp only [Act.put, List.setIfInBounds_toArray, List.set_cons_zero, List.set_cons_succ]
            refine WS.want rfl (fun K hK => ?_); go_simp; (try (simp only [qz, q1, q2, q3]; (try go_simp))); refine hK _ ?_; clear hK K
            refine WS.nil ?_
            clear ga gb gw o0
            go_wp2
            go_roundw
            case rel => exact ⟨q + 1, (t + 1), by omega, by go_num, by go_num, m2.out, hE.out⟩
            case measure => simp [intOf]; omega
        · obtain ⟨m1, m2⟩ := hN.no hF.out.hR (fun z => d5 z.2)
          rw [if_neg m1] at ga gb
          clear m1 hN
          replace m2 := Lib.hid m2
          generalize W.getD q 0 = x at *
          generalize S.getD t 0 = s at *
          have d6 : (s == (q : Int)) = false := by simpa using d5
          have d7 : (s != (q : Int)) = true := by simpa using d5
          obtain ⟨x0, x1⟩ := hx
          have qz : IntKind.u32.wrap (x - x) = 0 := by rw [IntKind.wrap_u32]; omega
          have qy : IntKind.u32.wrap 0 = 0 := by rw [IntKind.wrap_u32]; rfl
          have qx : x - x = 0 := by omega
          by_cases hik : I2 = I1
          · have q1 : (I2 == I1) = true := by simpa using hik
            have q2 : (I2 != I1) = false := by simpa using hik
            clear hik
            go_wp2_with (fail)
            refine WS.start 31 (by kernel_rfl) (by kernel_rfl) ?_
            intro w17 hw5
            replace ga := (show wr.drew.cell? _ = some _ from ga)
            rw [← hw5] at ga
            replace gb := (show wr.drew.cell? _ = some _ from gb)
            rw [← hw5] at gb
            replace gw := (show wr.drew.cell? _ = some _ from gw)
            rw [← hw5] at gw
            replace o0 := (show wr.drew.cell? _ = some _ from o0)
            rw [← hw5] at o0
            replace hE := Lib.hid (show Below w6.heap.size w6 w17 by rw [hw5]; exact hE.out.drew)
            clear hw5
            simp only [List.take_succ_cons, List.take_zero, List.drop_succ_cons, List.drop_zero]
            refine WS.step rfl (fun K hK => ?_); go_simp; (try (simp only [qx, qz, qy, q1, q2]; (try go_simp))); refine hK _ ?_; clear hK K
            refine WS.step rfl (fun K hK => ?_); go_simp; (try (simp only [qx, qz, qy, q1, q2]; (try go_simp))); refine hK _ ?_; clear hK K
            refine WS.step rfl (fun K hK => ?_); go_simp; (try (simp only [qx, qz, qy, q1, q2]; (try go_simp))); refine hK _ ?_; clear hK K
            refine WS.step rfl (fun K hK => ?_); go_simp; (try (simp only [qx, qz, qy, q1, q2]; (try go_simp))); refine hK _ ?_; clear hK K
            refine WS.step rfl (fun K hK => ?_); go_simp; (try (simp only [qx, qz, qy, q1, q2]; (try go_simp))); refine hK _ ?_; clear hK K
            refine WS.step rfl (fun K hK => ?_); go_simp; (try (simp only [qx, qz, qy, q1, q2]; (try go_simp))); refine hK _ ?_; clear hK K
            refine WS.step rfl (fun K hK => ?_); go_simp; (try (simp only [qx, qz, qy, q1, q2]; (try go_simp))); refine hK _ ?_; clear hK K
            refine WS.step rfl (fun K hK => ?_); go_simp; (try (simp only [qx, qz, qy, q1, q2]; (try go_simp))); refine hK _ ?_; clear hK K
            refine WS.step rfl (fun K hK => ?_); go_simp; (try (simp only [qx, qz, qy, q1, q2]; (try go_simp))); refine hK _ ?_; clear hK K
            refine WS.step rfl (fun K hK => ?_); go_simp; (try (simp only [qx, qz, qy, q1, q2]; (try go_simp))); refine hK _ ?_; clear hK K
            refine WS.step rfl (fun K hK => ?_); go_simp; (try (simp only [qx, qz, qy, q1, q2]; (try go_simp))); refine hK _ ?_; clear hK K
            refine WS.step rfl (fun K hK => ?_); go_simp; (try (simp only [qx, qz, qy, q1, q2]; (try go_simp))); refine hK _ ?_; clear hK K
            refine WS.want rfl (fun K hK => ?_); go_simp; (try (simp only [qx, qz, qy, q1, q2]; (try go_simp))); refine hK _ ?_; clear hK K
            refine WS.want rfl (fun K hK => ?_); go_simp; (try (simp only [qx, qz, qy, q1, q2]; (try go_simp))); refine hK _ ?_; clear hK K
            refine WS.want rfl (fun K hK => ?_); go_simp; (try (simp only [qx, qz, qy, q1, q2]; (try go_simp))); refine hK _ ?_; clear hK K
            refine WS.want rfl (fun K hK => ?_); go_simp; (try (simp only [qx, qz, qy, q1, q2]; (try go_simp))); refine hK _ ?_; clear hK K
            refine WS.want rfl (fun K hK => ?_); go_simp; (try (simp only [qx, qz, qy, q1, q2]; (try go_simp))); refine hK _ ?_; clear hK K
            refine WS.want rfl (fun K hK => ?_); go_simp; (try (simp only [qx, qz, qy, q1, q2]; (try go_simp))); refine hK _ ?_; clear hK K
            refine WS.want rfl (fun K hK => ?_); go_simp; (try (simp only [qx, qz, qy, q1, q2]; (try go_simp))); refine hK _ ?_; clear hK K
            refine WS.want rfl (fun K hK => ?_); go_simp; (try (simp only [qx, qz, qy, q1, q2]; (try go_simp))); refine hK _ ?_; clear hK K
            refine WS.skip rfl ?_
            try simp only [Act.put, List.setIfInBounds_toArray, List.set_cons_zero, List.set_cons_succ]
            refine WS.skip rfl ?_
            try simp only [Act.put, List.setIfInBounds_toArray, List.set_cons_zero, List.set_cons_succ]
            refine WS.skip rfl ?_
            try simp only [Act.put, List.setIfInBounds_toArray, List.set_cons_zero, List.set_cons_succ]
            refine WS.skip rfl ?_
            try simp only [Act.put, List.setIfInBounds_toArray, List.set_cons_zero, List.set_cons_succ]
            refine WS.skip rfl ?_
            try simp only [Act.put, List.setIfInBounds_toArray, List.set_cons_zero, List.set_cons_succ]
            refine WS.skip rfl ?_
            try simp only [Act.put, List.setIfInBounds_toArray, List.set_cons_zero, List.set_cons_succ]
            refine WS.skip rfl ?_
            try simp only [Act.put, List.setIfInBounds_toArray, List.set_cons_zero, List.set_cons_succ]
            refine WS.skip rfl ?_
            try simp only [Act.put, List.setIfInBounds_toArray, List.set_cons_zero, List.set_cons_succ]
            refine WS.skip rfl ?_
            try simp only [Act.put, List.setIfInBounds_toArray, List.set_cons_zero, List.set_cons_succ]
            refine WS.skip rfl ?_
            try simp only [Act.put, List.setIfInBounds_toArray, List.set_cons_zero, List.set_cons_succ]
            refine WS.want rfl (fun K hK => ?_); go_simp; (try (simp only [qx, qz, qy, q1, q2]; (try go_simp))); refine hK _ ?_; clear hK K
            refine WS.nil ?_
            clear ga gb gw o0
            go_wp2
            go_roundw
            case rel => exact ⟨q + 1, t, by omega, rfl, by go_num, m2.out, hE.out⟩
            case measure => simp [intOf]; omega
          · have q1 : (I2 == I1) = false := by simpa using hik
            have q2 : (I2 != I1) = true := by simpa using hik
            clear hik
            go_wp2_with (fail)
            refine WS.start 31 (by kernel_rfl) (by kernel_rfl) ?_
            intro w17 hw5
            replace ga := (show wr.drew.cell? _ = some _ from ga)
            rw [← hw5] at ga
            replace gb := (show wr.drew.cell? _ = some _ from gb)
            rw [← hw5] at gb
            replace gw := (show wr.drew.cell? _ = some _ from gw)
            rw [← hw5] at gw
            replace o0 := (show wr.drew.cell? _ = some _ from o0)
            rw [← hw5] at o0
            replace hE := Lib.hid (show Below w6.heap.size w6 w17 by rw [hw5]; exact hE.out.drew)
            clear hw5
            simp only [List.take_succ_cons, List.take_zero, List.drop_succ_cons, List.drop_zero]
            refine WS.step rfl (fun K hK => ?_); go_simp; (try (simp only [qx, qz, qy, q1, q2]; (try go_simp))); refine hK _ ?_; clear hK K
            refine WS.step rfl (fun K hK => ?_); go_simp; (try (simp only [qx, qz, qy, q1, q2]; (try go_simp))); refine hK _ ?_; clear hK K
            refine WS.step rfl (fun K hK => ?_); go_simp; (try (simp only [qx, qz, qy, q1, q2]; (try go_simp))); refine hK _ ?_; clear hK K
            refine WS.step rfl (fun K hK => ?_); go_simp; (try (simp only [qx, qz, qy, q1, q2]; (try go_simp))); refine hK _ ?_; clear hK K
            refine WS.step rfl (fun K hK => ?_); go_simp; (try (simp only [qx, qz, qy, q1, q2]; (try go_simp))); refine hK _ ?_; clear hK K
            refine WS.step rfl (fun K hK => ?_); go_simp; (try (simp only [qx, qz, qy, q1, q2]; (try go_simp))); refine hK _ ?_; clear hK K
            refine WS.step rfl (fun K hK => ?_); go_simp; (try (simp only [qx, qz, qy, q1, q2]; (try go_simp))); refine hK _ ?_; clear hK K
            refine WS.step rfl (fun K hK => ?_); go_simp; (try (simp only [qx, qz, qy, q1, q2]; (try go_simp))); refine hK _ ?_; clear hK K
            refine WS.step rfl (fun K hK => ?_); go_simp; (try (simp only [qx, qz, qy, q1, q2]; (try go_simp))); refine hK _ ?_; clear hK K
            refine WS.step rfl (fun K hK => ?_); go_simp; (try (simp only [qx, qz, qy, q1, q2]; (try go_simp))); refine hK _ ?_; clear hK K
            refine WS.step rfl (fun K hK => ?_); go_simp; (try (simp only [qx, qz, qy, q1, q2]; (try go_simp))); refine hK _ ?_; clear hK K
            refine WS.step rfl (fun K hK => ?_); go_simp; (try (simp only [qx, qz, qy, q1, q2]; (try go_simp))); refine hK _ ?_; clear hK K
            refine WS.want rfl (fun K hK => ?_); go_simp; (try (simp only [qx, qz, qy, q1, q2]; (try go_simp))); refine hK _ ?_; clear hK K
            refine WS.want rfl (fun K hK => ?_); go_simp; (try (simp only [qx, qz, qy, q1, q2]; (try go_simp))); refine hK _ ?_; clear hK K
            refine WS.want rfl (fun K hK => ?_); go_simp; (try (simp only [qx, qz, qy, q1, q2]; (try go_simp))); refine hK _ ?_; clear hK K
            refine WS.want rfl (fun K hK => ?_); go_simp; (try (simp only [qx, qz, qy, q1, q2]; (try go_simp))); refine hK _ ?_; clear hK K
            refine WS.want rfl (fun K hK => ?_); go_simp; (try (simp only [qx, qz, qy, q1, q2]; (try go_simp))); refine hK _ ?_; clear hK K
            refine WS.want rfl (fun K hK => ?_); go_simp; (try (simp only [qx, qz, qy, q1, q2]; (try go_simp))); refine hK _ ?_; clear hK K
            refine WS.want rfl (fun K hK => ?_); go_simp; (try (simp only [qx, qz, qy, q1, q2]; (try go_simp))); refine hK _ ?_; clear hK K
            refine WS.want rfl (fun K hK => ?_); go_simp; (try (simp only [qx, qz, qy, q1, q2]; (try go_simp))); refine hK _ ?_; clear hK K
            refine WS.want rfl (fun K hK => ?_); go_simp; (try (simp only [qx, qz, qy, q1, q2]; (try go_simp))); refine hK _ ?_; clear hK K
            refine WS.want rfl (fun K hK => ?_); go_simp; (try (simp only [qx, qz, qy, q1, q2]; (try go_simp))); refine hK _ ?_; clear hK K
            refine WS.want rfl (fun K hK => ?_); go_simp; (try (simp only [qx, qz, qy, q1, q2]; (try go_simp))); refine hK _ ?_; clear hK K
            refine WS.want rfl (fun K hK => ?_); go_simp; (try (simp only [qx, qz, qy, q1, q2]; (try go_simp))); refine hK _ ?_; clear hK K
            refine WS.want rfl (fun K hK => ?_); go_simp; (try (simp only [qx, qz, qy, q1, q2]; (try go_simp))); refine hK _ ?_; clear hK K
            refine WS.want rfl (fun K hK => ?_); go_simp; (try (simp only [qx, qz, qy, q1, q2]; (try go_simp))); refine hK _ ?_; clear hK K
            refine WS.want rfl (fun K hK => ?_); go_simp; (try (simp only [qx, qz, qy, q1, q2]; (try go_simp))); refine hK _ ?_; clear hK K
            refine WS.want rfl (fun K hK => ?_); go_simp; (try (simp only [qx, qz, qy, q1, q2]; (try go_simp))); refine hK _ ?_; clear hK K
            refine WS.want rfl (fun K hK => ?_); go_simp; (try (simp only [qx, qz, qy, q1, q2]; (try go_simp))); refine hK _ ?_; clear hK K
            refine WS.want rfl (fun K hK => ?_); go_simp; (try (simp only [qx, qz, qy, q1, q2]; (try go_simp))); refine hK _ ?_; clear hK K
            refine WS.want rfl (fun K hK => ?_); go_simp; (try (simp only [qx, qz, qy, q1, q2]; (try go_simp))); refine hK _ ?_; clear hK K
            refine WS.nil ?_
            clear ga gb gw o0
            go_wp2
            go_roundw
            case rel => exact ⟨q + 1, t, by omega, rfl, by go_num, m2.out, hE.out⟩
            case measure => simp [intOf]; omega
      · have d4 : ¬ (t : Int) < S.length := by omega
        obtain ⟨m1, m2⟩ := hN.no hF.out.hR (fun z => d3 z.1)
        rw [if_neg m1] at ga gb
        replace hE := Lib.hid hE
        clear hXr hPr hQr hO5 hO6 m1 hN
        replace m2 := Lib.hid m2
        generalize W.getD q 0 = x at *
        obtain ⟨x0, x1⟩ := hx
        have qz : IntKind.u32.wrap (x - x) = 0 := by rw [IntKind.wrap_u32]; omega
        have qy : IntKind.u32.wrap 0 = 0 := by rw [IntKind.wrap_u32]; rfl
        have qx : x - x = 0 := by omega
        by_cases hik : I2 = I1
        · have q1 : (I2 == I1) = true := by simpa using hik
          have q2 : (I2 != I1) = false := by simpa using hik
          clear hik
          go_wp2_with (fail)
          refine WS.start 31 (by kernel_rfl) (by kernel_rfl) ?_
          intro w17 hw5
          replace ga := (show wr.drew.cell? _ = some _ from ga)
          rw [← hw5] at ga
          replace gb := (show wr.drew.cell? _ = some _ from gb)
          rw [← hw5] at gb
          replace gw := (show wr.drew.cell? _ = some _ from gw)
          rw [← hw5] at gw
          replace o0 := (show wr.drew.cell? _ = some _ from o0)
          rw [← hw5] at o0
          replace hE := Lib.hid (show Below w6.heap.size w6 w17 by rw [hw5]; exact hE.out.drew)
          clear hw5
          simp only [List.take_succ_cons, List.take_zero, List.drop_succ_cons, List.drop_zero]
          refine WS.step rfl (fun K hK => ?_); go_simp; (try (simp only [qx, qz, qy, q1, q2]; (try go_simp))); refine hK _ ?_; clear hK K
          refine WS.step rfl (fun K hK => ?_); go_simp; (try (simp only [qx, qz, qy, q1, q2]; (try go_simp))); refine hK _ ?_; clear hK K
          refine WS.step rfl (fun K hK => ?_); go_simp; (try (simp only [qx, qz, qy, q1, q2]; (try go_simp))); refine hK _ ?_; clear hK K
          refine WS.step rfl (fun K hK => ?_); go_simp; (try (simp only [qx, qz, qy, q1, q2]; (try go_simp))); refine hK _ ?_; clear hK K
          refine WS.step rfl (fun K hK => ?_); go_simp; (try (simp only [qx, qz, qy, q1, q2]; (try go_simp))); refine hK _ ?_; clear hK K
          refine WS.step rfl (fun K hK => ?_); go_simp; (try (simp only [qx, qz, qy, q1, q2]; (try go_simp))); refine hK _ ?_; clear hK K
          refine WS.step rfl (fun K hK => ?_); go_simp; (try (simp only [qx, qz, qy, q1, q2]; (try go_simp))); refine hK _ ?_; clear hK K
          refine WS.step rfl (fun K hK => ?_); go_simp; (try (simp only [qx, qz, qy, q1, q2]; (try go_simp))); refine hK _ ?_; clear hK K
          refine WS.step rfl (fun K hK => ?_); go_simp; (try (simp only [qx, qz, qy, q1, q2]; (try go_simp))); refine hK _ ?_; clear hK K
          refine WS.step rfl (fun K hK => ?_); go_simp; (try (simp only [qx, qz, qy, q1, q2]; (try go_simp))); refine hK _ ?_; clear hK K
          refine WS.step rfl (fun K hK => ?_); go_simp; (try (simp only [qx, qz, qy, q1, q2]; (try go_simp))); refine hK _ ?_; clear hK K
          refine WS.step rfl (fun K hK => ?_); go_simp; (try (simp only [qx, qz, qy, q1, q2]; (try go_simp))); refine hK _ ?_; clear hK K
          refine WS.want rfl (fun K hK => ?_); go_simp; (try (simp only [qx, qz, qy, q1, q2]; (try go_simp))); refine hK _ ?_; clear hK K
          refine WS.want rfl (fun K hK => ?_); go_simp; (try (simp only [qx, qz, qy, q1, q2]; (try go_simp))); refine hK _ ?_; clear hK K
          refine WS.want rfl (fun K hK => ?_); go_simp; (try (simp only [qx, qz, qy, q1, q2]; (try go_simp))); refine hK _ ?_; clear hK K
          refine WS.want rfl (fun K hK => ?_); go_simp; (try (simp only [qx, qz, qy, q1, q2]; (try go_simp))); refine hK _ ?_; clear hK K
          refine WS.want rfl (fun K hK => ?_); go_simp; (try (simp only [qx, qz, qy, q1, q2]; (try go_simp))); refine hK _ ?_; clear hK K
          refine WS.want rfl (fun K hK => ?_); go_simp; (try (simp only [qx, qz, qy, q1, q2]; (try go_simp))); refine hK _ ?_; clear hK K
          refine WS.want rfl (fun K hK => ?_); go_simp; (try (simp only [qx, qz, qy, q1, q2]; (try go_simp))); refine hK _ ?_; clear hK K
          refine WS.want rfl (fun K hK => ?_); go_simp; (try (simp only [qx, qz, qy, q1, q2]; (try go_simp))); refine hK _ ?_; clear hK K
          refine WS.skip rfl ?_
          try simp only [Act.put, List.setIfInBounds_toArray, List.set_cons_zero, List.set_cons_succ]
          refine WS.skip rfl ?_
          try simp only [Act.put, List.setIfInBounds_toArray, List.set_cons_zero, List.set_cons_succ]
          refine WS.skip rfl ?_
          try simp only [Act.put, List.setIfInBounds_toArray, List.set_cons_zero, List.set_cons_succ]
          refine WS.skip rfl ?_
          try simp only [Act.put, List.setIfInBounds_toArray, List.set_cons_zero, List.set_cons_succ]
          refine WS.skip rfl ?_
          try simp only [Act.put, List.setIfInBounds_toArray, List.set_cons_zero, List.set_cons_succ]
          refine WS.skip rfl ?_
          try simp only [Act.put, List.setIfInBounds_toArray, List.set_cons_zero, List.set_cons_succ]
          refine WS.skip rfl ?_
          try simp only [Act.put, List.setIfInBounds_toArray, List.set_cons_zero, List.set_cons_succ]
          refine WS.skip rfl ?_
          try simp only [Act.put, List.setIfInBounds_toArray, List.set_cons_zero, List.set_cons_succ]
          refine WS.skip rfl ?_
          try simp only [Act.put, List.setIfInBounds_toArray, List.set_cons_zero, List.set_cons_succ]
          refine WS.skip rfl ?_
          try simp only [Act.put, List.setIfInBounds_toArray, List.set_cons_zero, List.set_cons_succ]
          refine WS.want rfl (fun K hK => ?_); go_simp; (try (simp only [qx, qz, qy, q1, q2]; (try go_simp))); refine hK _ ?_; clear hK K
          refine WS.nil ?_
          clear ga gb gw o0
          go_wp2
          go_roundw
          case rel => exact ⟨q + 1, t, by omega, rfl, by go_num, m2.out, hE.out⟩
          case measure => simp [intOf]; omega
        · have q1 : (I2 == I1) = false := by simpa using hik
          have q2 : (I2 != I1) = true := by simpa using hik
          clear hik
          go_wp2_with (fail)
          refine WS.start 31 (by kernel_rfl) (by kernel_rfl) ?_
          intro w17 hw5
          replace ga := (show wr.drew.cell? _ = some _ from ga)
          rw [← hw5] at ga
          replace gb := (show wr.drew.cell? _ = some _ from gb)
          rw [← hw5] at gb
          replace gw := (show wr.drew.cell? _ = some _ from gw)
          rw [← hw5] at gw
          replace o0 := (show wr.drew.cell? _ = some _ from o0)
          rw [← hw5] at o0
          replace hE := Lib.hid (show Below w6.heap.size w6 w17 by rw [hw5]; exact hE.out.drew)
          clear hw5
          simp only [List.take_succ_cons, List.take_zero, List.drop_succ_cons, List.drop_zero]
          refine WS.step rfl (fun K hK => ?_); go_simp; (try (simp only [qx, qz, qy, q1, q2]; (try go_simp))); refine hK _ ?_; clear hK K
          refine WS.step rfl (fun K hK => ?_); go_simp; (try (simp only [qx, qz, qy, q1, q2]; (try go_simp))); refine hK _ ?_; clear hK K
          refine WS.step rfl (fun K hK => ?_); go_simp; (try (simp only [qx, qz, qy, q1, q2]; (try go_simp))); refine hK _ ?_; clear hK K
          refine WS.step rfl (fun K hK => ?_); go_simp; (try (simp only [qx, qz, qy, q1, q2]; (try go_simp))); refine hK _ ?_; clear hK K
          refine WS.step rfl (fun K hK => ?_); go_simp; (try (simp only [qx, qz, qy, q1, q2]; (try go_simp))); refine hK _ ?_; clear hK K
          refine WS.step rfl (fun K hK => ?_); go_simp; (try (simp only [qx, qz, qy, q1, q2]; (try go_simp))); refine hK _ ?_; clear hK K
          refine WS.step rfl (fun K hK => ?_); go_simp; (try (simp only [qx, qz, qy, q1, q2]; (try go_simp))); refine hK _ ?_; clear hK K
          refine WS.step rfl (fun K hK => ?_); go_simp; (try (simp only [qx, qz, qy, q1, q2]; (try go_simp))); refine hK _ ?_; clear hK K
          refine WS.step rfl (fun K hK => ?_); go_simp; (try (simp only [qx, qz, qy, q1, q2]; (try go_simp))); refine hK _ ?_; clear hK K
          refine WS.step rfl (fun K hK => ?_); go_simp; (try (simp only [qx, qz, qy, q1, q2]; (try go_simp))); refine hK _ ?_; clear hK K
          refine WS.step rfl (fun K hK => ?_); go_simp; (try (simp only [qx, qz, qy, q1, q2]; (try go_simp))); refine hK _ ?_; clear hK K
          refine WS.step rfl (fun K hK => ?_); go_simp; (try (simp only [qx, qz, qy, q1, q2]; (try go_simp))); refine hK _ ?_; clear hK K
          refine WS.want rfl (fun K hK => ?_); go_simp; (try (simp only [qx, qz, qy, q1, q2]; (try go_simp))); refine hK _ ?_; clear hK K
          refine WS.want rfl (fun K hK => ?_); go_simp; (try (simp only [qx, qz, qy, q1, q2]; (try go_simp))); refine hK _ ?_; clear hK K
          refine WS.want rfl (fun K hK => ?_); go_simp; (try (simp only [qx, qz, qy, q1, q2]; (try go_simp))); refine hK _ ?_; clear hK K
          refine WS.want rfl (fun K hK => ?_); go_simp; (try (simp only [qx, qz, qy, q1, q2]; (try go_simp))); refine hK _ ?_; clear hK K
          refine WS.want rfl (fun K hK => ?_); go_simp; (try (simp only [qx, qz, qy, q1, q2]; (try go_simp))); refine hK _ ?_; clear hK K
          refine WS.want rfl (fun K hK => ?_); go_simp; (try (simp only [qx, qz, qy, q1, q2]; (try go_simp))); refine hK _ ?_; clear hK K
          refine WS.want rfl (fun K hK => ?_); go_simp; (try (simp only [qx, qz, qy, q1, q2]; (try go_simp))); refine hK _ ?_; clear hK K
          refine WS.want rfl (fun K hK => ?_); go_simp; (try (simp only [qx, qz, qy, q1, q2]; (try go_simp))); refine hK _ ?_; clear hK K
          refine WS.want rfl (fun K hK => ?_); go_simp; (try (simp only [qx, qz, qy, q1, q2]; (try go_simp))); refine hK _ ?_; clear hK K
          refine WS.want rfl (fun K hK => ?_); go_simp; (try (simp only [qx, qz, qy, q1, q2]; (try go_simp))); refine hK _ ?_; clear hK K
          refine WS.want rfl (fun K hK => ?_); go_simp; (try (simp only [qx, qz, qy, q1, q2]; (try go_simp))); refine hK _ ?_; clear hK K
          refine WS.want rfl (fun K hK => ?_); go_simp; (try (simp only [qx, qz, qy, q1, q2]; (try go_simp))); refine hK _ ?_; clear hK K
          refine WS.want rfl (fun K hK => ?_); go_simp; (try (simp only [qx, qz, qy, q1, q2]; (try go_simp))); refine hK _ ?_; clear hK K
          refine WS.want rfl (fun K hK => ?_); go_simp; (try (simp only [qx, qz, qy, q1, q2]; (try go_simp))); refine hK _ ?_; clear hK K
          refine WS.want rfl (fun K hK => ?_); go_simp; (try (simp only [qx, qz, qy, q1, q2]; (try go_simp))); refine hK _ ?_; clear hK K
          refine WS.want rfl (fun K hK => ?_); go_simp; (try (simp only [qx, qz, qy, q1, q2]; (try go_simp))); refine hK _ ?_; clear hK K
          refine WS.want rfl (fun K hK => ?_); go_simp; (try (simp only [qx, qz, qy, q1, q2]; (try go_simp))); refine hK _ ?_; clear hK K
          refine WS.want rfl (fun K hK => ?_); go_simp; (try (simp only [qx, qz, qy, q1, q2]; (try go_simp))); refine hK _ ?_; clear hK K
          refine WS.want rfl (fun K hK => ?_); go_simp; (try (simp only [qx, qz, qy, q1, q2]; (try go_simp))); refine hK _ ?_; clear hK K
          refine WS.nil ?_
          clear ga gb gw o0
          go_wp2
          go_roundw
          case rel => exact ⟨q + 1, t, by omega, rfl, by go_num, m2.out, hE.out⟩
          case measure => simp [intOf]; omega
    · have d2 : ¬ (q : Int) < W.length := by omega
      obtain rfl : q = W.length := by omega
      replace hB := Lib.hid (hB.out.trans (hE.mono hB.out.size))
      replace hX := Lib.hid (hX.out.below hE)
      clear hE hP hQ hN d1 G1 G2
      go_wp2_with (first
        | (with_reducible refine load_has (o := ⟨some 138, _, _, _, _, _⟩) rfl 26 (.tmp 8) rfl O rfl hX.out.hG Try.underlying26 rfl (Ob.info26 _ _ _) ?_)
        | fail)
      refine (CI3.out _ hX.out).mono ?_; rintro r v0 ⟨Ax0, nx0, cx0, rfl, hP, hE⟩
      replace hB := Lib.hid (hB.out.trans (hE.mono hB.out.size))
      replace hX := Lib.hid (hX.out.below hE)
      clear CI3 hE hP
      go_wp2_with (first
        | (with_reducible refine load_has (o := ⟨some 145, _, _, _, _, _⟩) rfl 26 (.tmp 8) rfl O rfl hX.out.hG Try.underlying26 rfl (Ob.info26 _ _ _) ?_)
        | fail)
      refine (CI4.out _ hX.out).mono ?_; rintro r v1 ⟨Ax1, nx1, cx1, rfl, hP, hE⟩
      replace hB := Lib.hid (hB.out.trans (hE.mono hB.out.size))
      replace hX := Lib.hid (hX.out.below hE)
      clear CI4 hE hP
      have o0 := hX.out.hG.cell 0 (.slice (some ⟨gW, 0, none⟩) W.length cW) rfl
      have hcw : (W.length : Int) ≤ 40 := by omega
      go_wp2_with (first
        | (with_reducible refine load_has (o := ⟨some 150, _, _, _, _, _⟩) rfl 26 (.tmp 8) rfl O rfl hX.out.hG Try.underlying26 rfl (Ob.info26 _ _ _) ?_)
        | fail)
      refine (CM1.out _ hX.out).mono ?_; rintro r v3 hM
      obtain ⟨rfl, hE⟩ := hM.2 (by decide)
      clear hM o0
      replace hB := Lib.hid (hB.out.trans (hE.mono hB.out.size))
      replace hX := Lib.hid (hX.out.below hE)
      clear CM1 hE
      have o0 := hX.out.hG.cell 0 (.slice (some ⟨gW, 0, none⟩) W.length cW) rfl
      go_wp2_with (first
        | (with_reducible refine load_has (o := ⟨some 159, _, _, _, _, _⟩) rfl 26 (.tmp 8) rfl O rfl hX.out.hG Try.underlying26 rfl (Ob.info26 _ _ _) ?_)
        | fail)
      refine (CM2.out _ hX.out).mono ?_; rintro r v4 hM
      obtain ⟨Bm, rfl, hL⟩ := hM.1 rfl
      have hE := hL.below
      clear hM o0
      replace hB := Lib.hid (hB.out.trans (hE.mono hB.out.size))
      clear CM2 hE hL hX
      go_wp2
      go_ret
      exact ⟨rfl, hB.out⟩
end Go.Proofs.Ytpfgmfiegnkocaa
