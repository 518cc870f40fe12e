/-
  The walk of FileBack.
-/
import Derived.Test.YtmdknjfhdmigdaaFi8
namespace Go.Proofs.Ytmdknjfhdmigdaa
open Go.RowKit
set_option linter.unusedVariables false
set_option linter.unusedSimpArgs false
set_option maxRecDepth 100000
set_option maxHeartbeats 2000000 in
set_option maxRecDepth 100000 in
theorem walk_back (w : World) (A B C : Option Addr) (n c m d k e : Nat) (ws bs : List Int) (ns : List ByteArray) (hW : Wo w A n c ws) (hS : By w B m d bs) (hN : St w C k e ns) (E0 : Option Addr) (l0 h0 : Nat) (bs0 : List Int) (hbe : By w E0 l0 h0 bs0) :
    Calls Try.prog 4 #[.agg #[.slice A n c, .slice B m d, .slice C k e], .slice E0 l0 h0] w fun e w' => e = .returned (.bool true) ∧ Below w.heap.size w w' := by
  have hE0 := Lib.hid hbe
  have hE1 := hbe.take (min l0 400) (by omega)
  have hl4 : min l0 400 ≤ 400 := by omega
  generalize hml : min l0 400 = l1 at *
  replace hml := Lib.hid hml
  generalize bs0.take l1 = be at *
  have hel := hE1.len
  replace hE1 := Lib.hid hE1
  clear hbe
  have hB := ((Kept.refl w).alloc #[.slice A n c, .slice B m d, .slice C k e] 40).below
  have hO := Lib.hid (Has.new #[.slice A n c, .slice B m d, .slice C k e] 40 w)
  have CF := fun w' (hb : Below w.heap.size w w') => Ob.fit_any (hW.below hb) (hS.below hb) (hN.below hb)
  have hF := Ob.fine_fit bs ns hW.rng
  have hWl := Ob.fW_len ws bs
  rw [hW.len] at hF hWl
  generalize Ob.fW ws bs = W at *
  generalize Ob.fS (min n 40) bs = S at *
  generalize Ob.fY (min n 40) ns = Y at *
  generalize min n 40 = n1 at *
  subst hWl
  replace CF := Lib.hid CF
  have hW40 := hF.hn
  have hY8 := hF.hy
  have hS64 : S.length ≤ 65535 := by
    rcases Nat.eq_zero_or_pos S.length with q | q
    · omega
    · have h1 := hF.hR
      have h2 : ∀ j, j < S.length → (j : Int) ≤ S.getD j 0 := fun j => by
        induction j with
        | zero => intro hj; have := Ch.at_ge h1 0 hj; omega
        | succ j ih => intro hj; have := ih (by omega); have := Ch.mono h1 j (j + 1) (by omega) hj; omega
      have h3 := h2 (S.length - 1) (by omega)
      have h4 := Ch.at_ge h1 (S.length - 1) (by omega)
      omega
  replace hF := Lib.hid hF
  clear hW hS hN
  go_enter Try.func4, Try.ntmps4
  go_wp2_with (fail)
  generalize w.alloc (.cells #[.slice A n c, .slice B m d, .slice C k e] 40) = w1 at *
  refine (Fi.shown_any w1).mono ?_; rintro r w2 ⟨rfl, hE⟩
  replace hB := Lib.hid (hB.trans (hE.mono hB.size))
  replace hO := Lib.hid (hO.out.below hE)
  clear hE
  have o0 := hO.out.cell 0 (.slice A n c) rfl
  have o1 := hO.out.cell 1 (.slice B m d) rfl
  have o2 := hO.out.cell 2 (.slice C k e) rfl
  go_wp2_with (fail)
  clear o0 o1 o2
  refine (CF.out w2 hB.out).mono ?_; rintro r w3 ⟨gW, cW, gS, cS, C1, e1, rfl, hP, hQ, hY, hE⟩
  have hA3 := ((Kept.refl w3).alloc #[.slice (some ⟨gW, 0, none⟩) W.length cW, .slice (some ⟨gS, 0, none⟩) S.length cS, .slice C1 Y.length e1] 26).below
  have hX := Lib.hid (show Ob.Own w2.heap.size w3.heap.size (some ⟨gW, 0, none⟩) W.length cW (some ⟨gS, 0, none⟩) S.length cS C1 Y.length e1 W S Y (w3.alloc (.cells #[.slice (some ⟨gW, 0, none⟩) W.length cW, .slice (some ⟨gS, 0, none⟩) S.length cS, .slice C1 Y.length e1] 26)) from ⟨Has.new _ _ _, (hP.on.below hA3), (hQ.on.below hA3), hY.below hA3, hE.size⟩)
  replace hB := Lib.hid ((hB.out.trans (hE.mono hB.out.size)).trans (hA3.mono (Nat.le_trans hB.out.size hE.size)))
  replace hO := (hO.out.below hE).below hA3
  clear hP hQ hY hE hA3
  clear hO CF
  have o0 := hX.out.hG.cell 0 (.slice (some ⟨gW, 0, none⟩) W.length cW) rfl
  have o1 := hX.out.hG.cell 1 (.slice (some ⟨gS, 0, none⟩) S.length cS) rfl
  have o2 := hX.out.hG.cell 2 (.slice C1 Y.length e1) rfl
  go_wp2_with (fail)
  clear o0 o1 o2
  generalize hw4 : w3.alloc (.cells #[.slice (some ⟨gW, 0, none⟩) W.length cW, .slice (some ⟨gS, 0, none⟩) S.length cS, .slice C1 Y.length e1] 26) = w4 at *
  clear hw4
  generalize w3.heap.size = O at *
  have hK := Fi.may_ok hF.out.hr hF.out.ok
  have hZm := Fi.put_len4 (W := W) (S := S) (Y := Y)
  have hZb := Fi.put_byt hK
  have hZl : (Fi.put W S Y).length ≤ 400 := by
    unfold Fi.put
    have h1 := Fi.names_len hK.hN
    rw [List.length_append, List.length_append, Fi.head_len, L.put_len, Ch.pk_len]
    omega
  have hTk := fun r => hK.take r
  rw [hF.out.ok] at hTk
  have hTc := hK.cut
  have CP := fun (v : World) (h1 : Ob.Own w2.heap.size O (some ⟨gW, 0, none⟩) W.length cW (some ⟨gS, 0, none⟩) S.length cS C1 Y.length e1 W S Y v) => Fi.put_any (h1.wo hF.out.hr) h1.in h1.sy hF.out.siz
  rw [hF.out.ok, Fi.put_yes (w := w) hF.out.ok] at CP
  have hT0 := hTk []
  rw [List.append_nil, if_neg (by simp), if_pos rfl] at hT0
  have hTm := hTk be
  rw [if_pos rfl] at hTm
  generalize Fi.put W S Y = Z at *
  replace hTm := Lib.hid hTm
  replace hT0 := Lib.hid hT0
  replace hTc := Lib.hid hTc
  replace hZb := Lib.hid hZb
  clear hK hTk
  refine (CP _ hX.out).mono ?_; rintro r w5 ⟨A5, n5, c5, rfl, hP, hE⟩
  clear CP
  have hP1 := hP.rg.rw (L := 256) hZb.out
  have hn5 := hP1.len
  subst hn5
  replace hB := Lib.hid (hB.out.trans (hE.mono hB.out.size))
  replace hX := Lib.hid (hX.out.below hE)
  replace hP := Lib.hid hP1
  clear hE hP1
  go_wp2_with (fail)
  refine (Fi.take_any hP.out (by omega)).mono ?_; rintro r w7 ⟨A7, n7, c7, B7, m7, d7, C7, k7, f7, rfl, hW7, hS7, hY7, hE⟩
  rw [hT0.out] at hW7 hS7 hY7 ⊢
  rw [show Fi.tE (.ok (W, S, Y)) = 0 from rfl]
  have hA := ((Kept.refl w7).alloc #[.slice A7 n7 c7, .slice B7 m7 d7, .slice C7 k7 f7] 26).below
  have hO7 := Lib.hid (Has.new #[.slice A7 n7 c7, .slice B7 m7 d7, .slice C7 k7 f7] 26 w7)
  have hBx := hB.out.trans (hE.mono hB.out.size)
  replace hB := Lib.hid (hBx.trans (hA.mono hBx.size))
  replace hW7 := Lib.hid (hW7.below hA)
  replace hS7 := Lib.hid (hS7.below hA)
  replace hY7 := Lib.hid (hY7.below hA)
  replace hX := Lib.hid ((hX.out.below hE).below hA)
  replace hP := Lib.hid ((hP.out.below hE).below hA)
  clear hE hA hBx
  go_wp2
  generalize hw8 : w7.alloc (.cells #[.slice A7 n7 c7, .slice B7 m7 d7, .slice C7 k7 f7] 26) = w8 at *
  clear hw8
  generalize w7.heap.size = O7 at *
  go_loopw [11] (fun i wr => ∃ j : Nat, j ≤ Z.length ∧ i = .int .i64 j ∧ Below w8.heap.size w8 wr) (fun i _ => Z.length - (intOf i).toNat)
  case atStart => exact ⟨0, Nat.zero_le _, rfl, Below.refl _ _⟩
  case round =>
    obtain ⟨j, hj, rfl, hEr⟩ := hrel
    have hS8 : w8.heap.size ≤ wr.heap.size := hEr.size
    by_cases d1 : j < Z.length
    · have d2 : (j : Int) < Z.length := by omega
      have hPj := Lib.hid ((hP.out.below hEr).take j (by omega))
      have hTj := Lib.hid (hTc.out j d1)
      have hjc : (j : Int) ≤ c5 := by have := hP.out.le; omega
      replace hEr := Lib.hid hEr
      go_wp2_with (fail)
      refine (Fi.take_any hPj.out (by omega)).mono ?_; rintro r w9 ⟨A9, n9, c9, B9, m9, d9, C9, k9, f9, rfl, hW9, hS9, hY9, hE⟩
      rw [hTj.out]
      rw [show Fi.tE (.error 3) = 3 from rfl]
      have hA := ((Kept.refl w9).alloc #[.slice A9 n9 c9, .slice B9 m9 d9, .slice C9 k9 f9] 26).below
      have hE9 := Lib.hid ((hEr.out.trans (hE.mono hS8)).trans (hA.mono (Nat.le_trans hS8 hE.size)))
      clear hW9 hS9 hY9 hE hA hEr hPj hTj
      go_wp2
      go_roundw
      case rel => exact ⟨j + 1, by omega, by go_num, hE9.out⟩
      case measure => simp [intOf]; omega
    · have d2 : ¬ (j : Int) < Z.length := by omega
      obtain rfl : j = Z.length := by omega
      replace hB := Lib.hid (hB.out.trans (hEr.mono hB.out.size))
      replace hX := Lib.hid (hX.out.below hEr)
      replace hP := Lib.hid (hP.out.below hEr)
      replace hO7 := Lib.hid (hO7.out.below hEr)
      replace hW7 := Lib.hid (hW7.out.below hEr)
      replace hS7 := Lib.hid (hS7.out.below hEr)
      replace hY7 := Lib.hid (hY7.out.below hEr)
      clear hEr
      go_wp2_with (fail)
      refine (Fi.fewOf_any _ E0 l0 h0 bs0 (hE0.out.below hB.out)).mono ?_; rintro r wq ⟨rfl, rfl⟩
      rw [hml.out]
      have hM := Lib.hid (hE1.out.below hB.out)
      have hA := ((Kept.refl wr).alloc #[] 5).below
      have hQ := Lib.hid (Ow.new 5 .u8 wr wr.heap.size (Nat.le_refl _))
      have hPa := Lib.hid (hP.out.below hA)
      have hsa := hA.size
      have hZb2 := Lib.hid (L.byt_append hZb.out hE1.out.rng)
      replace hA := Lib.hid hA
      clear hE0 hE1 hml
      go_wp2_with (first
        | (with_reducible refine append_row (o := ⟨some 55, _, _, _, _, _⟩) (L := 256) Try.underlying27 L.info8 (by omega) rfl (.tmp 53) (.tmp 54) rfl wr.heap.size wr.heap.size 0 0 [] rfl hQ.out A5 Z.length c5 Z rfl hPa.out (by omega) hsa ?_
           intro g10 cap10 w10 hQ10 hG10
           have hA1 := hA.out.grown hG10 hsa (fun q e => by cases e; exact Nat.le_refl _)
           rw [List.nil_append, Nat.zero_add] at hQ10
           rw [Nat.zero_add]
           have hMa := Lib.hid (hM.out.below hA1)
           have hsa1 := hA1.size
           replace hA1 := Lib.hid hA1
           replace hQ10 := Lib.hid hQ10
           clear hG10 hQ hPa hA)
        | (with_reducible refine append_row (o := ⟨some 57, _, _, _, _, _⟩) (L := 256) Try.underlying27 L.info8 (by omega) rfl (.tmp 55) (.tmp 56) rfl wr.heap.size g10 Z.length cap10 Z rfl hQ10.out E0 l1 h0 be rfl hMa.out (by omega) hsa1 ?_
           intro g11 cap11 w11 hQ11 hG11
           have hA2 := Lib.hid (hA1.out.grown hG11 hsa1 (fun q e => by cases e; exact hQ10.out.has.1))
           replace hQ11 := Lib.hid (hQ11.rw (L := 256) hZb2.out)
           clear hG11 hQ10 hMa hA1)
        | fail)
      replace hB := Lib.hid (hB.out.trans (hA2.out.mono hB.out.size))
      replace hX := Lib.hid (hX.out.below hA2.out)
      replace hO7 := Lib.hid (hO7.out.below hA2.out)
      replace hW7 := Lib.hid (hW7.out.below hA2.out)
      replace hS7 := Lib.hid (hS7.out.below hA2.out)
      replace hY7 := Lib.hid (hY7.out.below hA2.out)
      clear hP hM hA2
      refine (Fi.take_any hQ11.out (by omega)).mono ?_; rintro r w12 ⟨A12, n12, c12, B12, m12, d12, C12, k12, f12, rfl, hW12, hS12, hY12, hE⟩
      have hA := ((Kept.refl w12).alloc #[.slice A12 n12 c12, .slice B12 m12 d12, .slice C12 k12 f12] 26).below
      have hO12 := Lib.hid (Has.new #[.slice A12 n12 c12, .slice B12 m12 d12, .slice C12 k12 f12] 26 w12)
      have hBx := hB.out.trans (hE.mono hB.out.size)
      replace hB := Lib.hid (hBx.trans (hA.mono hBx.size))
      replace hW12 := Lib.hid (hW12.below hA)
      replace hS12 := Lib.hid (hS12.below hA)
      replace hY12 := Lib.hid (hY12.below hA)
      replace hX := Lib.hid ((hX.out.below hE).below hA)
      replace hO7 := Lib.hid ((hO7.out.below hE).below hA)
      replace hW7 := Lib.hid ((hW7.out.below hE).below hA)
      replace hS7 := Lib.hid ((hS7.out.below hE).below hA)
      replace hY7 := Lib.hid ((hY7.out.below hE).below hA)
      clear hE hA hBx
      clear hW12 hS12 hY12 hO12
      have hz4 : (Z.length : Int) % 4 = 0 := by omega
      have hz5 : (Z.length : Int).tmod 4 = 0 := by rw [Int.tmod_eq_emod_of_nonneg (by omega)]; exact hz4
      by_cases c9 : 0 < be.length
      · rw [hTm.out, if_pos c9]
        rw [show Fi.tE (.error 4) = 4 from rfl]
        have c10 : (0 : Int) < l1 := by omega
        have o0 := hX.out.hG.cell 0 (.slice (some ⟨gW, 0, none⟩) W.length cW) rfl
        have o1 := hX.out.hG.cell 1 (.slice (some ⟨gS, 0, none⟩) S.length cS) rfl
        have o2 := hX.out.hG.cell 2 (.slice C1 Y.length e1) rfl
        have q0 := hO7.out.cell 0 (.slice A7 n7 c7) rfl
        have q1 := hO7.out.cell 1 (.slice B7 m7 d7) rfl
        have q2 := hO7.out.cell 2 (.slice C7 k7 f7) rfl
        go_wp2_with (fail)
        clear o0 o1 o2 q0 q1 q2
        generalize hw13 : w12.alloc (.cells #[.slice A12 n12 c12, .slice B12 m12 d12, .slice C12 k12 f12] 26) = w13 at *
        clear hw13
        refine (Ob.rsame_any hW7.out hS7.out hY7.out (hX.out.wo hF.out.hr) hX.out.in hX.out.sy).mono ?_; rintro r w14 ⟨rfl, hE⟩
        rw [show Ob.same (Fi.tW (.ok (W, S, Y))) (Fi.tS (.ok (W, S, Y))) (Fi.tY (.ok (W, S, Y))) W S Y = true from Ob.same_self W S Y]
        replace hB := Lib.hid (hB.out.trans (hE.mono hB.out.size))
        clear hE
        go_wp2
        go_ret
        exact ⟨congrArg (fun b => Ending.returned (Value.bool b)) (decide_eq_true (by omega)), hB.out⟩
      · rw [hTm.out, if_neg c9]
        rw [show Fi.tE (.ok (W, S, Y)) = 0 from rfl]
        have c10 : ¬ (0 : Int) < l1 := by omega
        have o0 := hX.out.hG.cell 0 (.slice (some ⟨gW, 0, none⟩) W.length cW) rfl
        have o1 := hX.out.hG.cell 1 (.slice (some ⟨gS, 0, none⟩) S.length cS) rfl
        have o2 := hX.out.hG.cell 2 (.slice C1 Y.length e1) rfl
        have q0 := hO7.out.cell 0 (.slice A7 n7 c7) rfl
        have q1 := hO7.out.cell 1 (.slice B7 m7 d7) rfl
        have q2 := hO7.out.cell 2 (.slice C7 k7 f7) rfl
        go_wp2_with (fail)
        clear o0 o1 o2 q0 q1 q2
        generalize hw13 : w12.alloc (.cells #[.slice A12 n12 c12, .slice B12 m12 d12, .slice C12 k12 f12] 26) = w13 at *
        clear hw13
        refine (Ob.rsame_any hW7.out hS7.out hY7.out (hX.out.wo hF.out.hr) hX.out.in hX.out.sy).mono ?_; rintro r w14 ⟨rfl, hE⟩
        rw [show Ob.same (Fi.tW (.ok (W, S, Y))) (Fi.tS (.ok (W, S, Y))) (Fi.tY (.ok (W, S, Y))) W S Y = true from Ob.same_self W S Y]
        replace hB := Lib.hid (hB.out.trans (hE.mono hB.out.size))
        clear hE
        go_wp2
        go_ret
        exact ⟨congrArg (fun b => Ending.returned (Value.bool (!b))) (decide_eq_false (by omega)), hB.out⟩
end Go.Proofs.Ytmdknjfhdmigdaa
