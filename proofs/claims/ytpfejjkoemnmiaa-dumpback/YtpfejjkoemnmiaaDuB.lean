/-
  The walk of DumpBack.
-/
import Derived.Test.YtpfejjkoemnmiaaM15
import Derived.Test.YtpfejjkoemnmiaaDu8
import Derived.Test.YtpfejjkoemnmiaaOb9
namespace Go.Proofs.Ytpfejjkoemnmiaa
open Go.RowKit
set_option linter.unusedVariables false
set_option linter.unusedSimpArgs false
set_option maxRecDepth 100000
theorem Fi.put_byt {W S : List Int} {Y : List Ob.Y} (h : Fi.Ok W S Y) : L.Byt (Fi.put W S Y) := by
  intro x hx
  unfold Fi.put at hx
  rcases List.mem_append.1 hx with hx | hx
  · rcases List.mem_append.1 hx with hx | hx
    · exact L.put_byt _ x hx
    · exact L.put_byt _ x hx
  · obtain ⟨y, hy, hx⟩ := List.mem_flatMap.1 hx
    unfold Fi.one at hx
    rcases List.mem_append.1 hx with hx | hx
    · exact L.nameB_byt _ (L.bs_rng y.1) (L.name_len (h.hN y hy).1).2 x hx
    · rw [Fi.four_put] at hx; exact L.put_byt _ x hx
set_option maxHeartbeats 8000000 in
set_option maxRecDepth 100000 in
theorem walk_back (w : World) (A B C : Option Addr) (n c m d k e : Nat) (ws bs : List Int) (ns : List ByteArray) (hW : Wo w A n c ws) (hS : By w B m d bs) (hN : St w C k e ns) :
    Calls Try.prog 5 #[.agg #[.slice A n c, .slice B m d, .slice C k e]] w fun e w' => e = .returned (.bool true) ∧ Below w.heap.size w w' := by
  have hB := ((Kept.refl w).alloc #[.slice A n c, .slice B m d, .slice C k e] 45).below
  have hO := Lib.hid (Has.new #[.slice A n c, .slice B m d, .slice C k e] 45 w)
  have CF := fun w' (hb : Below w.heap.size w w') => Ob.fit_any (hW.below hb) (hS.below hb) (hN.below hb)
  have hF := Ob.fine_fit bs ns hW.rng
  have hWl := Ob.fW_len ws bs
  rw [hW.len] at hF hWl
  generalize Ob.fW ws bs = W at *
  generalize Ob.fS (min n 40) bs = S at *
  generalize Ob.fY (min n 40) ns = Y at *
  generalize min n 40 = n1 at *
  subst hWl
  replace CF := Lib.hid CF
  have hW40 := hF.hn
  have hY8 := hF.hy
  have hS64 : S.length ≤ 65535 := by
    rcases Nat.eq_zero_or_pos S.length with q | q
    · omega
    · have h1 := hF.hR
      have h2 : ∀ j, j < S.length → (j : Int) ≤ S.getD j 0 := fun j => by
        induction j with
        | zero => intro hj; have := Ch.at_ge h1 0 hj; omega
        | succ j ih => intro hj; have := ih (by omega); have := Ch.mono h1 j (j + 1) (by omega) hj; omega
      have h3 := h2 (S.length - 1) (by omega)
      have h4 := Ch.at_ge h1 (S.length - 1) (by omega)
      omega
  replace hF := Lib.hid hF
  clear hW hS hN
  go_enter Try.func5, Try.ntmps5
  go_wp2_with (fail)
  generalize w.alloc (.cells #[.slice A n c, .slice B m d, .slice C k e] 45) = w1 at *
  refine (Du.shown_any w1).mono ?_; rintro r w2 ⟨rfl, hE⟩
  replace hB := Lib.hid (hB.trans (hE.mono hB.size))
  replace hO := Lib.hid (hO.out.below hE)
  clear hE
  have o0 := hO.out.cell 0 (.slice A n c) rfl
  have o1 := hO.out.cell 1 (.slice B m d) rfl
  have o2 := hO.out.cell 2 (.slice C k e) rfl
  go_wp2_with (fail)
  clear o0 o1 o2
  refine (CF.out w2 hB.out).mono ?_; rintro r w3 ⟨gW, cW, gS, cS, C1, e1, rfl, hP, hQ, hY, hE⟩
  have hA3 := ((Kept.refl w3).alloc #[.slice (some ⟨gW, 0, none⟩) W.length cW, .slice (some ⟨gS, 0, none⟩) S.length cS, .slice C1 Y.length e1] 26).below
  have hX := Lib.hid (show Ob.Own w2.heap.size w3.heap.size (some ⟨gW, 0, none⟩) W.length cW (some ⟨gS, 0, none⟩) S.length cS C1 Y.length e1 W S Y (w3.alloc (.cells #[.slice (some ⟨gW, 0, none⟩) W.length cW, .slice (some ⟨gS, 0, none⟩) S.length cS, .slice C1 Y.length e1] 26)) from ⟨Has.new _ _ _, (hP.on.below hA3), (hQ.on.below hA3), hY.below hA3, hE.size⟩)
  replace hB := Lib.hid ((hB.out.trans (hE.mono hB.out.size)).trans (hA3.mono (Nat.le_trans hB.out.size hE.size)))
  replace hO := (hO.out.below hE).below hA3
  clear hP hQ hY hE hA3
  clear hO CF
  have o0 := hX.out.hG.cell 0 (.slice (some ⟨gW, 0, none⟩) W.length cW) rfl
  have o1 := hX.out.hG.cell 1 (.slice (some ⟨gS, 0, none⟩) S.length cS) rfl
  have o2 := hX.out.hG.cell 2 (.slice C1 Y.length e1) rfl
  go_wp2_with (fail)
  clear o0 o1 o2
  generalize hw4 : w3.alloc (.cells #[.slice (some ⟨gW, 0, none⟩) W.length cW, .slice (some ⟨gS, 0, none⟩) S.length cS, .slice C1 Y.length e1] 26) = w4 at *
  clear hw4
  generalize w3.heap.size = O at *
  have hK := Fi.may_ok hF.out.hr hF.out.ok
  have hZb := Fi.put_byt hK
  have hZl : (Fi.put W S Y).length ≤ 400 := by
    unfold Fi.put
    have h1 := Fi.names_len hK.hN
    rw [List.length_append, List.length_append, Fi.head_len, L.put_len, Ch.pk_len]
    omega
  have hZt := hK.take []
  rw [hF.out.ok, List.append_nil, if_neg (by simp), if_pos rfl] at hZt
  have CF2 := fun (v : World) (A' B' C' : Option Addr) (n' c' m' d' k' e' : Nat) (h1 : Wo v A' n' c' W) (h2 : In v B' m' d' S) (h3 : Sy v C' k' e' Y) => Fi.put_any h1 h2 h3 hF.out.siz
  rw [hF.out.ok, Fi.put_yes (w := w) hF.out.ok] at CF2
  generalize Fi.put W S Y = Z at *
  have CZ := fun (v : World) (A' : Option Addr) (n' c' : Nat) (h1 : By v A' n' c' Z) => Fi.take_any h1 (by have := h1.len; omega)
  rw [hZt] at CZ
  replace hZb := Lib.hid hZb
  replace CF2 := Lib.hid CF2
  replace CZ := Lib.hid CZ
  clear hZt
  have hTl : (Du.put W S Y).length ≤ 14 * W.length + 27 * Y.length := by
    have h1 := Du.wls_len (S := S) W 0
    have h2 := Du.names_len hK.hN Y.length
    rw [List.take_of_length_le (Nat.le_refl _)] at h2
    rw [Du.put_parts, List.length_append]
    omega
  have hTb := Du.put_byt W S Y
  have hTt := Du.take_put hK hF.out.ok
  have CP := fun (v : World) (A' B' C' : Option Addr) (n' c' m' d' k' e' : Nat) (h1 : Wo v A' n' c' W) (h2 : In v B' m' d' S) (h3 : Sy v C' k' e' Y) => Du.put_any h1 h2 h3 hF.out.siz
  rw [hF.out.ok, Du.put_yes hF.out.ok] at CP
  have hTs := L.bs_str _ hTb
  have hTz : (strOfNums (Du.put W S Y)).size ≤ 1000000 := by rw [strOfNums_size]; omega
  rw [← hTs] at hTt
  generalize strOfNums (Du.put W S Y) = T at *
  have CT := fun v => Du.take_any T hTz v
  rw [hTt] at CT
  replace CP := Lib.hid CP
  replace CT := Lib.hid CT
  clear hTt hTs hTz hTb hTl hK
  refine (CP.out _ _ _ _ _ _ _ _ _ _ (hX.out.wo hF.out.hr) hX.out.in hX.out.sy).mono ?_; rintro r w5 ⟨rfl, hE⟩
  replace hB := Lib.hid (hB.out.trans (hE.mono hB.out.size))
  replace hX := Lib.hid (hX.out.below hE)
  clear hE
  go_wp2_with (fail)
  refine (CT.out w5).mono ?_
  rintro r w6 ⟨A6, n6, c6, B6, m6, d6, C6, k6, f6, rfl, hW6, hS6, hY6, hE⟩
  rw [show Fi.tE (.ok (W, S, Y)) = 0 from rfl]
  have hA := ((Kept.refl w6).alloc #[.slice A6 n6 c6, .slice B6 m6 d6, .slice C6 k6 f6] 26).below
  have hO6 := Lib.hid (Has.new #[.slice A6 n6 c6, .slice B6 m6 d6, .slice C6 k6 f6] 26 w6)
  have hBx := hB.out.trans (hE.mono hB.out.size)
  replace hB := Lib.hid (hBx.trans (hA.mono hBx.size))
  replace hW6 := Lib.hid (hW6.below hA)
  replace hS6 := Lib.hid (hS6.below hA)
  replace hY6 := Lib.hid (hY6.below hA)
  replace hX := Lib.hid ((hX.out.below hE).below hA)
  clear hE hA hBx
  have o0 := hX.out.hG.cell 0 (.slice (some ⟨gW, 0, none⟩) W.length cW) rfl
  have o1 := hX.out.hG.cell 1 (.slice (some ⟨gS, 0, none⟩) S.length cS) rfl
  have o2 := hX.out.hG.cell 2 (.slice C1 Y.length e1) rfl
  go_wp2_with (fail)
  clear o0 o1 o2
  generalize hwG : w6.alloc (.cells #[.slice A6 n6 c6, .slice B6 m6 d6, .slice C6 k6 f6] 26) = w7 at *
  clear hwG
  refine (CF2.out _ _ _ _ _ _ _ _ _ _ (hX.out.wo hF.out.hr) hX.out.in hX.out.sy).mono ?_; rintro r w8 ⟨A8, n8, c8, rfl, hP, hE⟩
  have hP8 := Lib.hid (hP.rg.rw (L := 256) hZb.out)
  clear hP
  replace hB := Lib.hid (hB.out.trans (hE.mono hB.out.size))
  replace hX := Lib.hid (hX.out.below hE)
  replace hO6 := Lib.hid (hO6.out.below hE)
  replace hW6 := Lib.hid (hW6.out.below hE)
  replace hS6 := Lib.hid (hS6.out.below hE)
  replace hY6 := Lib.hid (hY6.out.below hE)
  clear hE
  go_wp2_with (fail)
  refine (CZ.out w8 _ _ _ hP8.out).mono ?_
  rintro r w9 ⟨A9, n9, c9, B9, m9, d9, C9, k9, f9, rfl, hW9, hS9, hY9, hE⟩
  rw [show Fi.tE (.ok (W, S, Y)) = 0 from rfl]
  have hA := ((Kept.refl w9).alloc #[.slice A9 n9 c9, .slice B9 m9 d9, .slice C9 k9 f9] 26).below
  have hO9 := Lib.hid (Has.new #[.slice A9 n9 c9, .slice B9 m9 d9, .slice C9 k9 f9] 26 w9)
  have hBx := hB.out.trans (hE.mono hB.out.size)
  replace hB := Lib.hid (hBx.trans (hA.mono hBx.size))
  replace hW9 := Lib.hid (hW9.below hA)
  replace hS9 := Lib.hid (hS9.below hA)
  replace hY9 := Lib.hid (hY9.below hA)
  replace hX := Lib.hid ((hX.out.below hE).below hA)
  replace hO6 := Lib.hid ((hO6.out.below hE).below hA)
  replace hW6 := Lib.hid ((hW6.out.below hE).below hA)
  replace hS6 := Lib.hid ((hS6.out.below hE).below hA)
  replace hY6 := Lib.hid ((hY6.out.below hE).below hA)
  replace hP8 := Lib.hid ((hP8.out.below hE).below hA)
  clear hE hA hBx
  have o0 := hO9.out.cell 0 (.slice A9 n9 c9) rfl
  have o1 := hO9.out.cell 1 (.slice B9 m9 d9) rfl
  have o2 := hO9.out.cell 2 (.slice C9 k9 f9) rfl
  go_wp2_with (fail)
  clear o0 o1 o2
  generalize hwG : w9.alloc (.cells #[.slice A9 n9 c9, .slice B9 m9 d9, .slice C9 k9 f9] 26) = w10 at *
  clear hwG
  refine (CP.out _ _ _ _ _ _ _ _ _ _ hW9.out hS9.out hY9.out).mono ?_; rintro r w11 ⟨rfl, hE⟩
  replace hB := Lib.hid (hB.out.trans (hE.mono hB.out.size))
  replace hX := Lib.hid (hX.out.below hE)
  replace hO6 := Lib.hid (hO6.out.below hE)
  replace hW6 := Lib.hid (hW6.out.below hE)
  replace hS6 := Lib.hid (hS6.out.below hE)
  replace hY6 := Lib.hid (hY6.out.below hE)
  replace hP8 := Lib.hid (hP8.out.below hE)
  clear hE
  clear hO9 hW9 hS9 hY9
  go_wp2_with (fail)
  refine (CT.out w11).mono ?_
  rintro r w12 ⟨A12, n12, c12, B12, m12, d12, C12, k12, f12, rfl, hW12, hS12, hY12, hE⟩
  rw [show Fi.tE (.ok (W, S, Y)) = 0 from rfl]
  have hA := ((Kept.refl w12).alloc #[.slice A12 n12 c12, .slice B12 m12 d12, .slice C12 k12 f12] 26).below
  have hO12 := Lib.hid (Has.new #[.slice A12 n12 c12, .slice B12 m12 d12, .slice C12 k12 f12] 26 w12)
  have hBx := hB.out.trans (hE.mono hB.out.size)
  replace hB := Lib.hid (hBx.trans (hA.mono hBx.size))
  replace hW12 := Lib.hid (hW12.below hA)
  replace hS12 := Lib.hid (hS12.below hA)
  replace hY12 := Lib.hid (hY12.below hA)
  replace hX := Lib.hid ((hX.out.below hE).below hA)
  replace hO6 := Lib.hid ((hO6.out.below hE).below hA)
  replace hW6 := Lib.hid ((hW6.out.below hE).below hA)
  replace hS6 := Lib.hid ((hS6.out.below hE).below hA)
  replace hY6 := Lib.hid ((hY6.out.below hE).below hA)
  replace hP8 := Lib.hid ((hP8.out.below hE).below hA)
  clear hE hA hBx
  have o0 := hO12.out.cell 0 (.slice A12 n12 c12) rfl
  have o1 := hO12.out.cell 1 (.slice B12 m12 d12) rfl
  have o2 := hO12.out.cell 2 (.slice C12 k12 f12) rfl
  go_wp2_with (fail)
  clear o0 o1 o2
  generalize hwG : w12.alloc (.cells #[.slice A12 n12 c12, .slice B12 m12 d12, .slice C12 k12 f12] 26) = w13 at *
  clear hwG
  refine (CF2.out _ _ _ _ _ _ _ _ _ _ hW12.out hS12.out hY12.out).mono ?_; rintro r w14 ⟨A14, n14, c14, rfl, hP, hE⟩
  have hP14 := Lib.hid (hP.rg.rw (L := 256) hZb.out)
  clear hP
  replace hB := Lib.hid (hB.out.trans (hE.mono hB.out.size))
  replace hX := Lib.hid (hX.out.below hE)
  replace hO6 := Lib.hid (hO6.out.below hE)
  replace hW6 := Lib.hid (hW6.out.below hE)
  replace hS6 := Lib.hid (hS6.out.below hE)
  replace hY6 := Lib.hid (hY6.out.below hE)
  replace hP8 := Lib.hid (hP8.out.below hE)
  clear hE
  clear hO12 hW12 hS12 hY12
  have o0 := hX.out.hG.cell 0 (.slice (some ⟨gW, 0, none⟩) W.length cW) rfl
  have o1 := hX.out.hG.cell 1 (.slice (some ⟨gS, 0, none⟩) S.length cS) rfl
  have o2 := hX.out.hG.cell 2 (.slice C1 Y.length e1) rfl
  have q0 := hO6.out.cell 0 (.slice A6 n6 c6) rfl
  have q1 := hO6.out.cell 1 (.slice B6 m6 d6) rfl
  have q2 := hO6.out.cell 2 (.slice C6 k6 f6) rfl
  go_wp2_with (fail)
  clear o0 o1 o2 q0 q1 q2
  refine (Ob.same_any hW6.out hS6.out hY6.out (hX.out.wo hF.out.hr) hX.out.in hX.out.sy).mono ?_; rintro r w15 ⟨rfl, hE⟩
  rw [show Ob.same (Fi.tW (.ok (W, S, Y))) (Fi.tS (.ok (W, S, Y))) (Fi.tY (.ok (W, S, Y))) W S Y = true from Ob.same_self W S Y]
  replace hB := Lib.hid (hB.out.trans (hE.mono hB.out.size))
  replace hP8 := Lib.hid (hP8.out.below hE)
  replace hP14 := Lib.hid (hP14.out.below hE)
  clear hE
  go_wp2_with (first
    | (with_reducible refine want_do (o := ⟨some 103, _, _, _, _, _⟩) rfl (exec_text Try.underlying42 Try.underlying5 Try.underlying9 (.tmp 102) rfl rfl hP8.out) ?_)
    | (with_reducible refine want_do (o := ⟨some 105, _, _, _, _, _⟩) rfl (exec_text Try.underlying42 Try.underlying5 Try.underlying9 (.tmp 104) rfl rfl hP14.out) ?_)
    | fail)
  go_ret
  exact ⟨rfl, hB.out⟩
end Go.Proofs.Ytpfejjkoemnmiaa
