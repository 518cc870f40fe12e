/-
  The walk of ObjectSpoilt.
-/
import Derived.Test.YthnpdlejgpcgoaaObW
namespace Go.Proofs.Ythnpdlejgpcgoaa
open Go.RowKit
set_option linter.unusedVariables false
set_option linter.unusedSimpArgs false
set_option maxRecDepth 100000
set_option maxHeartbeats 8000000 in
set_option maxRecDepth 100000 in
theorem walk_spoilt (w : World) (A B C : Option Addr) (n c m d k e : Nat) (ws bs : List Int) (ns : List ByteArray) (hW : Wo w A n c ws) (hS : By w B m d bs) (hN : St w C k e ns) (a1 : Int) (l1 : 0 ≤ a1) (u1 : a1 ≤ 255) (a2 : Int) (l2 : 0 ≤ a2) (u2 : a2 ≤ 255) :
    Calls Try.prog 4 #[.agg #[.slice A n c, .slice B m d, .slice C k e], .int .u8 a1, .int .u8 a2] w fun e w' => e = .returned (.bool true) ∧ Below w.heap.size w w' := by
  have hB := ((Kept.refl w).alloc #[.slice A n c, .slice B m d, .slice C k e] 35).below
  have hO := Lib.hid (Has.new #[.slice A n c, .slice B m d, .slice C k e] 35 w)
  have CF := fun w' (hb : Below w.heap.size w w') => Ob.fit_any (hW.below hb) (hS.below hb) (hN.below hb)
  have hF := Ob.fine_fit bs ns hW.rng
  have hWl := Ob.fW_len ws bs
  rw [hW.len] at hF hWl
  generalize Ob.fW ws bs = W at *
  generalize Ob.fS (min n 40) bs = S at *
  generalize Ob.fY (min n 40) ns = Y at *
  generalize min n 40 = n1 at *
  subst hWl
  replace CF := Lib.hid CF
  have hW40 := hF.hn
  have hY8 := hF.hy
  have hS64 : S.length ≤ 65535 := by
    rcases Nat.eq_zero_or_pos S.length with q | q
    · omega
    · have h1 := hF.hR
      have h2 : ∀ j, j < S.length → (j : Int) ≤ S.getD j 0 := fun j => by
        induction j with
        | zero => intro hj; have := Ch.at_ge h1 0 hj; omega
        | succ j ih => intro hj; have := ih (by omega); have := Ch.mono h1 j (j + 1) (by omega) hj; omega
      have h3 := h2 (S.length - 1) (by omega)
      have h4 := Ch.at_ge h1 (S.length - 1) (by omega)
      omega
  replace hF := Lib.hid hF
  clear hW hS hN
  go_enter Try.func4, Try.ntmps4
  go_wp2_with (fail)
  generalize w.alloc (.cells #[.slice A n c, .slice B m d, .slice C k e] 35) = w1 at *
  refine (Ob.shown_any w1).mono ?_; rintro r w2 ⟨rfl, hE⟩
  replace hB := Lib.hid (hB.trans (hE.mono hB.size))
  replace hO := Lib.hid (hO.out.below hE)
  clear hE
  have o0 := hO.out.cell 0 (.slice A n c) rfl
  have o1 := hO.out.cell 1 (.slice B m d) rfl
  have o2 := hO.out.cell 2 (.slice C k e) rfl
  go_wp2_with (fail)
  clear o0 o1 o2
  refine (CF.out w2 hB.out).mono ?_; rintro r w3 ⟨gW, cW, gS, cS, C1, e1, rfl, hP, hQ, hY, hE⟩
  have hA3 := ((Kept.refl w3).alloc #[.slice (some ⟨gW, 0, none⟩) W.length cW, .slice (some ⟨gS, 0, none⟩) S.length cS, .slice C1 Y.length e1] 26).below
  have hX := Lib.hid (show Ob.Own w2.heap.size w3.heap.size (some ⟨gW, 0, none⟩) W.length cW (some ⟨gS, 0, none⟩) S.length cS C1 Y.length e1 W S Y (w3.alloc (.cells #[.slice (some ⟨gW, 0, none⟩) W.length cW, .slice (some ⟨gS, 0, none⟩) S.length cS, .slice C1 Y.length e1] 26)) from ⟨Has.new _ _ _, (hP.on.below hA3), (hQ.on.below hA3), hY.below hA3, hE.size⟩)
  replace hB := Lib.hid ((hB.out.trans (hE.mono hB.out.size)).trans (hA3.mono (Nat.le_trans hB.out.size hE.size)))
  replace hO := (hO.out.below hE).below hA3
  clear hP hQ hY hE hA3
  have o0 := hO.cell 0 (.slice A n c) rfl
  have o1 := hO.cell 1 (.slice B m d) rfl
  have o2 := hO.cell 2 (.slice C k e) rfl
  go_wp2_with (fail)
  clear o0 o1 o2 hO
  generalize hw4 : w3.alloc (.cells #[.slice (some ⟨gW, 0, none⟩) W.length cW, .slice (some ⟨gS, 0, none⟩) S.length cS, .slice C1 Y.length e1] 26) = w4 at *
  clear hw4
  generalize w3.heap.size = O at *
  refine (CF.out w4 hB.out).mono ?_; rintro r w5 ⟨gV, cV, gT, cT, C2, e2, rfl, hP, hQ, hY, hE⟩
  have hA3 := ((Kept.refl w5).alloc #[.slice (some ⟨gV, 0, none⟩) W.length cV, .slice (some ⟨gT, 0, none⟩) S.length cT, .slice C2 Y.length e2] 26).below
  have hZ := Lib.hid (show Ob.Own w4.heap.size w5.heap.size (some ⟨gV, 0, none⟩) W.length cV (some ⟨gT, 0, none⟩) S.length cT C2 Y.length e2 W S Y (w5.alloc (.cells #[.slice (some ⟨gV, 0, none⟩) W.length cV, .slice (some ⟨gT, 0, none⟩) S.length cT, .slice C2 Y.length e2] 26)) from ⟨Has.new _ _ _, (hP.on.below hA3), (hQ.on.below hA3), hY.below hA3, hE.size⟩)
  have hEx := Lib.hid (hE.trans (hA3.mono hE.size))
  have hX6 := Lib.hid ((hX.out.below hE).below hA3)
  clear hP hQ hY hE hA3 CF
  have o0 := hX6.out.hG.cell 0 (.slice (some ⟨gW, 0, none⟩) W.length cW) rfl
  have o1 := hX6.out.hG.cell 1 (.slice (some ⟨gS, 0, none⟩) S.length cS) rfl
  have o2 := hX6.out.hG.cell 2 (.slice C1 Y.length e1) rfl
  go_wp2_with (fail)
  clear o0 o1 o2
  generalize hw6 : w5.alloc (.cells #[.slice (some ⟨gV, 0, none⟩) W.length cV, .slice (some ⟨gT, 0, none⟩) S.length cT, .slice C2 Y.length e2] 26) = w6 at *
  clear hw6
  generalize w5.heap.size = U at *
  refine (Ob.may_any (hX6.out.wo hF.out.hr) hX6.out.in hX6.out.sy hF.out.siz).mono ?_; rintro r w7 ⟨rfl, hE⟩
  rw [hF.out.ok]
  replace hX6 := Lib.hid (hX6.out.below hE)
  replace hZ := Lib.hid (hZ.out.below hE)
  replace hEx := Lib.hid (hEx.out.trans (hE.mono hEx.out.size))
  clear hE
  have o0 := hX6.out.hG.cell 0 (.slice (some ⟨gW, 0, none⟩) W.length cW) rfl
  have o1 := hX6.out.hG.cell 1 (.slice (some ⟨gS, 0, none⟩) S.length cS) rfl
  have o2 := hX6.out.hG.cell 2 (.slice C1 Y.length e1) rfl
  have p0 := hZ.out.hG.cell 0 (.slice (some ⟨gV, 0, none⟩) W.length cV) rfl
  have p1 := hZ.out.hG.cell 1 (.slice (some ⟨gT, 0, none⟩) S.length cT) rfl
  have p2 := hZ.out.hG.cell 2 (.slice C2 Y.length e2) rfl
  go_wp2_with (fail)
  clear o0 o1 o2 p0 p1 p2
  refine (Ob.same_any (hX6.out.wo hF.out.hr) hX6.out.in hX6.out.sy (hZ.out.wo hF.out.hr) hZ.out.in hZ.out.sy).mono ?_; rintro r w8 ⟨rfl, hE⟩
  rw [Ob.same_self]
  replace hZ := Lib.hid (hZ.out.below hE)
  replace hEx := Lib.hid (hEx.out.trans (hE.mono hEx.out.size))
  clear hE hX6
  rcases (show a1 % 7 = 0 ∨ a1 % 7 = 1 ∨ a1 % 7 = 2 ∨ a1 % 7 = 3 ∨ a1 % 7 = 4 ∨ a1 % 7 = 5 ∨ a1 % 7 = 6 by omega) with h5 | h5 | h5 | h5 | h5 | h5 | h5
  · have hA4 := ((Kept.refl w8).alloc #[.int .i64 (W.length : Int)] 3).below
    have hZ4 := hZ.out.below hA4
    have hY4 := Lib.hid (Rg.one (Has.new #[.int .i64 (W.length : Int)] 3 w8))
    have hE4 := Lib.hid (hEx.out.trans (hA4.mono hEx.out.size))
    have hs0 := hZ4.low
    have q0 := hZ.out.hG.cell 0 (.slice (some ⟨gV, 0, none⟩) W.length cV) rfl
    have q1 := hZ.out.hG.cell 1 (.slice (some ⟨gT, 0, none⟩) S.length cT) rfl
    have q2 := hZ.out.hG.cell 2 (.slice C2 Y.length e2) rfl
    have p0 := hZ4.hG.cell 0 (.slice (some ⟨gV, 0, none⟩) W.length cV) rfl
    have p1 := hZ4.hG.cell 1 (.slice (some ⟨gT, 0, none⟩) S.length cT) rfl
    have p2 := hZ4.hG.cell 2 (.slice C2 Y.length e2) rfl
    replace hZ4 := Lib.hid hZ4
    clear hZ hEx hA4
    go_wp2_with (first
      | (with_reducible refine append_on (o := ⟨some 57, _, _, _, _, _⟩) Try.underlying23 Ch.info64 (by omega) rfl (.tmp 54) (.tmp 56) rfl w4.heap.size (some ⟨gT, 0, none⟩) S.length cT S rfl hZ4.out.hQ _ 1 1 [(W.length : Int)] rfl hY4.out (by omega) (by omega) hs0 ?_
         intro g' cap' w9 hO9 hG9
         have f0 := (hZ4.out.hG.grown hG9 (hZ4.out.hQ.ne hZ4.out.hG (by decide))).cell 1 (.slice (some ⟨gT, 0, none⟩) S.length cT) rfl
         have f1 := (hZ4.out.hG.grown hG9 (hZ4.out.hQ.ne hZ4.out.hG (by decide))).free 1
         have hZF := Lib.hid (hZ4.out.grow1 hG9 hO9.on)
         have hEF := Lib.hid ((hE4.out.grown hG9 hs0 hZ4.out.hQ.from).setCell (p := ⟨U, 1, none⟩) hZ4.out.hO (.slice (some ⟨g', 0, none⟩) (S.length + 1) cap'))
         have R := Lib.hid (Ob.same_not (ws := W) (ys := Y) (ws' := W) (ys' := Y) (Or.inr (Or.inl (Ob.ne_longer (l := S) (m := S ++ [(W.length : Int)]) (by simp)))))
         have RM := Lib.hid hF.out.s0
         clear hO9 hG9 hs0 hE4 hY4 hZ4 p0 p1 p2 q0 q1 q2
         have hXF := Lib.hid (hX.out.below hEF.out)
         have hr' : ∀ x ∈ W, 0 ≤ x ∧ x < 4294967296 := hF.out.hr
         have hz' : ∀ y ∈ Y, y.1.size ≤ 1000000 := hF.out.siz
         replace hr' := Lib.hid hr'
         replace hz' := Lib.hid hz'
         replace hB := Lib.hid (hB.out.trans (hEF.out.mono hB.out.size))
         clear hEF hX
         have p0 := hZF.out.hG.cell 0 (.slice (some ⟨gV, 0, none⟩) W.length cV) rfl
         have p1 := hZF.out.hG.cell 1 (.slice (some ⟨g', 0, none⟩) (S.length + 1) cap') rfl
         have p2 := hZF.out.hG.cell 2 (.slice C2 Y.length e2) rfl)
      | fail)
    clear p0 p1 p2
    refine (Ob.may_any (hZF.out.wo hr'.out) hZF.out.in hZF.out.sy hz'.out).mono ?_; rintro r w30 ⟨rfl, hE⟩
    rw [RM.out]
    replace hB := Lib.hid (hB.out.trans (hE.mono hB.out.size))
    replace hXF := Lib.hid (hXF.out.below hE)
    replace hZF := Lib.hid (hZF.out.below hE)
    clear hE
    have o0 := hXF.out.hG.cell 0 (.slice (some ⟨gW, 0, none⟩) W.length cW) rfl
    have o1 := hXF.out.hG.cell 1 (.slice (some ⟨gS, 0, none⟩) S.length cS) rfl
    have o2 := hXF.out.hG.cell 2 (.slice C1 Y.length e1) rfl
    have p0 := hZF.out.hG.cell 0 (.slice (some ⟨gV, 0, none⟩) W.length cV) rfl
    have p1 := hZF.out.hG.cell 1 (.slice (some ⟨g', 0, none⟩) (S.length + 1) cap') rfl
    have p2 := hZF.out.hG.cell 2 (.slice C2 Y.length e2) rfl
    go_wp2_with (fail)
    clear o0 o1 o2 p0 p1 p2
    refine (Ob.same_any (hXF.out.wo hF.out.hr) hXF.out.in hXF.out.sy (hZF.out.wo hr'.out) hZF.out.in hZF.out.sy).mono ?_; rintro r w31 ⟨rfl, hE⟩
    rw [R.out]
    replace hB := Lib.hid (hB.out.trans (hE.mono hB.out.size))
    clear hE
    go_wp2
    go_ret
    exact ⟨rfl, hB.out⟩
  · by_cases dd : 0 < S.length
    · have d0 : (0 : Int) < S.length := by omega
      obtain ⟨j, hj⟩ := Int.eq_ofNat_of_zero_le (Int.emod_nonneg a2 (show (S.length : Int) ≠ 0 by omega))
      have hj2 := Int.emod_lt_of_pos a2 (show (0 : Int) < S.length by omega)
      rw [hj] at hj2
      have hjn : j < S.length := by omega
      obtain ⟨q, hs1, hs2, hs3⟩ := Ch.site_nat hF.out.hR j hjn
      have d3 : (q : Int) < W.length := by omega
      have p0 := hZ.out.hG.cell 0 (.slice (some ⟨gV, 0, none⟩) W.length cV) rfl
      have p1 := hZ.out.hG.cell 1 (.slice (some ⟨gT, 0, none⟩) S.length cT) rfl
      have p2 := hZ.out.hG.cell 2 (.slice C2 Y.length e2) rfl
      go_wp2_with (fail)
      clear p0 p1 p2
      refine WS.start 17 (by kernel_rfl) (by kernel_rfl) ?_
      intro w9 hw5
      have hZd := hZ.out.drew
      rw [← hw5] at hZd
      have p0 := hZd.hG.cell 0 (.slice (some ⟨gV, 0, none⟩) W.length cV) rfl
      have p1 := hZd.hG.cell 1 (.slice (some ⟨gT, 0, none⟩) S.length cT) rfl
      have p2 := hZd.hG.cell 2 (.slice C2 Y.length e2) rfl
      have g1 := (show Ow 3 .i64 _ gT S.length cT S w9 from hZd.hQ).at j hjn
      rw [hs1] at g1
      have hEF := Lib.hid (show Below w4.heap.size w4 w9 by rw [hw5]; exact hEx.out.drew)
      have g2 := (show Ow 37 .u32 _ gV W.length cV W w9 from hZd.hP).at q hs2
      have f2 := (show Ow 37 .u32 _ gV W.length cV W w9 from hZd.hP).free q
      replace hZd := Lib.hid hZd
      have q1 : IntKind.i64.wrap (4 * (W.length : Int)) = 4 * W.length := by rw [IntKind.wrap_i64]; omega
      have q2 : IntKind.i64.wrap (4 * (W.length : Int) + 1) = 4 * W.length + 1 := by rw [IntKind.wrap_i64]; omega
      have q3 : IntKind.u32.wrap (4 * (W.length : Int) + 1) = 4 * W.length + 1 := by rw [IntKind.wrap_u32]; omega
      have qa : IntKind.i64.wrap a2 = a2 := by rw [IntKind.wrap_i64]; omega
      have qz : (S = []) = False := eq_false (fun h => by rw [h] at hjn; simp at hjn)
      have qt : a2.tmod (S.length : Int) = j := by rw [Int.tmod_eq_emod_of_nonneg l2, hj]
      have qw : IntKind.i64.wrap (j : Int) = j := by rw [IntKind.wrap_i64]; omega
      clear hZ hEx
      clear hw5
      simp only [List.take_succ_cons, List.take_zero, List.drop_succ_cons, List.drop_zero]
      refine WS.step rfl (fun K hK => ?_); go_simp; (try (simp only [qa, qz, qt, qw, q1, q2, q3, if_false]; (try go_simp))); refine hK _ ?_; clear hK K
      refine WS.step rfl (fun K hK => ?_); go_simp; (try (simp only [qa, qz, qt, qw, q1, q2, q3, if_false]; (try go_simp))); refine hK _ ?_; clear hK K
      refine WS.step rfl (fun K hK => ?_); go_simp; (try (simp only [qa, qz, qt, qw, q1, q2, q3, if_false]; (try go_simp))); refine hK _ ?_; clear hK K
      refine WS.step rfl (fun K hK => ?_); go_simp; (try (simp only [qa, qz, qt, qw, q1, q2, q3, if_false]; (try go_simp))); refine hK _ ?_; clear hK K
      refine WS.step rfl (fun K hK => ?_); go_simp; (try (simp only [qa, qz, qt, qw, q1, q2, q3, if_false]; (try go_simp))); refine hK _ ?_; clear hK K
      refine WS.step rfl (fun K hK => ?_); go_simp; (try (simp only [qa, qz, qt, qw, q1, q2, q3, if_false]; (try go_simp))); refine hK _ ?_; clear hK K
      refine WS.step rfl (fun K hK => ?_); go_simp; (try (simp only [qa, qz, qt, qw, q1, q2, q3, if_false]; (try go_simp))); refine hK _ ?_; clear hK K
      refine WS.step rfl (fun K hK => ?_); go_simp; (try (simp only [qa, qz, qt, qw, q1, q2, q3, if_false]; (try go_simp))); refine hK _ ?_; clear hK K
      refine WS.step rfl (fun K hK => ?_); go_simp; (try (simp only [qa, qz, qt, qw, q1, q2, q3, if_false]; (try go_simp))); refine hK _ ?_; clear hK K
      refine WS.step rfl (fun K hK => ?_); go_simp; (try (simp only [qa, qz, qt, qw, q1, q2, q3, if_false]; (try go_simp))); refine hK _ ?_; clear hK K
      refine WS.step rfl (fun K hK => ?_); go_simp; (try (simp only [qa, qz, qt, qw, q1, q2, q3, if_false]; (try go_simp))); refine hK _ ?_; clear hK K
      refine WS.step rfl (fun K hK => ?_); go_simp; (try (simp only [qa, qz, qt, qw, q1, q2, q3, if_false]; (try go_simp))); refine hK _ ?_; clear hK K
      refine WS.step rfl (fun K hK => ?_); go_simp; (try (simp only [qa, qz, qt, qw, q1, q2, q3, if_false]; (try go_simp))); refine hK _ ?_; clear hK K
      refine WS.step rfl (fun K hK => ?_); go_simp; (try (simp only [qa, qz, qt, qw, q1, q2, q3, if_false]; (try go_simp))); refine hK _ ?_; clear hK K
      refine WS.step rfl (fun K hK => ?_); go_simp; (try (simp only [qa, qz, qt, qw, q1, q2, q3, if_false]; (try go_simp))); refine hK _ ?_; clear hK K
      refine WS.step rfl (fun K hK => ?_); go_simp; (try (simp only [qa, qz, qt, qw, q1, q2, q3, if_false]; (try go_simp))); refine hK _ ?_; clear hK K
      refine WS.step rfl (fun K hK => ?_); go_simp; (try (simp only [qa, qz, qt, qw, q1, q2, q3, if_false]; (try go_simp))); refine hK _ ?_; clear hK K
      refine WS.nil ?_
      clear qa qz qt qw q1 q2 q3 p0 p1 p2
      have hge := hZd.out.hP.from gV rfl
      have hZF := Lib.hid (hZd.out.word q (4 * (W.length : Int) + 1))
      replace hEF := Lib.hid (hEF.out.setCell (p := ⟨gV, q, none⟩) hge (.int .u32 (4 * (W.length : Int) + 1)))
      have R := Lib.hid (Ob.same_not (ss := S) (ys := Y) (ss' := S) (ys' := Y) (Or.inl (hF.out.s1 j hjn q hs1).2))
      have RM := Lib.hid (hF.out.s1 j hjn q hs1).1
      clear hZd hge hs1
      have hXF := Lib.hid (hX.out.below hEF.out)
      have hr' : ∀ x ∈ (W.set q (4 * (W.length : Int) + 1)), 0 ≤ x ∧ x < 4294967296 := fun x hx => (List.mem_or_eq_of_mem_set hx).elim (hF.out.hr x) (fun e => by rw [e]; omega)
      have hz' : ∀ y ∈ Y, y.1.size ≤ 1000000 := hF.out.siz
      replace hr' := Lib.hid hr'
      replace hz' := Lib.hid hz'
      replace hB := Lib.hid (hB.out.trans (hEF.out.mono hB.out.size))
      clear hEF hX
      have p0 := hZF.out.hG.cell 0 (.slice (some ⟨gV, 0, none⟩) W.length cV) rfl
      have p1 := hZF.out.hG.cell 1 (.slice (some ⟨gT, 0, none⟩) S.length cT) rfl
      have p2 := hZF.out.hG.cell 2 (.slice C2 Y.length e2) rfl
      go_wp2_with (fail)
      clear p0 p1 p2
      refine (Ob.may_any (hZF.out.wo hr'.out) hZF.out.in hZF.out.sy hz'.out).mono ?_; rintro r w30 ⟨rfl, hE⟩
      rw [RM.out]
      replace hB := Lib.hid (hB.out.trans (hE.mono hB.out.size))
      replace hXF := Lib.hid (hXF.out.below hE)
      replace hZF := Lib.hid (hZF.out.below hE)
      clear hE
      have o0 := hXF.out.hG.cell 0 (.slice (some ⟨gW, 0, none⟩) W.length cW) rfl
      have o1 := hXF.out.hG.cell 1 (.slice (some ⟨gS, 0, none⟩) S.length cS) rfl
      have o2 := hXF.out.hG.cell 2 (.slice C1 Y.length e1) rfl
      have p0 := hZF.out.hG.cell 0 (.slice (some ⟨gV, 0, none⟩) W.length cV) rfl
      have p1 := hZF.out.hG.cell 1 (.slice (some ⟨gT, 0, none⟩) S.length cT) rfl
      have p2 := hZF.out.hG.cell 2 (.slice C2 Y.length e2) rfl
      go_wp2_with (fail)
      clear o0 o1 o2 p0 p1 p2
      refine (Ob.same_any (hXF.out.wo hF.out.hr) hXF.out.in hXF.out.sy (hZF.out.wo hr'.out) hZF.out.in hZF.out.sy).mono ?_; rintro r w31 ⟨rfl, hE⟩
      rw [R.out]
      replace hB := Lib.hid (hB.out.trans (hE.mono hB.out.size))
      clear hE
      go_wp2
      go_ret
      exact ⟨rfl, hB.out⟩
    · have d0 : ¬ (0 : Int) < S.length := by omega
      have q0 := hZ.out.hG.cell 0 (.slice (some ⟨gV, 0, none⟩) W.length cV) rfl
      have q1 := hZ.out.hG.cell 1 (.slice (some ⟨gT, 0, none⟩) S.length cT) rfl
      have q2 := hZ.out.hG.cell 2 (.slice C2 Y.length e2) rfl
      have R := Lib.hid (Ob.same_self W S Y)
      have RM := Lib.hid hF.out.ok
      have hEF := hEx
      have hZF := hZ
      clear hEx hZ
      have hXF := Lib.hid (hX.out.below hEF.out)
      have hr' : ∀ x ∈ W, 0 ≤ x ∧ x < 4294967296 := hF.out.hr
      have hz' : ∀ y ∈ Y, y.1.size ≤ 1000000 := hF.out.siz
      replace hr' := Lib.hid hr'
      replace hz' := Lib.hid hz'
      replace hB := Lib.hid (hB.out.trans (hEF.out.mono hB.out.size))
      clear hEF hX
      have p0 := hZF.out.hG.cell 0 (.slice (some ⟨gV, 0, none⟩) W.length cV) rfl
      have p1 := hZF.out.hG.cell 1 (.slice (some ⟨gT, 0, none⟩) S.length cT) rfl
      have p2 := hZF.out.hG.cell 2 (.slice C2 Y.length e2) rfl
      go_wp2_with (fail)
      clear p0 p1 p2
      refine (Ob.may_any (hZF.out.wo hr'.out) hZF.out.in hZF.out.sy hz'.out).mono ?_; rintro r w30 ⟨rfl, hE⟩
      rw [RM.out]
      replace hB := Lib.hid (hB.out.trans (hE.mono hB.out.size))
      replace hXF := Lib.hid (hXF.out.below hE)
      replace hZF := Lib.hid (hZF.out.below hE)
      clear hE
      have o0 := hXF.out.hG.cell 0 (.slice (some ⟨gW, 0, none⟩) W.length cW) rfl
      have o1 := hXF.out.hG.cell 1 (.slice (some ⟨gS, 0, none⟩) S.length cS) rfl
      have o2 := hXF.out.hG.cell 2 (.slice C1 Y.length e1) rfl
      have p0 := hZF.out.hG.cell 0 (.slice (some ⟨gV, 0, none⟩) W.length cV) rfl
      have p1 := hZF.out.hG.cell 1 (.slice (some ⟨gT, 0, none⟩) S.length cT) rfl
      have p2 := hZF.out.hG.cell 2 (.slice C2 Y.length e2) rfl
      go_wp2_with (fail)
      clear o0 o1 o2 p0 p1 p2
      refine (Ob.same_any (hXF.out.wo hF.out.hr) hXF.out.in hXF.out.sy (hZF.out.wo hr'.out) hZF.out.in hZF.out.sy).mono ?_; rintro r w31 ⟨rfl, hE⟩
      rw [R.out]
      replace hB := Lib.hid (hB.out.trans (hE.mono hB.out.size))
      clear hE
      go_wp2
      go_ret
      exact ⟨rfl, hB.out⟩
  · by_cases dd : 0 < S.length
    · have d0 : (0 : Int) < S.length := by omega
      have p0 := hZ.out.hG.cell 0 (.slice (some ⟨gV, 0, none⟩) W.length cV) rfl
      have p1 := hZ.out.hG.cell 1 (.slice (some ⟨gT, 0, none⟩) S.length cT) rfl
      have p2 := hZ.out.hG.cell 2 (.slice C2 Y.length e2) rfl
      go_wp2_with (fail)
      clear p0 p1 p2
      refine wpT.start (T := 7) (S := fun w' => Below w8.drew.heap.size w8.drew w') (by kernel_rfl) ?_
      have hHeld := Below.refl w8.drew.heap.size w8.drew
      have hZd := Lib.hid hZ.out.drew
      have hEd := Lib.hid hEx.out.drew
      have hlow := hZd.out.low
      have RM := Lib.hid (show Ob.may W ([S.getD 0 0] ++ S) Y = 7 from hF.out.s2 (by omega))
      generalize hx0 : S.getD 0 0 = x0 at *
      clear hZ hEx
      generalize w8.drew = w9 at *
      refine wpT.take (i := 0) (oi := { dst := some 88, op := Op.fieldAddr 26 (Operand.tmp 9) 1, type := 0, pos := "law.go:64", after := #[], guard := none }) (v := ?_) rfl (by kernel_rfl) (by kernel_rfl) (by kernel_rfl) (by kernel_rfl) (by kernel_rfl) (fun _ _ _ h => h) (Or.inl ⟨rfl, ?_⟩) hHeld ?_
      rotate_left
      · (intro wz hSw; go_simp; try with_reducible rfl)
      try simp only [Act.put, List.setIfInBounds_toArray, List.set_cons_zero, List.set_cons_succ]
      refine wpT.take (i := 1) (oi := { dst := some 89, op := Op.load 23 (Operand.tmp 88), type := 23, pos := "law.go:64", after := #[{ on := 0, ground := Ground.data }], guard := none }) (v := ?_) rfl (by kernel_rfl) (by kernel_rfl) (by kernel_rfl) (by kernel_rfl) (by kernel_rfl) (fun _ _ _ h => h) (Or.inl ⟨rfl, ?_⟩) hHeld ?_
      rotate_left
      · (intro wz hSw; have o1 := (hZd.out.below hSw).hG.cell 1 (.slice (some ⟨gT, 0, none⟩) S.length cT) rfl; go_simp; try with_reducible rfl)
      try simp only [Act.put, List.setIfInBounds_toArray, List.set_cons_zero, List.set_cons_succ]
      refine wpT.take (i := 2) (oi := { dst := some 90, op := Op.indexAddr 23 (Operand.tmp 89) (Operand.const (Value.int IntKind.i64 0)), type := 0, pos := "law.go:64", after := #[{ on := 1, ground := Ground.data }], guard := none }) (v := ?_) rfl (by kernel_rfl) (by kernel_rfl) (by kernel_rfl) (by kernel_rfl) (by kernel_rfl) (fun _ _ _ h => h) (Or.inl ⟨rfl, ?_⟩) hHeld ?_
      rotate_left
      · (intro wz hSw; go_simp; try with_reducible rfl)
      try simp only [Act.put, List.setIfInBounds_toArray, List.set_cons_zero, List.set_cons_succ]
      refine wpT.take (i := 3) (oi := { dst := some 91, op := Op.load 3 (Operand.tmp 90), type := 3, pos := "law.go:64", after := #[{ on := 2, ground := Ground.data }], guard := none }) (v := ?_) rfl (by kernel_rfl) (by kernel_rfl) (by kernel_rfl) (by kernel_rfl) (by kernel_rfl) (fun _ _ _ h => h) (Or.inl ⟨rfl, ?_⟩) hHeld ?_
      rotate_left
      · (intro wz hSw; have g1 := (show Ow 3 .i64 _ gT S.length cT S wz from (hZd.out.below hSw).hQ).at 0 (by omega); rw [hx0] at g1; go_simp; try with_reducible rfl)
      try simp only [Act.put, List.setIfInBounds_toArray, List.set_cons_zero, List.set_cons_succ]
      refine wpT.take (i := 5) (oi := { dst := some 93, op := Op.fieldAddr 26 (Operand.tmp 9) 1, type := 0, pos := "law.go:64", after := #[], guard := none }) (v := ?_) rfl (by kernel_rfl) (by kernel_rfl) (by kernel_rfl) (by kernel_rfl) (by kernel_rfl) (fun _ _ _ h => h) (Or.inl ⟨rfl, ?_⟩) hHeld ?_
      rotate_left
      · (intro wz hSw; go_simp; try with_reducible rfl)
      try simp only [Act.put, List.setIfInBounds_toArray, List.set_cons_zero, List.set_cons_succ]
      refine wpT.take (i := 6) (oi := { dst := some 94, op := Op.load 23 (Operand.tmp 93), type := 23, pos := "law.go:64", after := #[{ on := 5, ground := Ground.data }], guard := none }) (v := ?_) rfl (by kernel_rfl) (by kernel_rfl) (by kernel_rfl) (by kernel_rfl) (by kernel_rfl) (fun _ _ _ h => h) (Or.inl ⟨rfl, ?_⟩) hHeld ?_
      rotate_left
      · (intro wz hSw; have o1 := (hZd.out.below hSw).hG.cell 1 (.slice (some ⟨gT, 0, none⟩) S.length cT) rfl; go_simp; try with_reducible rfl)
      try simp only [Act.put, List.setIfInBounds_toArray, List.set_cons_zero, List.set_cons_succ]
      refine wpT.one (i := 4) (o := { dst := some 92, op := Op.buildSlice 23 1 #[(0, Operand.tmp 91)], type := 23, pos := "law.go:64", after := #[{ on := 3, ground := Ground.data }], guard := none }) rfl (by kernel_rfl) (fun K hK => ?_)
      go_simp
      have hE := ((Kept.refl w9).alloc #[.int .i64 x0] 3).below
      have hb9 := Lib.hid hE
      have hO9 := Lib.hid (Ow.one 3 .i64 x0 w9 w9.heap.size (Nat.le_refl _))
      generalize w9.alloc (.cells #[.int .i64 x0] 3) = w10 at *
      clear hHeld
      refine hK.out _ _ hE (fun hHeld => ?_)
      clear hK K hE
      try simp only [Act.put, List.setIfInBounds_toArray, List.set_cons_zero, List.set_cons_succ]
      refine wpT.late (i := 7) (o := { dst := some 95, op := Op.call { callee := Callee.builtin Builtin.append, args := #[Operand.tmp 92, Operand.tmp 94], argTypes := #[23, 23] }, type := 23, pos := "law.go:64", after := #[{ on := 4, ground := Ground.data }, { on := 6, ground := Ground.data }], guard := none }) (by omega) rfl (by kernel_rfl) (fun K hK => ?_)
      refine append_rgK Try.underlying23 Ch.info64 (by omega) (.tmp 92) (.tmp 94) rfl w9.heap.size w9.heap.size 1 1 [x0] rfl hO9.out (some ⟨gT, 0, none⟩) S.length cT S rfl (hZd.out.hQ.below hb9.out).rg (by omega) hb9.out.size ?_
      intro g' cap' w11 hO11 hG11
      have hE := hb9.out.grown hG11 hb9.out.size (fun q e => by cases e; exact Nat.le_refl _)
      have hZ4 := hZd.out.below hE
      have f0 := hZ4.hG.cell 1 (.slice (some ⟨gT, 0, none⟩) S.length cT) rfl
      have f1 := hZ4.hG.free 1
      have hZF := Lib.hid (hZ4.row1 (hO11.on.lower hlow))
      have hEF := Lib.hid ((hEd.out.trans (hE.mono hEd.out.size)).setCell (p := ⟨U, 1, none⟩) hZ4.hO (.slice (some ⟨g', 0, none⟩) (1 + S.length) cap'))
      clear hO9 hG11 hO11 hZ4 hb9 hE hHeld
      refine hK.out _ _ ?_
      clear hK K
      try simp only [Act.put, List.setIfInBounds_toArray, List.set_cons_zero, List.set_cons_succ]
      refine wpT.late (i := 8) (o := { dst := some 96, op := Op.fieldAddr 26 (Operand.tmp 9) 1, type := 0, pos := "law.go:64", after := #[{ on := 0, ground := Ground.phase }, { on := 1, ground := Ground.phase }, { on := 2, ground := Ground.phase }, { on := 3, ground := Ground.phase }, { on := 4, ground := Ground.phase }, { on := 5, ground := Ground.phase }, { on := 6, ground := Ground.phase }, { on := 7, ground := Ground.phase }], guard := none }) (by omega) rfl (by kernel_rfl) (fun K hK => ?_)
      go_simp
      refine hK.out _ _ ?_
      clear hK K
      try simp only [Act.put, List.setIfInBounds_toArray, List.set_cons_zero, List.set_cons_succ]
      refine wpT.late (i := 9) (o := { dst := none, op := Op.store 23 (Operand.tmp 96) (Operand.tmp 95), type := 0, pos := "law.go:64", after := #[{ on := 8, ground := Ground.data }, { on := 7, ground := Ground.data }, { on := 7, ground := Ground.chain }, { on := 0, ground := Ground.phase }, { on := 1, ground := Ground.phase }, { on := 2, ground := Ground.phase }, { on := 3, ground := Ground.phase }, { on := 4, ground := Ground.phase }, { on := 5, ground := Ground.phase }, { on := 6, ground := Ground.phase }, { on := 7, ground := Ground.phase }], guard := none }) (by omega) rfl (by kernel_rfl) (fun K hK => ?_)
      go_simp
      refine hK.out _ _ ?_
      clear hK K
      try simp only [Act.put, List.setIfInBounds_toArray, List.set_cons_zero, List.set_cons_succ]
      refine wpT.done (by kernel_rfl) ?_ _
      have R := Lib.hid (Ob.same_not (ws := W) (ys := Y) (ws' := W) (ys' := Y) (Or.inr (Or.inl (Ob.ne_longer (l := S) (m := [x0] ++ S) (by simp)))))
      clear hZd hEd hlow hx0 f0 f1
      have hXF := Lib.hid (hX.out.below hEF.out)
      have hr' : ∀ x ∈ W, 0 ≤ x ∧ x < 4294967296 := hF.out.hr
      have hz' : ∀ y ∈ Y, y.1.size ≤ 1000000 := hF.out.siz
      replace hr' := Lib.hid hr'
      replace hz' := Lib.hid hz'
      replace hB := Lib.hid (hB.out.trans (hEF.out.mono hB.out.size))
      clear hEF hX
      have p0 := hZF.out.hG.cell 0 (.slice (some ⟨gV, 0, none⟩) W.length cV) rfl
      have p1 := hZF.out.hG.cell 1 (.slice (some ⟨g', 0, none⟩) (1 + S.length) cap') rfl
      have p2 := hZF.out.hG.cell 2 (.slice C2 Y.length e2) rfl
      go_wp2_with (fail)
      clear p0 p1 p2
      refine (Ob.may_any (hZF.out.wo hr'.out) hZF.out.in hZF.out.sy hz'.out).mono ?_; rintro r w30 ⟨rfl, hE⟩
      rw [RM.out]
      replace hB := Lib.hid (hB.out.trans (hE.mono hB.out.size))
      replace hXF := Lib.hid (hXF.out.below hE)
      replace hZF := Lib.hid (hZF.out.below hE)
      clear hE
      have o0 := hXF.out.hG.cell 0 (.slice (some ⟨gW, 0, none⟩) W.length cW) rfl
      have o1 := hXF.out.hG.cell 1 (.slice (some ⟨gS, 0, none⟩) S.length cS) rfl
      have o2 := hXF.out.hG.cell 2 (.slice C1 Y.length e1) rfl
      have p0 := hZF.out.hG.cell 0 (.slice (some ⟨gV, 0, none⟩) W.length cV) rfl
      have p1 := hZF.out.hG.cell 1 (.slice (some ⟨g', 0, none⟩) (1 + S.length) cap') rfl
      have p2 := hZF.out.hG.cell 2 (.slice C2 Y.length e2) rfl
      go_wp2_with (fail)
      clear o0 o1 o2 p0 p1 p2
      refine (Ob.same_any (hXF.out.wo hF.out.hr) hXF.out.in hXF.out.sy (hZF.out.wo hr'.out) hZF.out.in hZF.out.sy).mono ?_; rintro r w31 ⟨rfl, hE⟩
      rw [R.out]
      replace hB := Lib.hid (hB.out.trans (hE.mono hB.out.size))
      clear hE
      go_wp2
      go_ret
      exact ⟨rfl, hB.out⟩
    · have d0 : ¬ (0 : Int) < S.length := by omega
      have q0 := hZ.out.hG.cell 0 (.slice (some ⟨gV, 0, none⟩) W.length cV) rfl
      have q1 := hZ.out.hG.cell 1 (.slice (some ⟨gT, 0, none⟩) S.length cT) rfl
      have q2 := hZ.out.hG.cell 2 (.slice C2 Y.length e2) rfl
      have R := Lib.hid (Ob.same_self W S Y)
      have RM := Lib.hid hF.out.ok
      have hEF := hEx
      have hZF := hZ
      clear hEx hZ
      have hXF := Lib.hid (hX.out.below hEF.out)
      have hr' : ∀ x ∈ W, 0 ≤ x ∧ x < 4294967296 := hF.out.hr
      have hz' : ∀ y ∈ Y, y.1.size ≤ 1000000 := hF.out.siz
      replace hr' := Lib.hid hr'
      replace hz' := Lib.hid hz'
      replace hB := Lib.hid (hB.out.trans (hEF.out.mono hB.out.size))
      clear hEF hX
      have p0 := hZF.out.hG.cell 0 (.slice (some ⟨gV, 0, none⟩) W.length cV) rfl
      have p1 := hZF.out.hG.cell 1 (.slice (some ⟨gT, 0, none⟩) S.length cT) rfl
      have p2 := hZF.out.hG.cell 2 (.slice C2 Y.length e2) rfl
      go_wp2_with (fail)
      clear p0 p1 p2
      refine (Ob.may_any (hZF.out.wo hr'.out) hZF.out.in hZF.out.sy hz'.out).mono ?_; rintro r w30 ⟨rfl, hE⟩
      rw [RM.out]
      replace hB := Lib.hid (hB.out.trans (hE.mono hB.out.size))
      replace hXF := Lib.hid (hXF.out.below hE)
      replace hZF := Lib.hid (hZF.out.below hE)
      clear hE
      have o0 := hXF.out.hG.cell 0 (.slice (some ⟨gW, 0, none⟩) W.length cW) rfl
      have o1 := hXF.out.hG.cell 1 (.slice (some ⟨gS, 0, none⟩) S.length cS) rfl
      have o2 := hXF.out.hG.cell 2 (.slice C1 Y.length e1) rfl
      have p0 := hZF.out.hG.cell 0 (.slice (some ⟨gV, 0, none⟩) W.length cV) rfl
      have p1 := hZF.out.hG.cell 1 (.slice (some ⟨gT, 0, none⟩) S.length cT) rfl
      have p2 := hZF.out.hG.cell 2 (.slice C2 Y.length e2) rfl
      go_wp2_with (fail)
      clear o0 o1 o2 p0 p1 p2
      refine (Ob.same_any (hXF.out.wo hF.out.hr) hXF.out.in hXF.out.sy (hZF.out.wo hr'.out) hZF.out.in hZF.out.sy).mono ?_; rintro r w31 ⟨rfl, hE⟩
      rw [R.out]
      replace hB := Lib.hid (hB.out.trans (hE.mono hB.out.size))
      clear hE
      go_wp2
      go_ret
      exact ⟨rfl, hB.out⟩
  · by_cases dd : 0 < Y.length
    · have d0 : (0 : Int) < Y.length := by omega
      obtain ⟨g, rfl⟩ : ∃ g, C2 = some ⟨g, 0, none⟩ := by
        rcases hZ.out.hY.cases with ⟨_, h0, _⟩ | ⟨g, rfl, _⟩
        · omega
        · exact ⟨g, rfl⟩
      have p0 := hZ.out.hG.cell 0 (.slice (some ⟨gV, 0, none⟩) W.length cV) rfl
      have p1 := hZ.out.hG.cell 1 (.slice (some ⟨gT, 0, none⟩) S.length cT) rfl
      have p2 := hZ.out.hG.cell 2 (.slice (some ⟨g, 0, none⟩) Y.length e2) rfl
      go_wp2_with (fail)
      clear p0 p1 p2
      refine wpT.start (T := 11) (S := fun w' => Below w8.drew.heap.size w8.drew w') (by kernel_rfl) ?_
      have hHeld := Below.refl w8.drew.heap.size w8.drew
      have hZd := Lib.hid hZ.out.drew
      have hEd := Lib.hid hEx.out.drew
      have RM := Lib.hid (hF.out.s3 (by omega))
      obtain ⟨l, hl⟩ : ∃ l, Y.length - 1 = l := ⟨_, rfl⟩
      have hlY : l < Y.length := by omega
      have hl2 : (Y.length : Int) - 1 = l := by omega
      have q1 : IntKind.i64.wrap (Y.length : Int) = Y.length := by rw [IntKind.wrap_i64]; omega
      have q2 : IntKind.i64.wrap ((Y.length : Int) - 1) = l := by rw [IntKind.wrap_i64]; omega
      have q3 : IntKind.i64.wrap (l : Int) = l := by rw [IntKind.wrap_i64]; omega
      rw [hl] at RM
      have d6 : (l : Int) < Y.length := by omega
      replace hl := Lib.hid hl
      have hs7 : (Ob.nm Y l).size ≤ 1000000 := Ob.size_at hF.out.siz l
      generalize hs0 : Ob.nm Y l = s0 at *
      generalize hp0 : Ob.pl Y l = p0 at *
      replace hs0 := Lib.hid hs0
      replace hp0 := Lib.hid hp0
      clear hZ hEx
      generalize w8.drew = w9 at *
      refine wpT.take (i := 0) (oi := { dst := some 103, op := Op.fieldAddr 26 (Operand.tmp 9) 2, type := 0, pos := "law.go:69", after := #[], guard := none }) (v := ?_) rfl (by kernel_rfl) (by kernel_rfl) (by kernel_rfl) (by kernel_rfl) (by kernel_rfl) (fun _ _ _ h => h) (Or.inl ⟨rfl, ?_⟩) hHeld ?_
      rotate_left
      · (intro wz hSw; go_simp; try with_reducible rfl)
      try simp only [Act.put, List.setIfInBounds_toArray, List.set_cons_zero, List.set_cons_succ]
      refine wpT.take (i := 1) (oi := { dst := some 104, op := Op.load 24 (Operand.tmp 103), type := 24, pos := "law.go:69", after := #[{ on := 0, ground := Ground.data }], guard := none }) (v := ?_) rfl (by kernel_rfl) (by kernel_rfl) (by kernel_rfl) (by kernel_rfl) (by kernel_rfl) (fun _ _ _ h => h) (Or.inl ⟨rfl, ?_⟩) hHeld ?_
      rotate_left
      · (intro wz hSw; have o2 := (hZd.out.below hSw).hG.cell 2 (.slice (some ⟨g, 0, none⟩) Y.length e2) rfl; go_simp; try with_reducible rfl)
      try simp only [Act.put, List.setIfInBounds_toArray, List.set_cons_zero, List.set_cons_succ]
      refine wpT.take (i := 2) (oi := { dst := some 105, op := Op.fieldAddr 26 (Operand.tmp 9) 2, type := 0, pos := "law.go:69", after := #[], guard := none }) (v := ?_) rfl (by kernel_rfl) (by kernel_rfl) (by kernel_rfl) (by kernel_rfl) (by kernel_rfl) (fun _ _ _ h => h) (Or.inl ⟨rfl, ?_⟩) hHeld ?_
      rotate_left
      · (intro wz hSw; go_simp; try with_reducible rfl)
      try simp only [Act.put, List.setIfInBounds_toArray, List.set_cons_zero, List.set_cons_succ]
      refine wpT.take (i := 3) (oi := { dst := some 106, op := Op.load 24 (Operand.tmp 105), type := 24, pos := "law.go:69", after := #[{ on := 2, ground := Ground.data }], guard := none }) (v := ?_) rfl (by kernel_rfl) (by kernel_rfl) (by kernel_rfl) (by kernel_rfl) (by kernel_rfl) (fun _ _ _ h => h) (Or.inl ⟨rfl, ?_⟩) hHeld ?_
      rotate_left
      · (intro wz hSw; have o2 := (hZd.out.below hSw).hG.cell 2 (.slice (some ⟨g, 0, none⟩) Y.length e2) rfl; go_simp; try with_reducible rfl)
      try simp only [Act.put, List.setIfInBounds_toArray, List.set_cons_zero, List.set_cons_succ]
      refine wpT.take (i := 4) (oi := { dst := some 107, op := Op.fieldAddr 26 (Operand.tmp 9) 2, type := 0, pos := "law.go:69", after := #[], guard := none }) (v := ?_) rfl (by kernel_rfl) (by kernel_rfl) (by kernel_rfl) (by kernel_rfl) (by kernel_rfl) (fun _ _ _ h => h) (Or.inl ⟨rfl, ?_⟩) hHeld ?_
      rotate_left
      · (intro wz hSw; go_simp; try with_reducible rfl)
      try simp only [Act.put, List.setIfInBounds_toArray, List.set_cons_zero, List.set_cons_succ]
      refine wpT.take (i := 5) (oi := { dst := some 108, op := Op.load 24 (Operand.tmp 107), type := 24, pos := "law.go:69", after := #[{ on := 4, ground := Ground.data }], guard := none }) (v := ?_) rfl (by kernel_rfl) (by kernel_rfl) (by kernel_rfl) (by kernel_rfl) (by kernel_rfl) (fun _ _ _ h => h) (Or.inl ⟨rfl, ?_⟩) hHeld ?_
      rotate_left
      · (intro wz hSw; have o2 := (hZd.out.below hSw).hG.cell 2 (.slice (some ⟨g, 0, none⟩) Y.length e2) rfl; go_simp; try with_reducible rfl)
      try simp only [Act.put, List.setIfInBounds_toArray, List.set_cons_zero, List.set_cons_succ]
      refine wpT.take (i := 6) (oi := { dst := some 109, op := Op.call { callee := Callee.builtin Builtin.len, args := #[Operand.tmp 108], argTypes := #[24] }, type := 3, pos := "law.go:69", after := #[{ on := 5, ground := Ground.data }], guard := none }) (v := ?_) rfl (by kernel_rfl) (by kernel_rfl) (by kernel_rfl) (by kernel_rfl) (by kernel_rfl) (fun _ _ _ h => h) (Or.inl ⟨rfl, ?_⟩) hHeld ?_
      rotate_left
      · (intro wz hSw; go_simp; try with_reducible rfl)
      try simp only [Act.put, List.setIfInBounds_toArray, List.set_cons_zero, List.set_cons_succ]
      refine wpT.take (i := 7) (oi := { dst := some 110, op := Op.binOp BinOp.sub 3 (Operand.tmp 109) (Operand.const (Value.int IntKind.i64 1)) 3, type := 3, pos := "law.go:69", after := #[{ on := 6, ground := Ground.data }], guard := none }) (v := ?_) rfl (by kernel_rfl) (by kernel_rfl) (by kernel_rfl) (by kernel_rfl) (by kernel_rfl) (fun _ _ _ h => h) (Or.inl ⟨rfl, ?_⟩) hHeld ?_
      rotate_left
      · (intro wz hSw; go_simp; (try simp only [hl2, q1, q2, q3]); try with_reducible rfl)
      try simp only [Act.put, List.setIfInBounds_toArray, List.set_cons_zero, List.set_cons_succ]
      refine wpT.take (i := 8) (oi := { dst := some 111, op := Op.indexAddr 24 (Operand.tmp 106) (Operand.tmp 110), type := 0, pos := "law.go:69", after := #[{ on := 3, ground := Ground.data }, { on := 7, ground := Ground.data }], guard := none }) (v := ?_) rfl (by kernel_rfl) (by kernel_rfl) (by kernel_rfl) (by kernel_rfl) (by kernel_rfl) (fun _ _ _ h => h) (Or.inl ⟨rfl, ?_⟩) hHeld ?_
      rotate_left
      · (intro wz hSw; go_simp; try with_reducible rfl)
      try simp only [Act.put, List.setIfInBounds_toArray, List.set_cons_zero, List.set_cons_succ]
      refine wpT.take (i := 9) (oi := { dst := some 112, op := Op.load 39 (Operand.tmp 111), type := 39, pos := "law.go:69", after := #[{ on := 8, ground := Ground.data }], guard := none }) (v := ?_) rfl (by kernel_rfl) (by kernel_rfl) (by kernel_rfl) (by kernel_rfl) (by kernel_rfl) (fun _ _ _ h => h) (Or.inl ⟨rfl, ?_⟩) hHeld ?_
      rotate_left
      · (intro wz hSw; have g1 := (hZd.out.below hSw).hY.sy.name l hlY; have g2 := (hZd.out.below hSw).hY.sy.at l hlY; rw [Nat.zero_add] at g1 g2; rw [hs0.out] at g1; rw [hp0.out] at g2; go_simp; try with_reducible rfl)
      try simp only [Act.put, List.setIfInBounds_toArray, List.set_cons_zero, List.set_cons_succ]
      refine wpT.one (i := 10) (o := { dst := some 113, op := Op.buildSlice 24 1 #[(0, Operand.tmp 112)], type := 24, pos := "law.go:69", after := #[{ on := 9, ground := Ground.data }], guard := none }) rfl (by kernel_rfl) (fun K hK => ?_)
      go_simp
      have hE := ((Kept.refl w9).alloc #[.string s0, .int .i64 p0] 39).below
      have hY9 := Lib.hid (Sy.one (Has.new #[.string s0, .int .i64 p0] 39 w9))
      have hZ4 := Lib.hid (hZd.out.below hE)
      have hE4 := Lib.hid (hEd.out.trans (hE.mono hEd.out.size))
      generalize w9.alloc (.cells #[.string s0, .int .i64 p0] 39) = w10 at *
      clear hHeld
      refine hK.out _ _ hE (fun hHeld => ?_)
      clear hK K hE
      try simp only [Act.put, List.setIfInBounds_toArray, List.set_cons_zero, List.set_cons_succ]
      refine wpT.late (i := 11) (o := { dst := some 114, op := Op.call { callee := Callee.builtin Builtin.append, args := #[Operand.tmp 104, Operand.tmp 113], argTypes := #[24, 24] }, type := 24, pos := "law.go:69", after := #[{ on := 1, ground := Ground.data }, { on := 10, ground := Ground.data }], guard := none }) (by omega) rfl (by kernel_rfl) (fun K hK => ?_)
      have hs1 := hZ4.out.low
      refine append_syK3 Try.underlying24 Ob.info39 rfl (by omega) (.tmp 104) (.tmp 113) rfl w4.heap.size (some ⟨g, 0, none⟩) Y.length e2 Y rfl hZ4.out.hY _ 1 1 [(s0, p0)] rfl hY9.out (by omega) (by omega) hs1 ?_
      intro g' cap' w11 hO11 hG11
      have hGG := hZ4.out.hG.grown hG11 (hZ4.out.hY.ne hZ4.out.hG (by decide))
      have f0 := hGG.cell 2 (.slice (some ⟨g, 0, none⟩) Y.length e2) rfl
      have f1 := hGG.free 2
      have hZF := Lib.hid (hZ4.out.grow2 hG11 hO11)
      have hEF := Lib.hid ((hE4.out.grown hG11 hs1 hZ4.out.hY.from).setCell (p := ⟨U, 2, none⟩) hZ4.out.hO (.slice (some ⟨g', 0, none⟩) (Y.length + 1) cap'))
      clear hG11 hO11 hGG hY9 hs1 hZ4 hE4 hHeld
      refine hK.out _ _ ?_
      clear hK K
      try simp only [Act.put, List.setIfInBounds_toArray, List.set_cons_zero, List.set_cons_succ]
      refine wpT.late (i := 12) (o := { dst := some 115, op := Op.fieldAddr 26 (Operand.tmp 9) 2, type := 0, pos := "law.go:69", after := #[{ on := 0, ground := Ground.phase }, { on := 1, ground := Ground.phase }, { on := 2, ground := Ground.phase }, { on := 3, ground := Ground.phase }, { on := 4, ground := Ground.phase }, { on := 5, ground := Ground.phase }, { on := 6, ground := Ground.phase }, { on := 7, ground := Ground.phase }, { on := 8, ground := Ground.phase }, { on := 9, ground := Ground.phase }, { on := 10, ground := Ground.phase }, { on := 11, ground := Ground.phase }], guard := none }) (by omega) rfl (by kernel_rfl) (fun K hK => ?_)
      go_simp
      refine hK.out _ _ ?_
      clear hK K
      try simp only [Act.put, List.setIfInBounds_toArray, List.set_cons_zero, List.set_cons_succ]
      refine wpT.late (i := 13) (o := { dst := none, op := Op.store 24 (Operand.tmp 115) (Operand.tmp 114), type := 0, pos := "law.go:69", after := #[{ on := 12, ground := Ground.data }, { on := 11, ground := Ground.data }, { on := 11, ground := Ground.chain }, { on := 0, ground := Ground.phase }, { on := 1, ground := Ground.phase }, { on := 2, ground := Ground.phase }, { on := 3, ground := Ground.phase }, { on := 4, ground := Ground.phase }, { on := 5, ground := Ground.phase }, { on := 6, ground := Ground.phase }, { on := 7, ground := Ground.phase }, { on := 8, ground := Ground.phase }, { on := 9, ground := Ground.phase }, { on := 10, ground := Ground.phase }, { on := 11, ground := Ground.phase }], guard := none }) (by omega) rfl (by kernel_rfl) (fun K hK => ?_)
      go_simp
      refine hK.out _ _ ?_
      clear hK K
      try simp only [Act.put, List.setIfInBounds_toArray, List.set_cons_zero, List.set_cons_succ]
      refine wpT.done (by kernel_rfl) ?_ _
      have R := Lib.hid (Ob.same_not (ws := W) (ss := S) (ws' := W) (ss' := S) (Or.inr (Or.inr (Ob.ne_longer (l := Y) (m := Y ++ [(s0, p0)]) (by simp)))))
      clear hZd hEd f0 f1 q1 q2 q3 hl2 hl
      have hXF := Lib.hid (hX.out.below hEF.out)
      have hr' : ∀ x ∈ W, 0 ≤ x ∧ x < 4294967296 := hF.out.hr
      have hz' : ∀ y ∈ (Y ++ [(s0, p0)]), y.1.size ≤ 1000000 := fun y hy => (List.mem_append.1 hy).elim (hF.out.siz y) (fun e => by rw [List.mem_singleton.1 e]; exact hs7)
      replace hr' := Lib.hid hr'
      replace hz' := Lib.hid hz'
      replace hB := Lib.hid (hB.out.trans (hEF.out.mono hB.out.size))
      clear hEF hX
      have p0 := hZF.out.hG.cell 0 (.slice (some ⟨gV, 0, none⟩) W.length cV) rfl
      have p1 := hZF.out.hG.cell 1 (.slice (some ⟨gT, 0, none⟩) S.length cT) rfl
      have p2 := hZF.out.hG.cell 2 (.slice (some ⟨g', 0, none⟩) (Y.length + 1) cap') rfl
      go_wp2_with (fail)
      clear p0 p1 p2
      refine (Ob.may_any (hZF.out.wo hr'.out) hZF.out.in hZF.out.sy hz'.out).mono ?_; rintro r w30 ⟨rfl, hE⟩
      rw [RM.out]
      replace hB := Lib.hid (hB.out.trans (hE.mono hB.out.size))
      replace hXF := Lib.hid (hXF.out.below hE)
      replace hZF := Lib.hid (hZF.out.below hE)
      clear hE
      have o0 := hXF.out.hG.cell 0 (.slice (some ⟨gW, 0, none⟩) W.length cW) rfl
      have o1 := hXF.out.hG.cell 1 (.slice (some ⟨gS, 0, none⟩) S.length cS) rfl
      have o2 := hXF.out.hG.cell 2 (.slice C1 Y.length e1) rfl
      have p0 := hZF.out.hG.cell 0 (.slice (some ⟨gV, 0, none⟩) W.length cV) rfl
      have p1 := hZF.out.hG.cell 1 (.slice (some ⟨gT, 0, none⟩) S.length cT) rfl
      have p2 := hZF.out.hG.cell 2 (.slice (some ⟨g', 0, none⟩) (Y.length + 1) cap') rfl
      go_wp2_with (fail)
      clear o0 o1 o2 p0 p1 p2
      refine (Ob.same_any (hXF.out.wo hF.out.hr) hXF.out.in hXF.out.sy (hZF.out.wo hr'.out) hZF.out.in hZF.out.sy).mono ?_; rintro r w31 ⟨rfl, hE⟩
      rw [R.out]
      replace hB := Lib.hid (hB.out.trans (hE.mono hB.out.size))
      clear hE
      go_wp2
      go_ret
      exact ⟨rfl, hB.out⟩
    · have d0 : ¬ (0 : Int) < Y.length := by omega
      have q0 := hZ.out.hG.cell 0 (.slice (some ⟨gV, 0, none⟩) W.length cV) rfl
      have q1 := hZ.out.hG.cell 1 (.slice (some ⟨gT, 0, none⟩) S.length cT) rfl
      have q2 := hZ.out.hG.cell 2 (.slice C2 Y.length e2) rfl
      have R := Lib.hid (Ob.same_self W S Y)
      have RM := Lib.hid hF.out.ok
      have hEF := hEx
      have hZF := hZ
      clear hEx hZ
      have hXF := Lib.hid (hX.out.below hEF.out)
      have hr' : ∀ x ∈ W, 0 ≤ x ∧ x < 4294967296 := hF.out.hr
      have hz' : ∀ y ∈ Y, y.1.size ≤ 1000000 := hF.out.siz
      replace hr' := Lib.hid hr'
      replace hz' := Lib.hid hz'
      replace hB := Lib.hid (hB.out.trans (hEF.out.mono hB.out.size))
      clear hEF hX
      have p0 := hZF.out.hG.cell 0 (.slice (some ⟨gV, 0, none⟩) W.length cV) rfl
      have p1 := hZF.out.hG.cell 1 (.slice (some ⟨gT, 0, none⟩) S.length cT) rfl
      have p2 := hZF.out.hG.cell 2 (.slice C2 Y.length e2) rfl
      go_wp2_with (fail)
      clear p0 p1 p2
      refine (Ob.may_any (hZF.out.wo hr'.out) hZF.out.in hZF.out.sy hz'.out).mono ?_; rintro r w30 ⟨rfl, hE⟩
      rw [RM.out]
      replace hB := Lib.hid (hB.out.trans (hE.mono hB.out.size))
      replace hXF := Lib.hid (hXF.out.below hE)
      replace hZF := Lib.hid (hZF.out.below hE)
      clear hE
      have o0 := hXF.out.hG.cell 0 (.slice (some ⟨gW, 0, none⟩) W.length cW) rfl
      have o1 := hXF.out.hG.cell 1 (.slice (some ⟨gS, 0, none⟩) S.length cS) rfl
      have o2 := hXF.out.hG.cell 2 (.slice C1 Y.length e1) rfl
      have p0 := hZF.out.hG.cell 0 (.slice (some ⟨gV, 0, none⟩) W.length cV) rfl
      have p1 := hZF.out.hG.cell 1 (.slice (some ⟨gT, 0, none⟩) S.length cT) rfl
      have p2 := hZF.out.hG.cell 2 (.slice C2 Y.length e2) rfl
      go_wp2_with (fail)
      clear o0 o1 o2 p0 p1 p2
      refine (Ob.same_any (hXF.out.wo hF.out.hr) hXF.out.in hXF.out.sy (hZF.out.wo hr'.out) hZF.out.in hZF.out.sy).mono ?_; rintro r w31 ⟨rfl, hE⟩
      rw [R.out]
      replace hB := Lib.hid (hB.out.trans (hE.mono hB.out.size))
      clear hE
      go_wp2
      go_ret
      exact ⟨rfl, hB.out⟩
  · have hA4 := ((Kept.refl w8).alloc #[.string { data := #[122, 122, 95] }, .int .i64 (4 * (W.length : Int) + 4)] 39).below
    have hZ4 := hZ.out.below hA4
    have hY4 := Lib.hid (show Sy _ (some ⟨w8.heap.size, 0, none⟩) 1 1 [(Ob.zz, 4 * (W.length : Int) + 4)] from Sy.one (Has.new #[.string { data := #[122, 122, 95] }, .int .i64 (4 * (W.length : Int) + 4)] 39 w8))
    have hE4 := Lib.hid (hEx.out.trans (hA4.mono hEx.out.size))
    have hs0 := hZ4.low
    have q0 := hZ.out.hG.cell 0 (.slice (some ⟨gV, 0, none⟩) W.length cV) rfl
    have q1 := hZ.out.hG.cell 1 (.slice (some ⟨gT, 0, none⟩) S.length cT) rfl
    have q2 := hZ.out.hG.cell 2 (.slice C2 Y.length e2) rfl
    have p0 := hZ4.hG.cell 0 (.slice (some ⟨gV, 0, none⟩) W.length cV) rfl
    have p1 := hZ4.hG.cell 1 (.slice (some ⟨gT, 0, none⟩) S.length cT) rfl
    have p2 := hZ4.hG.cell 2 (.slice C2 Y.length e2) rfl
    replace hZ4 := Lib.hid hZ4
    clear hZ hEx hA4
    go_wp2_with (first
      | (with_reducible refine append_sy (o := ⟨some 125, _, _, _, _, _⟩) Try.underlying24 Ob.info39 rfl (by omega) rfl (.tmp 119) (.tmp 124) rfl w4.heap.size C2 Y.length e2 Y rfl hZ4.out.hY _ 1 1 [(Ob.zz, 4 * (W.length : Int) + 4)] rfl hY4.out (by omega) hs0 (Or.inr (by omega)) ?_
         intro g' cap' w9 hO9 hG9
         have f0 := (hZ4.out.hG.grown hG9 (hZ4.out.hY.ne hZ4.out.hG (by decide))).cell 2 (.slice C2 Y.length e2) rfl
         have f1 := (hZ4.out.hG.grown hG9 (hZ4.out.hY.ne hZ4.out.hG (by decide))).free 2
         have hZF := Lib.hid (hZ4.out.grow2 hG9 hO9)
         have hEF := Lib.hid ((hE4.out.grown hG9 hs0 hZ4.out.hY.from).setCell (p := ⟨U, 2, none⟩) hZ4.out.hO (.slice (some ⟨g', 0, none⟩) (Y.length + 1) cap'))
         have R := Lib.hid (Ob.same_not (ws := W) (ss := S) (ws' := W) (ss' := S) (Or.inr (Or.inr (Ob.ne_longer (l := Y) (m := Y ++ [(Ob.zz, 4 * (W.length : Int) + 4)]) (by simp)))))
         have RM := Lib.hid hF.out.s4
         clear hO9 hG9 hs0 hE4 hY4 hZ4 p0 p1 p2 q0 q1 q2
         have hXF := Lib.hid (hX.out.below hEF.out)
         have hr' : ∀ x ∈ W, 0 ≤ x ∧ x < 4294967296 := hF.out.hr
         have hz' : ∀ y ∈ (Y ++ [(Ob.zz, 4 * (W.length : Int) + 4)]), y.1.size ≤ 1000000 := fun y hy => (List.mem_append.1 hy).elim (hF.out.siz y) (fun e => by rw [List.mem_singleton.1 e]; exact Ob.zz_size)
         replace hr' := Lib.hid hr'
         replace hz' := Lib.hid hz'
         replace hB := Lib.hid (hB.out.trans (hEF.out.mono hB.out.size))
         clear hEF hX
         have p0 := hZF.out.hG.cell 0 (.slice (some ⟨gV, 0, none⟩) W.length cV) rfl
         have p1 := hZF.out.hG.cell 1 (.slice (some ⟨gT, 0, none⟩) S.length cT) rfl
         have p2 := hZF.out.hG.cell 2 (.slice (some ⟨g', 0, none⟩) (Y.length + 1) cap') rfl)
      | fail)
    clear p0 p1 p2
    refine (Ob.may_any (hZF.out.wo hr'.out) hZF.out.in hZF.out.sy hz'.out).mono ?_; rintro r w30 ⟨rfl, hE⟩
    rw [RM.out]
    replace hB := Lib.hid (hB.out.trans (hE.mono hB.out.size))
    replace hXF := Lib.hid (hXF.out.below hE)
    replace hZF := Lib.hid (hZF.out.below hE)
    clear hE
    have o0 := hXF.out.hG.cell 0 (.slice (some ⟨gW, 0, none⟩) W.length cW) rfl
    have o1 := hXF.out.hG.cell 1 (.slice (some ⟨gS, 0, none⟩) S.length cS) rfl
    have o2 := hXF.out.hG.cell 2 (.slice C1 Y.length e1) rfl
    have p0 := hZF.out.hG.cell 0 (.slice (some ⟨gV, 0, none⟩) W.length cV) rfl
    have p1 := hZF.out.hG.cell 1 (.slice (some ⟨gT, 0, none⟩) S.length cT) rfl
    have p2 := hZF.out.hG.cell 2 (.slice (some ⟨g', 0, none⟩) (Y.length + 1) cap') rfl
    go_wp2_with (fail)
    clear o0 o1 o2 p0 p1 p2
    refine (Ob.same_any (hXF.out.wo hF.out.hr) hXF.out.in hXF.out.sy (hZF.out.wo hr'.out) hZF.out.in hZF.out.sy).mono ?_; rintro r w31 ⟨rfl, hE⟩
    rw [R.out]
    replace hB := Lib.hid (hB.out.trans (hE.mono hB.out.size))
    clear hE
    go_wp2
    go_ret
    exact ⟨rfl, hB.out⟩
  · by_cases dd : 0 < Y.length
    · have d0 : (0 : Int) < Y.length := by omega
      obtain ⟨j, hj⟩ := Int.eq_ofNat_of_zero_le (Int.emod_nonneg a2 (show (Y.length : Int) ≠ 0 by omega))
      have hj2 := Int.emod_lt_of_pos a2 (show (0 : Int) < Y.length by omega)
      rw [hj] at hj2
      have hjn : j < Y.length := by omega
      obtain ⟨g, rfl⟩ : ∃ g, C2 = some ⟨g, 0, none⟩ := by
        rcases hZ.out.hY.cases with ⟨_, h0, _⟩ | ⟨g, rfl, _⟩
        · omega
        · exact ⟨g, rfl⟩
      have p0 := hZ.out.hG.cell 0 (.slice (some ⟨gV, 0, none⟩) W.length cV) rfl
      have p1 := hZ.out.hG.cell 1 (.slice (some ⟨gT, 0, none⟩) S.length cT) rfl
      have p2 := hZ.out.hG.cell 2 (.slice (some ⟨g, 0, none⟩) Y.length e2) rfl
      go_wp2_with (fail)
      clear p0 p1 p2
      refine WS.start 10 (by kernel_rfl) (by kernel_rfl) ?_
      intro w9 hw5
      have hZd := hZ.out.drew
      rw [← hw5] at hZd
      have p2 := hZd.hG.cell 2 (.slice (some ⟨g, 0, none⟩) Y.length e2) rfl
      have g1 := hZd.hY.sy.at j hjn
      rw [Nat.zero_add] at g1
      have hEF := Lib.hid (show Below w4.heap.size w4 w9 by rw [hw5]; exact hEx.out.drew)
      have f1 := hZd.hY.free (j * 2 + 1)
      replace hZd := Lib.hid hZd
      have qa : IntKind.i64.wrap a2 = a2 := by rw [IntKind.wrap_i64]; omega
      have qz : (Y = []) = False := eq_false (fun h => by rw [h] at hjn; simp at hjn)
      have qt : a2.tmod (Y.length : Int) = j := by rw [Int.tmod_eq_emod_of_nonneg l2, hj]
      have qw : IntKind.i64.wrap (j : Int) = j := by rw [IntKind.wrap_i64]; omega
      clear hZ hEx
      clear hw5
      simp only [List.take_succ_cons, List.take_zero, List.drop_succ_cons, List.drop_zero]
      refine WS.step rfl (fun K hK => ?_); go_simp; (try (simp only [qa, qz, qt, qw, if_false]; (try go_simp))); refine hK _ ?_; clear hK K
      refine WS.step rfl (fun K hK => ?_); go_simp; (try (simp only [qa, qz, qt, qw, if_false]; (try go_simp))); refine hK _ ?_; clear hK K
      refine WS.step rfl (fun K hK => ?_); go_simp; (try (simp only [qa, qz, qt, qw, if_false]; (try go_simp))); refine hK _ ?_; clear hK K
      refine WS.step rfl (fun K hK => ?_); go_simp; (try (simp only [qa, qz, qt, qw, if_false]; (try go_simp))); refine hK _ ?_; clear hK K
      refine WS.step rfl (fun K hK => ?_); go_simp; (try (simp only [qa, qz, qt, qw, if_false]; (try go_simp))); refine hK _ ?_; clear hK K
      refine WS.step rfl (fun K hK => ?_); go_simp; (try (simp only [qa, qz, qt, qw, if_false]; (try go_simp))); refine hK _ ?_; clear hK K
      refine WS.step rfl (fun K hK => ?_); go_simp; (try (simp only [qa, qz, qt, qw, if_false]; (try go_simp))); refine hK _ ?_; clear hK K
      refine WS.step rfl (fun K hK => ?_); go_simp; (try (simp only [qa, qz, qt, qw, if_false]; (try go_simp))); refine hK _ ?_; clear hK K
      refine WS.step rfl (fun K hK => ?_); go_simp; (try (simp only [qa, qz, qt, qw, if_false]; (try go_simp))); refine hK _ ?_; clear hK K
      refine WS.step rfl (fun K hK => ?_); go_simp; (try (simp only [qa, qz, qt, qw, if_false]; (try go_simp))); refine hK _ ?_; clear hK K
      refine WS.nil ?_
      clear qa qz qt qw p2
      have hge := hZd.out.hY.from g rfl
      have hZF := Lib.hid (hZd.out.place j hjn 2)
      replace hEF := Lib.hid (hEF.out.setCell (p := ⟨g, j * 2 + 1, none⟩) hge (.int .i64 2))
      have R := Lib.hid (Ob.same_not (ws := W) (ss := S) (ws' := W) (ss' := S) (Or.inr (Or.inr (hF.out.s5 j hjn).2)))
      have RM := Lib.hid (hF.out.s5 j hjn).1
      clear hZd hge
      have hXF := Lib.hid (hX.out.below hEF.out)
      have hr' : ∀ x ∈ W, 0 ≤ x ∧ x < 4294967296 := hF.out.hr
      have hz' : ∀ y ∈ (Y.set j (Ob.nm Y j, 2)), y.1.size ≤ 1000000 := fun y hy => (List.mem_or_eq_of_mem_set hy).elim (hF.out.siz y) (fun e => by rw [e]; exact Ob.size_at hF.out.siz j)
      replace hr' := Lib.hid hr'
      replace hz' := Lib.hid hz'
      replace hB := Lib.hid (hB.out.trans (hEF.out.mono hB.out.size))
      clear hEF hX
      have p0 := hZF.out.hG.cell 0 (.slice (some ⟨gV, 0, none⟩) W.length cV) rfl
      have p1 := hZF.out.hG.cell 1 (.slice (some ⟨gT, 0, none⟩) S.length cT) rfl
      have p2 := hZF.out.hG.cell 2 (.slice (some ⟨g, 0, none⟩) Y.length e2) rfl
      go_wp2_with (fail)
      clear p0 p1 p2
      refine (Ob.may_any (hZF.out.wo hr'.out) hZF.out.in hZF.out.sy hz'.out).mono ?_; rintro r w30 ⟨rfl, hE⟩
      rw [RM.out]
      replace hB := Lib.hid (hB.out.trans (hE.mono hB.out.size))
      replace hXF := Lib.hid (hXF.out.below hE)
      replace hZF := Lib.hid (hZF.out.below hE)
      clear hE
      have o0 := hXF.out.hG.cell 0 (.slice (some ⟨gW, 0, none⟩) W.length cW) rfl
      have o1 := hXF.out.hG.cell 1 (.slice (some ⟨gS, 0, none⟩) S.length cS) rfl
      have o2 := hXF.out.hG.cell 2 (.slice C1 Y.length e1) rfl
      have p0 := hZF.out.hG.cell 0 (.slice (some ⟨gV, 0, none⟩) W.length cV) rfl
      have p1 := hZF.out.hG.cell 1 (.slice (some ⟨gT, 0, none⟩) S.length cT) rfl
      have p2 := hZF.out.hG.cell 2 (.slice (some ⟨g, 0, none⟩) Y.length e2) rfl
      go_wp2_with (fail)
      clear o0 o1 o2 p0 p1 p2
      refine (Ob.same_any (hXF.out.wo hF.out.hr) hXF.out.in hXF.out.sy (hZF.out.wo hr'.out) hZF.out.in hZF.out.sy).mono ?_; rintro r w31 ⟨rfl, hE⟩
      rw [R.out]
      replace hB := Lib.hid (hB.out.trans (hE.mono hB.out.size))
      clear hE
      go_wp2
      go_ret
      exact ⟨rfl, hB.out⟩
    · have d0 : ¬ (0 : Int) < Y.length := by omega
      have q0 := hZ.out.hG.cell 0 (.slice (some ⟨gV, 0, none⟩) W.length cV) rfl
      have q1 := hZ.out.hG.cell 1 (.slice (some ⟨gT, 0, none⟩) S.length cT) rfl
      have q2 := hZ.out.hG.cell 2 (.slice C2 Y.length e2) rfl
      have R := Lib.hid (Ob.same_self W S Y)
      have RM := Lib.hid hF.out.ok
      have hEF := hEx
      have hZF := hZ
      clear hEx hZ
      have hXF := Lib.hid (hX.out.below hEF.out)
      have hr' : ∀ x ∈ W, 0 ≤ x ∧ x < 4294967296 := hF.out.hr
      have hz' : ∀ y ∈ Y, y.1.size ≤ 1000000 := hF.out.siz
      replace hr' := Lib.hid hr'
      replace hz' := Lib.hid hz'
      replace hB := Lib.hid (hB.out.trans (hEF.out.mono hB.out.size))
      clear hEF hX
      have p0 := hZF.out.hG.cell 0 (.slice (some ⟨gV, 0, none⟩) W.length cV) rfl
      have p1 := hZF.out.hG.cell 1 (.slice (some ⟨gT, 0, none⟩) S.length cT) rfl
      have p2 := hZF.out.hG.cell 2 (.slice C2 Y.length e2) rfl
      go_wp2_with (fail)
      clear p0 p1 p2
      refine (Ob.may_any (hZF.out.wo hr'.out) hZF.out.in hZF.out.sy hz'.out).mono ?_; rintro r w30 ⟨rfl, hE⟩
      rw [RM.out]
      replace hB := Lib.hid (hB.out.trans (hE.mono hB.out.size))
      replace hXF := Lib.hid (hXF.out.below hE)
      replace hZF := Lib.hid (hZF.out.below hE)
      clear hE
      have o0 := hXF.out.hG.cell 0 (.slice (some ⟨gW, 0, none⟩) W.length cW) rfl
      have o1 := hXF.out.hG.cell 1 (.slice (some ⟨gS, 0, none⟩) S.length cS) rfl
      have o2 := hXF.out.hG.cell 2 (.slice C1 Y.length e1) rfl
      have p0 := hZF.out.hG.cell 0 (.slice (some ⟨gV, 0, none⟩) W.length cV) rfl
      have p1 := hZF.out.hG.cell 1 (.slice (some ⟨gT, 0, none⟩) S.length cT) rfl
      have p2 := hZF.out.hG.cell 2 (.slice C2 Y.length e2) rfl
      go_wp2_with (fail)
      clear o0 o1 o2 p0 p1 p2
      refine (Ob.same_any (hXF.out.wo hF.out.hr) hXF.out.in hXF.out.sy (hZF.out.wo hr'.out) hZF.out.in hZF.out.sy).mono ?_; rintro r w31 ⟨rfl, hE⟩
      rw [R.out]
      replace hB := Lib.hid (hB.out.trans (hE.mono hB.out.size))
      clear hE
      go_wp2
      go_ret
      exact ⟨rfl, hB.out⟩
  · obtain ⟨N, hN⟩ : ∃ N, N = 1025 - W.length := ⟨_, rfl⟩
    have hN2 : (1025 : Int) - W.length = N := by omega
    have hN3 : 0 < N := by omega
    have hN4 : W.length + N = 1025 := by omega
    replace hN := Lib.hid hN
    have hs0 := hZ.out.low
    have hOw : Ow 37 .u32 w4.heap.size gV W.length cV W w8 := hZ.out.hP
    have p0 := hZ.out.hG.cell 0 (.slice (some ⟨gV, 0, none⟩) W.length cV) rfl
    have p1 := hZ.out.hG.cell 1 (.slice (some ⟨gT, 0, none⟩) S.length cT) rfl
    have p2 := hZ.out.hG.cell 2 (.slice C2 Y.length e2) rfl
    go_wp2_with (first
      | (with_reducible refine append_zeros (o := ⟨some 49, _, _, _, _, _⟩) Try.underlying22 Try.underlying3 Ch.info32 (by omega) rfl (.tmp 46) (.tmp 48) rfl w4.heap.size gV W.length cV W rfl hOw N ?_ hN3 (by omega) hs0 ?_
         · (first | with_unfolding_all rfl | with_unfolding_all exact congrArg (Value.int .i64) hN2 | (simp [Act.eval, hN2]; trace_state))
         intro g' cap' w9 hO9 hG9
         have f0 := (hZ.out.hG.grown hG9 (hZ.out.hP.ne hZ.out.hG (by decide))).cell 0 (.slice (some ⟨gV, 0, none⟩) W.length cV) rfl
         have f1 := (hZ.out.hG.grown hG9 (hZ.out.hP.ne hZ.out.hG (by decide))).free 0
         have hZF := Lib.hid (hZ.out.grow0 hG9 hO9.on)
         have hEF := Lib.hid ((hEx.out.grown hG9 hs0 hZ.out.hP.from).setCell (p := ⟨U, 0, none⟩) hZ.out.hO (.slice (some ⟨g', 0, none⟩) (W.length + N) cap'))
         have R := Lib.hid (Ob.same_not (ss := S) (ys := Y) (ss' := S) (ys' := Y) (Or.inl (Ob.ne_longer (l := W) (m := W ++ List.replicate N 0) (by simp; omega))))
         have RM := Lib.hid (Ob.Fine.s6 (W := W) (S := S) (Y := Y) N (by omega))
         clear hO9 hG9 hs0 hEx hZ p0 p1 p2 hN2 hN4 hOw
         have hXF := Lib.hid (hX.out.below hEF.out)
         have hr' : ∀ x ∈ (W ++ List.replicate N 0), 0 ≤ x ∧ x < 4294967296 := fun x hx => (List.mem_append.1 hx).elim (hF.out.hr x) (fun e => by rw [List.eq_of_mem_replicate e]; omega)
         have hz' : ∀ y ∈ Y, y.1.size ≤ 1000000 := hF.out.siz
         replace hr' := Lib.hid hr'
         replace hz' := Lib.hid hz'
         replace hB := Lib.hid (hB.out.trans (hEF.out.mono hB.out.size))
         clear hEF hX
         have p0 := hZF.out.hG.cell 0 (.slice (some ⟨g', 0, none⟩) (W.length + N) cap') rfl
         have p1 := hZF.out.hG.cell 1 (.slice (some ⟨gT, 0, none⟩) S.length cT) rfl
         have p2 := hZF.out.hG.cell 2 (.slice C2 Y.length e2) rfl)
      | fail)
    clear p0 p1 p2
    refine (Ob.may_any (hZF.out.wo hr'.out) hZF.out.in hZF.out.sy hz'.out).mono ?_; rintro r w30 ⟨rfl, hE⟩
    rw [RM.out]
    replace hB := Lib.hid (hB.out.trans (hE.mono hB.out.size))
    replace hXF := Lib.hid (hXF.out.below hE)
    replace hZF := Lib.hid (hZF.out.below hE)
    clear hE
    have o0 := hXF.out.hG.cell 0 (.slice (some ⟨gW, 0, none⟩) W.length cW) rfl
    have o1 := hXF.out.hG.cell 1 (.slice (some ⟨gS, 0, none⟩) S.length cS) rfl
    have o2 := hXF.out.hG.cell 2 (.slice C1 Y.length e1) rfl
    have p0 := hZF.out.hG.cell 0 (.slice (some ⟨g', 0, none⟩) (W.length + N) cap') rfl
    have p1 := hZF.out.hG.cell 1 (.slice (some ⟨gT, 0, none⟩) S.length cT) rfl
    have p2 := hZF.out.hG.cell 2 (.slice C2 Y.length e2) rfl
    go_wp2_with (fail)
    clear o0 o1 o2 p0 p1 p2
    refine (Ob.same_any (hXF.out.wo hF.out.hr) hXF.out.in hXF.out.sy (hZF.out.wo hr'.out) hZF.out.in hZF.out.sy).mono ?_; rintro r w31 ⟨rfl, hE⟩
    rw [R.out]
    replace hB := Lib.hid (hB.out.trans (hE.mono hB.out.size))
    clear hE
    go_wp2
    go_ret
    exact ⟨rfl, hB.out⟩
end Go.Proofs.Ythnpdlejgpcgoaa
