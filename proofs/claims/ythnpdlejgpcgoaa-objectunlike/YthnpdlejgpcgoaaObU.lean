/-
  The walk of ObjectUnlike.
-/
import Derived.Test.YthnpdlejgpcgoaaObV
namespace Go.Proofs.Ythnpdlejgpcgoaa
open Go.RowKit
set_option linter.unusedVariables false
set_option linter.unusedSimpArgs false
set_option maxRecDepth 100000
theorem On.take {e : TypeId} {k : IntKind} {base n c : Nat} {A : Option Addr} {xs : List Int} {w : World} (h : On e k base A n c xs w) (m : Nat) (hm : m ≤ n) : On e k base A m c (xs.take m) w := by
  rcases h.cases with ⟨rfl, rfl, rfl, rfl⟩ | ⟨g, rfl, h⟩
  · obtain rfl : m = 0 := by omega
    exact On.none _ _ _ _
  · have h : Ow e k base g n c xs w := h
    obtain ⟨h1, h2, h3, h4, cur, h5, h6, h7⟩ := h.has
    refine (Ow.mk' h1 (by omega) h3 (by rw [List.length_take]; omega) cur h5 h6 ?_).on
    rw [List.map_take, ← h7, List.take_take, Nat.min_eq_left hm]
set_option maxHeartbeats 8000000 in
set_option maxRecDepth 100000 in
theorem walk_unlike (w : World) (A B C : Option Addr) (n c m d k e : Nat) (ws bs : List Int) (ns : List ByteArray) (hW : Wo w A n c ws) (hS : By w B m d bs) (hN : St w C k e ns) (a1 : Int) (l1 : 0 ≤ a1) (u1 : a1 ≤ 255) (a2 : Int) (l2 : 0 ≤ a2) (u2 : a2 ≤ 255) :
    Calls Try.prog 6 #[.agg #[.slice A n c, .slice B m d, .slice C k e], .int .u8 a1, .int .u8 a2] w fun e w' => e = .returned (.bool true) ∧ Below w.heap.size w w' := by
  have hB := ((Kept.refl w).alloc #[.slice A n c, .slice B m d, .slice C k e] 35).below
  have hO := Lib.hid (Has.new #[.slice A n c, .slice B m d, .slice C k e] 35 w)
  have CF := fun w' (hb : Below w.heap.size w w') => Ob.fit_any (hW.below hb) (hS.below hb) (hN.below hb)
  have hF := Ob.fine_fit bs ns hW.rng
  have hWl := Ob.fW_len ws bs
  rw [hW.len] at hF hWl
  generalize Ob.fW ws bs = W at *
  generalize Ob.fS (min n 40) bs = S at *
  generalize Ob.fY (min n 40) ns = Y at *
  generalize min n 40 = n1 at *
  subst hWl
  replace CF := Lib.hid CF
  have hW40 := hF.hn
  have hY8 := hF.hy
  have hS64 : S.length ≤ 65535 := by
    rcases Nat.eq_zero_or_pos S.length with q | q
    · omega
    · have h1 := hF.hR
      have h2 : ∀ j, j < S.length → (j : Int) ≤ S.getD j 0 := fun j => by
        induction j with
        | zero => intro hj; have := Ch.at_ge h1 0 hj; omega
        | succ j ih => intro hj; have := ih (by omega); have := Ch.mono h1 j (j + 1) (by omega) hj; omega
      have h3 := h2 (S.length - 1) (by omega)
      have h4 := Ch.at_ge h1 (S.length - 1) (by omega)
      omega
  replace hF := Lib.hid hF
  clear hW hS hN
  go_enter Try.func6, Try.ntmps6
  go_wp2_with (fail)
  generalize w.alloc (.cells #[.slice A n c, .slice B m d, .slice C k e] 35) = w1 at *
  refine (Ob.shown_any w1).mono ?_; rintro r w2 ⟨rfl, hE⟩
  replace hB := Lib.hid (hB.trans (hE.mono hB.size))
  replace hO := Lib.hid (hO.out.below hE)
  clear hE
  have o0 := hO.out.cell 0 (.slice A n c) rfl
  have o1 := hO.out.cell 1 (.slice B m d) rfl
  have o2 := hO.out.cell 2 (.slice C k e) rfl
  go_wp2_with (fail)
  clear o0 o1 o2
  refine (CF.out w2 hB.out).mono ?_; rintro r w3 ⟨gW, cW, gS, cS, C1, e1, rfl, hP, hQ, hY, hE⟩
  have hA3 := ((Kept.refl w3).alloc #[.slice (some ⟨gW, 0, none⟩) W.length cW, .slice (some ⟨gS, 0, none⟩) S.length cS, .slice C1 Y.length e1] 26).below
  have hX := Lib.hid (show Ob.Own w2.heap.size w3.heap.size (some ⟨gW, 0, none⟩) W.length cW (some ⟨gS, 0, none⟩) S.length cS C1 Y.length e1 W S Y (w3.alloc (.cells #[.slice (some ⟨gW, 0, none⟩) W.length cW, .slice (some ⟨gS, 0, none⟩) S.length cS, .slice C1 Y.length e1] 26)) from ⟨Has.new _ _ _, (hP.on.below hA3), (hQ.on.below hA3), hY.below hA3, hE.size⟩)
  replace hB := Lib.hid ((hB.out.trans (hE.mono hB.out.size)).trans (hA3.mono (Nat.le_trans hB.out.size hE.size)))
  replace hO := (hO.out.below hE).below hA3
  clear hP hQ hY hE hA3
  have o0 := hO.cell 0 (.slice A n c) rfl
  have o1 := hO.cell 1 (.slice B m d) rfl
  have o2 := hO.cell 2 (.slice C k e) rfl
  go_wp2_with (fail)
  clear o0 o1 o2 hO
  generalize hw4 : w3.alloc (.cells #[.slice (some ⟨gW, 0, none⟩) W.length cW, .slice (some ⟨gS, 0, none⟩) S.length cS, .slice C1 Y.length e1] 26) = w4 at *
  clear hw4
  generalize w3.heap.size = O at *
  refine (CF.out w4 hB.out).mono ?_; rintro r w5 ⟨gV, cV, gT, cT, C2, e2, rfl, hP, hQ, hY, hE⟩
  have hA3 := ((Kept.refl w5).alloc #[.slice (some ⟨gV, 0, none⟩) W.length cV, .slice (some ⟨gT, 0, none⟩) S.length cT, .slice C2 Y.length e2] 26).below
  have hZ := Lib.hid (show Ob.Own w4.heap.size w5.heap.size (some ⟨gV, 0, none⟩) W.length cV (some ⟨gT, 0, none⟩) S.length cT C2 Y.length e2 W S Y (w5.alloc (.cells #[.slice (some ⟨gV, 0, none⟩) W.length cV, .slice (some ⟨gT, 0, none⟩) S.length cT, .slice C2 Y.length e2] 26)) from ⟨Has.new _ _ _, (hP.on.below hA3), (hQ.on.below hA3), hY.below hA3, hE.size⟩)
  have hEx := Lib.hid (hE.trans (hA3.mono hE.size))
  have hX6 := Lib.hid ((hX.out.below hE).below hA3)
  clear hP hQ hY hE hA3 CF
  go_upto_region 4 with (fail)
  generalize hw6 : w5.alloc (.cells #[.slice (some ⟨gV, 0, none⟩) W.length cV, .slice (some ⟨gT, 0, none⟩) S.length cT, .slice C2 Y.length e2] 26) = w6 at *
  clear hw6
  generalize w5.heap.size = U at *
  rcases (show a1 % 5 = 0 ∨ a1 % 5 = 1 ∨ a1 % 5 = 2 ∨ a1 % 5 = 3 ∨ a1 % 5 = 4 by omega) with h5 | h5 | h5 | h5 | h5
  · by_cases dd : 0 < W.length
    · have d0 : (0 : Int) < W.length := by omega
      obtain ⟨j, hj⟩ := Int.eq_ofNat_of_zero_le (Int.emod_nonneg a2 (show (W.length : Int) ≠ 0 by omega))
      have hj2 := Int.emod_lt_of_pos a2 (show (0 : Int) < W.length by omega)
      rw [hj] at hj2
      have hjn : j < W.length := by omega
      have p0 := hZ.out.hG.cell 0 (.slice (some ⟨gV, 0, none⟩) W.length cV) rfl
      have p1 := hZ.out.hG.cell 1 (.slice (some ⟨gT, 0, none⟩) S.length cT) rfl
      have p2 := hZ.out.hG.cell 2 (.slice C2 Y.length e2) rfl
      go_wp2_with (fail)
      clear p0 p1 p2
      refine WS.start 10 (by kernel_rfl) (by kernel_rfl) ?_
      intro w8 hw5
      have hZd := hZ.out.drew
      rw [← hw5] at hZd
      have p0 := hZd.hG.cell 0 (.slice (some ⟨gV, 0, none⟩) W.length cV) rfl
      have g1 := (show Ow 37 .u32 _ gV W.length cV W w8 from hZd.hP).at j hjn
      have hEF := Lib.hid (show Below w4.heap.size w4 w8 by rw [hw5]; exact hEx.out.drew)
      replace hZd := Lib.hid hZd
      generalize hy0 : W.getD j 0 = y0 at *
      have q2 : IntKind.u32.wrap (y0 + 1) = (y0 + 1) % 4294967296 := by rw [IntKind.wrap_u32]
      clear hZ hEx hX6
      clear hw5
      simp only [List.take_succ_cons, List.take_zero, List.drop_succ_cons, List.drop_zero]
      refine WS.step rfl (fun K hK => ?_); go_simp; (try (simp only [q2]; (try go_simp))); refine hK _ ?_; clear hK K
      refine WS.step rfl (fun K hK => ?_); go_simp; (try (simp only [q2]; (try go_simp))); refine hK _ ?_; clear hK K
      refine WS.step rfl (fun K hK => ?_); go_simp; (try (simp only [q2]; (try go_simp))); refine hK _ ?_; clear hK K
      refine WS.step rfl (fun K hK => ?_); go_simp; (try (simp only [q2]; (try go_simp))); refine hK _ ?_; clear hK K
      refine WS.step rfl (fun K hK => ?_); go_simp; (try (simp only [q2]; (try go_simp))); refine hK _ ?_; clear hK K
      refine WS.step rfl (fun K hK => ?_); go_simp; (try (simp only [q2]; (try go_simp))); refine hK _ ?_; clear hK K
      refine WS.step rfl (fun K hK => ?_); go_simp; (try (simp only [q2]; (try go_simp))); refine hK _ ?_; clear hK K
      refine WS.step rfl (fun K hK => ?_); go_simp; (try (simp only [q2]; (try go_simp))); refine hK _ ?_; clear hK K
      refine WS.step rfl (fun K hK => ?_); go_simp; (try (simp only [q2]; (try go_simp))); refine hK _ ?_; clear hK K
      refine WS.step rfl (fun K hK => ?_); go_simp; (try (simp only [q2]; (try go_simp))); refine hK _ ?_; clear hK K
      refine WS.nil ?_
      clear q2
      have f1 := (show Ow 37 .u32 _ gV W.length cV W w8 from hZd.out.hP).free j
      have hge := hZd.out.hP.from gV rfl
      have hZF := Lib.hid (hZd.out.word j ((y0 + 1) % 4294967296))
      replace hEF := Lib.hid (hEF.out.setCell (p := ⟨gV, j, none⟩) hge (.int .u32 ((y0 + 1) % 4294967296)))
      have R := Lib.hid (Ob.same_not (ss := S) (ys := Y) (ss' := S) (ys' := Y) (Or.inl (Ob.u0 hF.out.hr j hjn)))
      rw [hy0] at R
      clear hZd hge hy0
      have hXF := Lib.hid (hX.out.below hEF.out)
      have hr' : ∀ x ∈ (W.set j ((y0 + 1) % 4294967296)), 0 ≤ x ∧ x < 4294967296 := fun x hx => (List.mem_or_eq_of_mem_set hx).elim (hF.out.hr x) (fun e => by rw [e]; omega)
      replace hr' := Lib.hid hr'
      replace hB := Lib.hid (hB.out.trans (hEF.out.mono hB.out.size))
      clear hEF hX
      have o0 := hXF.out.hG.cell 0 (.slice (some ⟨gW, 0, none⟩) W.length cW) rfl
      have o1 := hXF.out.hG.cell 1 (.slice (some ⟨gS, 0, none⟩) S.length cS) rfl
      have o2 := hXF.out.hG.cell 2 (.slice C1 Y.length e1) rfl
      have p0 := hZF.out.hG.cell 0 (.slice (some ⟨gV, 0, none⟩) W.length cV) rfl
      have p1 := hZF.out.hG.cell 1 (.slice (some ⟨gT, 0, none⟩) S.length cT) rfl
      have p2 := hZF.out.hG.cell 2 (.slice C2 Y.length e2) rfl
      go_wp2_with (fail)
      clear o0 o1 o2 p0 p1 p2
      refine (Ob.same_any (hXF.out.wo hF.out.hr) hXF.out.in hXF.out.sy (hZF.out.wo hr'.out) hZF.out.in hZF.out.sy).mono ?_; rintro r w30 ⟨rfl, hE⟩
      rw [R.out]
      replace hB := Lib.hid (hB.out.trans (hE.mono hB.out.size))
      replace hXF := Lib.hid (hXF.out.below hE)
      replace hZF := Lib.hid (hZF.out.below hE)
      clear hE
      have o0 := hXF.out.hG.cell 0 (.slice (some ⟨gW, 0, none⟩) W.length cW) rfl
      have o1 := hXF.out.hG.cell 1 (.slice (some ⟨gS, 0, none⟩) S.length cS) rfl
      have o2 := hXF.out.hG.cell 2 (.slice C1 Y.length e1) rfl
      have p0 := hZF.out.hG.cell 0 (.slice (some ⟨gV, 0, none⟩) W.length cV) rfl
      have p1 := hZF.out.hG.cell 1 (.slice (some ⟨gT, 0, none⟩) S.length cT) rfl
      have p2 := hZF.out.hG.cell 2 (.slice C2 Y.length e2) rfl
      go_wp2_with (fail)
      clear o0 o1 o2 p0 p1 p2
      refine (Ob.same_any (hZF.out.wo hr'.out) hZF.out.in hZF.out.sy (hXF.out.wo hF.out.hr) hXF.out.in hXF.out.sy).mono ?_; rintro r w31 ⟨rfl, hE⟩
      rw [Ob.same_comm, R.out]
      replace hB := Lib.hid (hB.out.trans (hE.mono hB.out.size))
      replace hXF := Lib.hid (hXF.out.below hE)
      replace hZF := Lib.hid (hZF.out.below hE)
      clear hE
      have o0 := hXF.out.hG.cell 0 (.slice (some ⟨gW, 0, none⟩) W.length cW) rfl
      have o1 := hXF.out.hG.cell 1 (.slice (some ⟨gS, 0, none⟩) S.length cS) rfl
      have o2 := hXF.out.hG.cell 2 (.slice C1 Y.length e1) rfl
      have p0 := hZF.out.hG.cell 0 (.slice (some ⟨gV, 0, none⟩) W.length cV) rfl
      have p1 := hZF.out.hG.cell 1 (.slice (some ⟨gT, 0, none⟩) S.length cT) rfl
      have p2 := hZF.out.hG.cell 2 (.slice C2 Y.length e2) rfl
      go_wp2_with (fail)
      clear o0 o1 o2 p0 p1 p2
      refine (Ob.same_any (hZF.out.wo hr'.out) hZF.out.in hZF.out.sy (hZF.out.wo hr'.out) hZF.out.in hZF.out.sy).mono ?_; rintro r w32 ⟨rfl, hE⟩
      rw [Ob.same_self]
      replace hB := Lib.hid (hB.out.trans (hE.mono hB.out.size))
      replace hXF := Lib.hid (hXF.out.below hE)
      replace hZF := Lib.hid (hZF.out.below hE)
      clear hE
      go_wp2
      go_ret
      exact ⟨rfl, hB.out⟩
    · have d0 : ¬ (0 : Int) < W.length := by omega
      have R := Lib.hid (Ob.same_self W S Y)
      have hEF := hEx
      have hZF := hZ
      clear hEx hZ hX6
      have hXF := Lib.hid (hX.out.below hEF.out)
      have hr' : ∀ x ∈ W, 0 ≤ x ∧ x < 4294967296 := hF.out.hr
      replace hr' := Lib.hid hr'
      replace hB := Lib.hid (hB.out.trans (hEF.out.mono hB.out.size))
      clear hEF hX
      have o0 := hXF.out.hG.cell 0 (.slice (some ⟨gW, 0, none⟩) W.length cW) rfl
      have o1 := hXF.out.hG.cell 1 (.slice (some ⟨gS, 0, none⟩) S.length cS) rfl
      have o2 := hXF.out.hG.cell 2 (.slice C1 Y.length e1) rfl
      have p0 := hZF.out.hG.cell 0 (.slice (some ⟨gV, 0, none⟩) W.length cV) rfl
      have p1 := hZF.out.hG.cell 1 (.slice (some ⟨gT, 0, none⟩) S.length cT) rfl
      have p2 := hZF.out.hG.cell 2 (.slice C2 Y.length e2) rfl
      go_wp2_with (fail)
      clear o0 o1 o2 p0 p1 p2
      refine (Ob.same_any (hXF.out.wo hF.out.hr) hXF.out.in hXF.out.sy (hZF.out.wo hr'.out) hZF.out.in hZF.out.sy).mono ?_; rintro r w30 ⟨rfl, hE⟩
      rw [R.out]
      replace hB := Lib.hid (hB.out.trans (hE.mono hB.out.size))
      replace hXF := Lib.hid (hXF.out.below hE)
      replace hZF := Lib.hid (hZF.out.below hE)
      clear hE
      have o0 := hXF.out.hG.cell 0 (.slice (some ⟨gW, 0, none⟩) W.length cW) rfl
      have o1 := hXF.out.hG.cell 1 (.slice (some ⟨gS, 0, none⟩) S.length cS) rfl
      have o2 := hXF.out.hG.cell 2 (.slice C1 Y.length e1) rfl
      have p0 := hZF.out.hG.cell 0 (.slice (some ⟨gV, 0, none⟩) W.length cV) rfl
      have p1 := hZF.out.hG.cell 1 (.slice (some ⟨gT, 0, none⟩) S.length cT) rfl
      have p2 := hZF.out.hG.cell 2 (.slice C2 Y.length e2) rfl
      go_wp2_with (fail)
      clear o0 o1 o2 p0 p1 p2
      refine (Ob.same_any (hZF.out.wo hr'.out) hZF.out.in hZF.out.sy (hXF.out.wo hF.out.hr) hXF.out.in hXF.out.sy).mono ?_; rintro r w31 ⟨rfl, hE⟩
      rw [Ob.same_comm, R.out]
      replace hB := Lib.hid (hB.out.trans (hE.mono hB.out.size))
      replace hXF := Lib.hid (hXF.out.below hE)
      replace hZF := Lib.hid (hZF.out.below hE)
      clear hE
      have o0 := hXF.out.hG.cell 0 (.slice (some ⟨gW, 0, none⟩) W.length cW) rfl
      have o1 := hXF.out.hG.cell 1 (.slice (some ⟨gS, 0, none⟩) S.length cS) rfl
      have o2 := hXF.out.hG.cell 2 (.slice C1 Y.length e1) rfl
      have p0 := hZF.out.hG.cell 0 (.slice (some ⟨gV, 0, none⟩) W.length cV) rfl
      have p1 := hZF.out.hG.cell 1 (.slice (some ⟨gT, 0, none⟩) S.length cT) rfl
      have p2 := hZF.out.hG.cell 2 (.slice C2 Y.length e2) rfl
      go_wp2_with (fail)
      clear o0 o1 o2 p0 p1 p2
      refine (Ob.same_any (hZF.out.wo hr'.out) hZF.out.in hZF.out.sy (hZF.out.wo hr'.out) hZF.out.in hZF.out.sy).mono ?_; rintro r w32 ⟨rfl, hE⟩
      rw [Ob.same_self]
      replace hB := Lib.hid (hB.out.trans (hE.mono hB.out.size))
      replace hXF := Lib.hid (hXF.out.below hE)
      replace hZF := Lib.hid (hZF.out.below hE)
      clear hE
      go_wp2
      go_ret
      exact ⟨rfl, hB.out⟩
  · by_cases dd : 0 < S.length
    · have d0 : (0 : Int) < S.length := by omega
      obtain ⟨l, hl⟩ : ∃ l, S.length = l + 1 := ⟨S.length - 1, by omega⟩
      have hl2 : (S.length : Int) - 1 = l := by omega
      replace hl := Lib.hid hl
      have hlc : l ≤ cT := by have := hZ.out.hQ.rg.le; have := hl.out; omega
      have f1 := hZ.out.hG.free 1
      have hge := hZ.out.hO
      have hZF := Lib.hid (hZ.out.row1 (hZ.out.hQ.take l (by have := hl.out; omega)))
      have hEF := Lib.hid (hEx.out.setCell (p := ⟨U, 1, none⟩) hge (.slice (some ⟨gT, 0, none⟩) l cT))
      have R := Lib.hid (Ob.same_not (ws := W) (ys := Y) (ws' := W) (ys' := Y) (Or.inr (Or.inl (Ob.ne_longer (l := S) (m := S.take l) (by have := hl.out; rw [List.length_take]; omega)))))
      have q0 := hZ.out.hG.cell 0 (.slice (some ⟨gV, 0, none⟩) W.length cV) rfl
      have q1 := hZ.out.hG.cell 1 (.slice (some ⟨gT, 0, none⟩) S.length cT) rfl
      have q2 := hZ.out.hG.cell 2 (.slice C2 Y.length e2) rfl
      clear hZ hEx hX6 hge
      have hXF := Lib.hid (hX.out.below hEF.out)
      have hr' : ∀ x ∈ W, 0 ≤ x ∧ x < 4294967296 := hF.out.hr
      replace hr' := Lib.hid hr'
      replace hB := Lib.hid (hB.out.trans (hEF.out.mono hB.out.size))
      clear hEF hX
      have o0 := hXF.out.hG.cell 0 (.slice (some ⟨gW, 0, none⟩) W.length cW) rfl
      have o1 := hXF.out.hG.cell 1 (.slice (some ⟨gS, 0, none⟩) S.length cS) rfl
      have o2 := hXF.out.hG.cell 2 (.slice C1 Y.length e1) rfl
      have p0 := hZF.out.hG.cell 0 (.slice (some ⟨gV, 0, none⟩) W.length cV) rfl
      have p1 := hZF.out.hG.cell 1 (.slice (some ⟨gT, 0, none⟩) l cT) rfl
      have p2 := hZF.out.hG.cell 2 (.slice C2 Y.length e2) rfl
      go_wp2_with (fail)
      clear o0 o1 o2 p0 p1 p2
      refine (Ob.same_any (hXF.out.wo hF.out.hr) hXF.out.in hXF.out.sy (hZF.out.wo hr'.out) hZF.out.in hZF.out.sy).mono ?_; rintro r w30 ⟨rfl, hE⟩
      rw [R.out]
      replace hB := Lib.hid (hB.out.trans (hE.mono hB.out.size))
      replace hXF := Lib.hid (hXF.out.below hE)
      replace hZF := Lib.hid (hZF.out.below hE)
      clear hE
      have o0 := hXF.out.hG.cell 0 (.slice (some ⟨gW, 0, none⟩) W.length cW) rfl
      have o1 := hXF.out.hG.cell 1 (.slice (some ⟨gS, 0, none⟩) S.length cS) rfl
      have o2 := hXF.out.hG.cell 2 (.slice C1 Y.length e1) rfl
      have p0 := hZF.out.hG.cell 0 (.slice (some ⟨gV, 0, none⟩) W.length cV) rfl
      have p1 := hZF.out.hG.cell 1 (.slice (some ⟨gT, 0, none⟩) l cT) rfl
      have p2 := hZF.out.hG.cell 2 (.slice C2 Y.length e2) rfl
      go_wp2_with (fail)
      clear o0 o1 o2 p0 p1 p2
      refine (Ob.same_any (hZF.out.wo hr'.out) hZF.out.in hZF.out.sy (hXF.out.wo hF.out.hr) hXF.out.in hXF.out.sy).mono ?_; rintro r w31 ⟨rfl, hE⟩
      rw [Ob.same_comm, R.out]
      replace hB := Lib.hid (hB.out.trans (hE.mono hB.out.size))
      replace hXF := Lib.hid (hXF.out.below hE)
      replace hZF := Lib.hid (hZF.out.below hE)
      clear hE
      have o0 := hXF.out.hG.cell 0 (.slice (some ⟨gW, 0, none⟩) W.length cW) rfl
      have o1 := hXF.out.hG.cell 1 (.slice (some ⟨gS, 0, none⟩) S.length cS) rfl
      have o2 := hXF.out.hG.cell 2 (.slice C1 Y.length e1) rfl
      have p0 := hZF.out.hG.cell 0 (.slice (some ⟨gV, 0, none⟩) W.length cV) rfl
      have p1 := hZF.out.hG.cell 1 (.slice (some ⟨gT, 0, none⟩) l cT) rfl
      have p2 := hZF.out.hG.cell 2 (.slice C2 Y.length e2) rfl
      go_wp2_with (fail)
      clear o0 o1 o2 p0 p1 p2
      refine (Ob.same_any (hZF.out.wo hr'.out) hZF.out.in hZF.out.sy (hZF.out.wo hr'.out) hZF.out.in hZF.out.sy).mono ?_; rintro r w32 ⟨rfl, hE⟩
      rw [Ob.same_self]
      replace hB := Lib.hid (hB.out.trans (hE.mono hB.out.size))
      replace hXF := Lib.hid (hXF.out.below hE)
      replace hZF := Lib.hid (hZF.out.below hE)
      clear hE
      go_wp2
      go_ret
      exact ⟨rfl, hB.out⟩
    · have d0 : ¬ (0 : Int) < S.length := by omega
      have R := Lib.hid (Ob.same_self W S Y)
      have hEF := hEx
      have hZF := hZ
      clear hEx hZ hX6
      have hXF := Lib.hid (hX.out.below hEF.out)
      have hr' : ∀ x ∈ W, 0 ≤ x ∧ x < 4294967296 := hF.out.hr
      replace hr' := Lib.hid hr'
      replace hB := Lib.hid (hB.out.trans (hEF.out.mono hB.out.size))
      clear hEF hX
      have o0 := hXF.out.hG.cell 0 (.slice (some ⟨gW, 0, none⟩) W.length cW) rfl
      have o1 := hXF.out.hG.cell 1 (.slice (some ⟨gS, 0, none⟩) S.length cS) rfl
      have o2 := hXF.out.hG.cell 2 (.slice C1 Y.length e1) rfl
      have p0 := hZF.out.hG.cell 0 (.slice (some ⟨gV, 0, none⟩) W.length cV) rfl
      have p1 := hZF.out.hG.cell 1 (.slice (some ⟨gT, 0, none⟩) S.length cT) rfl
      have p2 := hZF.out.hG.cell 2 (.slice C2 Y.length e2) rfl
      go_wp2_with (fail)
      clear o0 o1 o2 p0 p1 p2
      refine (Ob.same_any (hXF.out.wo hF.out.hr) hXF.out.in hXF.out.sy (hZF.out.wo hr'.out) hZF.out.in hZF.out.sy).mono ?_; rintro r w30 ⟨rfl, hE⟩
      rw [R.out]
      replace hB := Lib.hid (hB.out.trans (hE.mono hB.out.size))
      replace hXF := Lib.hid (hXF.out.below hE)
      replace hZF := Lib.hid (hZF.out.below hE)
      clear hE
      have o0 := hXF.out.hG.cell 0 (.slice (some ⟨gW, 0, none⟩) W.length cW) rfl
      have o1 := hXF.out.hG.cell 1 (.slice (some ⟨gS, 0, none⟩) S.length cS) rfl
      have o2 := hXF.out.hG.cell 2 (.slice C1 Y.length e1) rfl
      have p0 := hZF.out.hG.cell 0 (.slice (some ⟨gV, 0, none⟩) W.length cV) rfl
      have p1 := hZF.out.hG.cell 1 (.slice (some ⟨gT, 0, none⟩) S.length cT) rfl
      have p2 := hZF.out.hG.cell 2 (.slice C2 Y.length e2) rfl
      go_wp2_with (fail)
      clear o0 o1 o2 p0 p1 p2
      refine (Ob.same_any (hZF.out.wo hr'.out) hZF.out.in hZF.out.sy (hXF.out.wo hF.out.hr) hXF.out.in hXF.out.sy).mono ?_; rintro r w31 ⟨rfl, hE⟩
      rw [Ob.same_comm, R.out]
      replace hB := Lib.hid (hB.out.trans (hE.mono hB.out.size))
      replace hXF := Lib.hid (hXF.out.below hE)
      replace hZF := Lib.hid (hZF.out.below hE)
      clear hE
      have o0 := hXF.out.hG.cell 0 (.slice (some ⟨gW, 0, none⟩) W.length cW) rfl
      have o1 := hXF.out.hG.cell 1 (.slice (some ⟨gS, 0, none⟩) S.length cS) rfl
      have o2 := hXF.out.hG.cell 2 (.slice C1 Y.length e1) rfl
      have p0 := hZF.out.hG.cell 0 (.slice (some ⟨gV, 0, none⟩) W.length cV) rfl
      have p1 := hZF.out.hG.cell 1 (.slice (some ⟨gT, 0, none⟩) S.length cT) rfl
      have p2 := hZF.out.hG.cell 2 (.slice C2 Y.length e2) rfl
      go_wp2_with (fail)
      clear o0 o1 o2 p0 p1 p2
      refine (Ob.same_any (hZF.out.wo hr'.out) hZF.out.in hZF.out.sy (hZF.out.wo hr'.out) hZF.out.in hZF.out.sy).mono ?_; rintro r w32 ⟨rfl, hE⟩
      rw [Ob.same_self]
      replace hB := Lib.hid (hB.out.trans (hE.mono hB.out.size))
      replace hXF := Lib.hid (hXF.out.below hE)
      replace hZF := Lib.hid (hZF.out.below hE)
      clear hE
      go_wp2
      go_ret
      exact ⟨rfl, hB.out⟩
  · by_cases dd : 0 < Y.length
    · have d0 : (0 : Int) < Y.length := by omega
      obtain ⟨j, hj⟩ := Int.eq_ofNat_of_zero_le (Int.emod_nonneg a2 (show (Y.length : Int) ≠ 0 by omega))
      have hj2 := Int.emod_lt_of_pos a2 (show (0 : Int) < Y.length by omega)
      rw [hj] at hj2
      have hjn : j < Y.length := by omega
      obtain ⟨g, rfl⟩ : ∃ g, C2 = some ⟨g, 0, none⟩ := by
        rcases hZ.out.hY.cases with ⟨_, h0, _⟩ | ⟨g, rfl, _⟩
        · omega
        · exact ⟨g, rfl⟩
      have p0 := hZ.out.hG.cell 0 (.slice (some ⟨gV, 0, none⟩) W.length cV) rfl
      have p1 := hZ.out.hG.cell 1 (.slice (some ⟨gT, 0, none⟩) S.length cT) rfl
      have p2 := hZ.out.hG.cell 2 (.slice (some ⟨g, 0, none⟩) Y.length e2) rfl
      go_wp2_with (fail)
      clear p0 p1 p2
      refine WS.start 12 (by kernel_rfl) (by kernel_rfl) ?_
      intro w8 hw5
      have hZd := hZ.out.drew
      rw [← hw5] at hZd
      have p2 := hZd.hG.cell 2 (.slice (some ⟨g, 0, none⟩) Y.length e2) rfl
      have g1 := hZd.hY.sy.name j hjn
      rw [Nat.zero_add] at g1
      have hEF := Lib.hid (show Below w4.heap.size w4 w8 by rw [hw5]; exact hEx.out.drew)
      have f1 := hZd.hY.free (j * 2)
      replace hZd := Lib.hid hZd
      clear hZ hEx hX6
      have hsz : (Ob.nm Y j).size ≤ 7 := by rw [Ob.nm_get hjn]; exact hF.out.hS _ (List.getElem_mem hjn)
      generalize hs0 : Ob.nm Y j = s at *
      have q2 : (9223372036854775807 < s.size + 1) = False := eq_false (by omega)
      clear hw5
      simp only [List.take_succ_cons, List.take_zero, List.drop_succ_cons, List.drop_zero]
      refine WS.step rfl (fun K hK => ?_); go_simp; (try (simp only [q2, if_false]; (try go_simp))); refine hK _ ?_; clear hK K
      refine WS.step rfl (fun K hK => ?_); go_simp; (try (simp only [q2, if_false]; (try go_simp))); refine hK _ ?_; clear hK K
      refine WS.step rfl (fun K hK => ?_); go_simp; (try (simp only [q2, if_false]; (try go_simp))); refine hK _ ?_; clear hK K
      refine WS.step rfl (fun K hK => ?_); go_simp; (try (simp only [q2, if_false]; (try go_simp))); refine hK _ ?_; clear hK K
      refine WS.step rfl (fun K hK => ?_); go_simp; (try (simp only [q2, if_false]; (try go_simp))); refine hK _ ?_; clear hK K
      refine WS.step rfl (fun K hK => ?_); go_simp; (try (simp only [q2, if_false]; (try go_simp))); refine hK _ ?_; clear hK K
      refine WS.step rfl (fun K hK => ?_); go_simp; (try (simp only [q2, if_false]; (try go_simp))); refine hK _ ?_; clear hK K
      refine WS.step rfl (fun K hK => ?_); go_simp; (try (simp only [q2, if_false]; (try go_simp))); refine hK _ ?_; clear hK K
      refine WS.step rfl (fun K hK => ?_); go_simp; (try (simp only [q2, if_false]; (try go_simp))); refine hK _ ?_; clear hK K
      refine WS.step rfl (fun K hK => ?_); go_simp; (try (simp only [q2, if_false]; (try go_simp))); refine hK _ ?_; clear hK K
      refine WS.step rfl (fun K hK => ?_); go_simp; (try (simp only [q2, if_false]; (try go_simp))); refine hK _ ?_; clear hK K
      refine WS.step rfl (fun K hK => ?_); go_simp; (try (simp only [q2, if_false]; (try go_simp))); refine hK _ ?_; clear hK K
      refine WS.nil ?_
      clear q2
      have hge := hZd.out.hY.from g rfl
      have hZF := Lib.hid (hZd.out.name j hjn (s ++ ⟨#[95]⟩))
      replace hEF := Lib.hid (hEF.out.setCell (p := ⟨g, j * 2, none⟩) hge (.string (s ++ ⟨#[95]⟩)))
      have R := Lib.hid (Ob.same_not (ws := W) (ss := S) (ws' := W) (ss' := S) (Or.inr (Or.inr (Ob.u2 j hjn))))
      rw [hs0] at R
      clear hZd hge hs0
      have hXF := Lib.hid (hX.out.below hEF.out)
      have hr' : ∀ x ∈ W, 0 ≤ x ∧ x < 4294967296 := hF.out.hr
      replace hr' := Lib.hid hr'
      replace hB := Lib.hid (hB.out.trans (hEF.out.mono hB.out.size))
      clear hEF hX
      have o0 := hXF.out.hG.cell 0 (.slice (some ⟨gW, 0, none⟩) W.length cW) rfl
      have o1 := hXF.out.hG.cell 1 (.slice (some ⟨gS, 0, none⟩) S.length cS) rfl
      have o2 := hXF.out.hG.cell 2 (.slice C1 Y.length e1) rfl
      have p0 := hZF.out.hG.cell 0 (.slice (some ⟨gV, 0, none⟩) W.length cV) rfl
      have p1 := hZF.out.hG.cell 1 (.slice (some ⟨gT, 0, none⟩) S.length cT) rfl
      have p2 := hZF.out.hG.cell 2 (.slice (some ⟨g, 0, none⟩) Y.length e2) rfl
      go_wp2_with (fail)
      clear o0 o1 o2 p0 p1 p2
      refine (Ob.same_any (hXF.out.wo hF.out.hr) hXF.out.in hXF.out.sy (hZF.out.wo hr'.out) hZF.out.in hZF.out.sy).mono ?_; rintro r w30 ⟨rfl, hE⟩
      rw [R.out]
      replace hB := Lib.hid (hB.out.trans (hE.mono hB.out.size))
      replace hXF := Lib.hid (hXF.out.below hE)
      replace hZF := Lib.hid (hZF.out.below hE)
      clear hE
      have o0 := hXF.out.hG.cell 0 (.slice (some ⟨gW, 0, none⟩) W.length cW) rfl
      have o1 := hXF.out.hG.cell 1 (.slice (some ⟨gS, 0, none⟩) S.length cS) rfl
      have o2 := hXF.out.hG.cell 2 (.slice C1 Y.length e1) rfl
      have p0 := hZF.out.hG.cell 0 (.slice (some ⟨gV, 0, none⟩) W.length cV) rfl
      have p1 := hZF.out.hG.cell 1 (.slice (some ⟨gT, 0, none⟩) S.length cT) rfl
      have p2 := hZF.out.hG.cell 2 (.slice (some ⟨g, 0, none⟩) Y.length e2) rfl
      go_wp2_with (fail)
      clear o0 o1 o2 p0 p1 p2
      refine (Ob.same_any (hZF.out.wo hr'.out) hZF.out.in hZF.out.sy (hXF.out.wo hF.out.hr) hXF.out.in hXF.out.sy).mono ?_; rintro r w31 ⟨rfl, hE⟩
      rw [Ob.same_comm, R.out]
      replace hB := Lib.hid (hB.out.trans (hE.mono hB.out.size))
      replace hXF := Lib.hid (hXF.out.below hE)
      replace hZF := Lib.hid (hZF.out.below hE)
      clear hE
      have o0 := hXF.out.hG.cell 0 (.slice (some ⟨gW, 0, none⟩) W.length cW) rfl
      have o1 := hXF.out.hG.cell 1 (.slice (some ⟨gS, 0, none⟩) S.length cS) rfl
      have o2 := hXF.out.hG.cell 2 (.slice C1 Y.length e1) rfl
      have p0 := hZF.out.hG.cell 0 (.slice (some ⟨gV, 0, none⟩) W.length cV) rfl
      have p1 := hZF.out.hG.cell 1 (.slice (some ⟨gT, 0, none⟩) S.length cT) rfl
      have p2 := hZF.out.hG.cell 2 (.slice (some ⟨g, 0, none⟩) Y.length e2) rfl
      go_wp2_with (fail)
      clear o0 o1 o2 p0 p1 p2
      refine (Ob.same_any (hZF.out.wo hr'.out) hZF.out.in hZF.out.sy (hZF.out.wo hr'.out) hZF.out.in hZF.out.sy).mono ?_; rintro r w32 ⟨rfl, hE⟩
      rw [Ob.same_self]
      replace hB := Lib.hid (hB.out.trans (hE.mono hB.out.size))
      replace hXF := Lib.hid (hXF.out.below hE)
      replace hZF := Lib.hid (hZF.out.below hE)
      clear hE
      go_wp2
      go_ret
      exact ⟨rfl, hB.out⟩
    · have d0 : ¬ (0 : Int) < Y.length := by omega
      have R := Lib.hid (Ob.same_self W S Y)
      have hEF := hEx
      have hZF := hZ
      clear hEx hZ hX6
      have hXF := Lib.hid (hX.out.below hEF.out)
      have hr' : ∀ x ∈ W, 0 ≤ x ∧ x < 4294967296 := hF.out.hr
      replace hr' := Lib.hid hr'
      replace hB := Lib.hid (hB.out.trans (hEF.out.mono hB.out.size))
      clear hEF hX
      have o0 := hXF.out.hG.cell 0 (.slice (some ⟨gW, 0, none⟩) W.length cW) rfl
      have o1 := hXF.out.hG.cell 1 (.slice (some ⟨gS, 0, none⟩) S.length cS) rfl
      have o2 := hXF.out.hG.cell 2 (.slice C1 Y.length e1) rfl
      have p0 := hZF.out.hG.cell 0 (.slice (some ⟨gV, 0, none⟩) W.length cV) rfl
      have p1 := hZF.out.hG.cell 1 (.slice (some ⟨gT, 0, none⟩) S.length cT) rfl
      have p2 := hZF.out.hG.cell 2 (.slice C2 Y.length e2) rfl
      go_wp2_with (fail)
      clear o0 o1 o2 p0 p1 p2
      refine (Ob.same_any (hXF.out.wo hF.out.hr) hXF.out.in hXF.out.sy (hZF.out.wo hr'.out) hZF.out.in hZF.out.sy).mono ?_; rintro r w30 ⟨rfl, hE⟩
      rw [R.out]
      replace hB := Lib.hid (hB.out.trans (hE.mono hB.out.size))
      replace hXF := Lib.hid (hXF.out.below hE)
      replace hZF := Lib.hid (hZF.out.below hE)
      clear hE
      have o0 := hXF.out.hG.cell 0 (.slice (some ⟨gW, 0, none⟩) W.length cW) rfl
      have o1 := hXF.out.hG.cell 1 (.slice (some ⟨gS, 0, none⟩) S.length cS) rfl
      have o2 := hXF.out.hG.cell 2 (.slice C1 Y.length e1) rfl
      have p0 := hZF.out.hG.cell 0 (.slice (some ⟨gV, 0, none⟩) W.length cV) rfl
      have p1 := hZF.out.hG.cell 1 (.slice (some ⟨gT, 0, none⟩) S.length cT) rfl
      have p2 := hZF.out.hG.cell 2 (.slice C2 Y.length e2) rfl
      go_wp2_with (fail)
      clear o0 o1 o2 p0 p1 p2
      refine (Ob.same_any (hZF.out.wo hr'.out) hZF.out.in hZF.out.sy (hXF.out.wo hF.out.hr) hXF.out.in hXF.out.sy).mono ?_; rintro r w31 ⟨rfl, hE⟩
      rw [Ob.same_comm, R.out]
      replace hB := Lib.hid (hB.out.trans (hE.mono hB.out.size))
      replace hXF := Lib.hid (hXF.out.below hE)
      replace hZF := Lib.hid (hZF.out.below hE)
      clear hE
      have o0 := hXF.out.hG.cell 0 (.slice (some ⟨gW, 0, none⟩) W.length cW) rfl
      have o1 := hXF.out.hG.cell 1 (.slice (some ⟨gS, 0, none⟩) S.length cS) rfl
      have o2 := hXF.out.hG.cell 2 (.slice C1 Y.length e1) rfl
      have p0 := hZF.out.hG.cell 0 (.slice (some ⟨gV, 0, none⟩) W.length cV) rfl
      have p1 := hZF.out.hG.cell 1 (.slice (some ⟨gT, 0, none⟩) S.length cT) rfl
      have p2 := hZF.out.hG.cell 2 (.slice C2 Y.length e2) rfl
      go_wp2_with (fail)
      clear o0 o1 o2 p0 p1 p2
      refine (Ob.same_any (hZF.out.wo hr'.out) hZF.out.in hZF.out.sy (hZF.out.wo hr'.out) hZF.out.in hZF.out.sy).mono ?_; rintro r w32 ⟨rfl, hE⟩
      rw [Ob.same_self]
      replace hB := Lib.hid (hB.out.trans (hE.mono hB.out.size))
      replace hXF := Lib.hid (hXF.out.below hE)
      replace hZF := Lib.hid (hZF.out.below hE)
      clear hE
      go_wp2
      go_ret
      exact ⟨rfl, hB.out⟩
  · by_cases dd : 0 < Y.length
    · have d0 : (0 : Int) < Y.length := by omega
      obtain ⟨j, hj⟩ := Int.eq_ofNat_of_zero_le (Int.emod_nonneg a2 (show (Y.length : Int) ≠ 0 by omega))
      have hj2 := Int.emod_lt_of_pos a2 (show (0 : Int) < Y.length by omega)
      rw [hj] at hj2
      have hjn : j < Y.length := by omega
      obtain ⟨g, rfl⟩ : ∃ g, C2 = some ⟨g, 0, none⟩ := by
        rcases hZ.out.hY.cases with ⟨_, h0, _⟩ | ⟨g, rfl, _⟩
        · omega
        · exact ⟨g, rfl⟩
      have p0 := hZ.out.hG.cell 0 (.slice (some ⟨gV, 0, none⟩) W.length cV) rfl
      have p1 := hZ.out.hG.cell 1 (.slice (some ⟨gT, 0, none⟩) S.length cT) rfl
      have p2 := hZ.out.hG.cell 2 (.slice (some ⟨g, 0, none⟩) Y.length e2) rfl
      go_wp2_with (fail)
      clear p0 p1 p2
      refine WS.start 12 (by kernel_rfl) (by kernel_rfl) ?_
      intro w8 hw5
      have hZd := hZ.out.drew
      rw [← hw5] at hZd
      have p2 := hZd.hG.cell 2 (.slice (some ⟨g, 0, none⟩) Y.length e2) rfl
      have g1 := hZd.hY.sy.at j hjn
      rw [Nat.zero_add] at g1
      have hEF := Lib.hid (show Below w4.heap.size w4 w8 by rw [hw5]; exact hEx.out.drew)
      have f1 := hZd.hY.free (j * 2 + 1)
      replace hZd := Lib.hid hZd
      clear hZ hEx hX6
      have hpl := hF.out.hP _ (List.getElem_mem hjn)
      rw [← Ob.pl_get hjn] at hpl
      generalize hs0 : Ob.pl Y j = a at *
      have q2 : IntKind.i64.wrap (a + 4) = a + 4 := by rw [IntKind.wrap_i64]; omega
      clear hw5
      simp only [List.take_succ_cons, List.take_zero, List.drop_succ_cons, List.drop_zero]
      refine WS.step rfl (fun K hK => ?_); go_simp; (try (simp only [q2]; (try go_simp))); refine hK _ ?_; clear hK K
      refine WS.step rfl (fun K hK => ?_); go_simp; (try (simp only [q2]; (try go_simp))); refine hK _ ?_; clear hK K
      refine WS.step rfl (fun K hK => ?_); go_simp; (try (simp only [q2]; (try go_simp))); refine hK _ ?_; clear hK K
      refine WS.step rfl (fun K hK => ?_); go_simp; (try (simp only [q2]; (try go_simp))); refine hK _ ?_; clear hK K
      refine WS.step rfl (fun K hK => ?_); go_simp; (try (simp only [q2]; (try go_simp))); refine hK _ ?_; clear hK K
      refine WS.step rfl (fun K hK => ?_); go_simp; (try (simp only [q2]; (try go_simp))); refine hK _ ?_; clear hK K
      refine WS.step rfl (fun K hK => ?_); go_simp; (try (simp only [q2]; (try go_simp))); refine hK _ ?_; clear hK K
      refine WS.step rfl (fun K hK => ?_); go_simp; (try (simp only [q2]; (try go_simp))); refine hK _ ?_; clear hK K
      refine WS.step rfl (fun K hK => ?_); go_simp; (try (simp only [q2]; (try go_simp))); refine hK _ ?_; clear hK K
      refine WS.step rfl (fun K hK => ?_); go_simp; (try (simp only [q2]; (try go_simp))); refine hK _ ?_; clear hK K
      refine WS.step rfl (fun K hK => ?_); go_simp; (try (simp only [q2]; (try go_simp))); refine hK _ ?_; clear hK K
      refine WS.step rfl (fun K hK => ?_); go_simp; (try (simp only [q2]; (try go_simp))); refine hK _ ?_; clear hK K
      refine WS.nil ?_
      clear q2
      have hge := hZd.out.hY.from g rfl
      have hZF := Lib.hid (hZd.out.place j hjn (a + 4))
      replace hEF := Lib.hid (hEF.out.setCell (p := ⟨g, j * 2 + 1, none⟩) hge (.int .i64 (a + 4)))
      have R := Lib.hid (Ob.same_not (ws := W) (ss := S) (ws' := W) (ss' := S) (Or.inr (Or.inr (Ob.u3 j hjn))))
      rw [hs0] at R
      clear hZd hge hs0
      have hXF := Lib.hid (hX.out.below hEF.out)
      have hr' : ∀ x ∈ W, 0 ≤ x ∧ x < 4294967296 := hF.out.hr
      replace hr' := Lib.hid hr'
      replace hB := Lib.hid (hB.out.trans (hEF.out.mono hB.out.size))
      clear hEF hX
      have o0 := hXF.out.hG.cell 0 (.slice (some ⟨gW, 0, none⟩) W.length cW) rfl
      have o1 := hXF.out.hG.cell 1 (.slice (some ⟨gS, 0, none⟩) S.length cS) rfl
      have o2 := hXF.out.hG.cell 2 (.slice C1 Y.length e1) rfl
      have p0 := hZF.out.hG.cell 0 (.slice (some ⟨gV, 0, none⟩) W.length cV) rfl
      have p1 := hZF.out.hG.cell 1 (.slice (some ⟨gT, 0, none⟩) S.length cT) rfl
      have p2 := hZF.out.hG.cell 2 (.slice (some ⟨g, 0, none⟩) Y.length e2) rfl
      go_wp2_with (fail)
      clear o0 o1 o2 p0 p1 p2
      refine (Ob.same_any (hXF.out.wo hF.out.hr) hXF.out.in hXF.out.sy (hZF.out.wo hr'.out) hZF.out.in hZF.out.sy).mono ?_; rintro r w30 ⟨rfl, hE⟩
      rw [R.out]
      replace hB := Lib.hid (hB.out.trans (hE.mono hB.out.size))
      replace hXF := Lib.hid (hXF.out.below hE)
      replace hZF := Lib.hid (hZF.out.below hE)
      clear hE
      have o0 := hXF.out.hG.cell 0 (.slice (some ⟨gW, 0, none⟩) W.length cW) rfl
      have o1 := hXF.out.hG.cell 1 (.slice (some ⟨gS, 0, none⟩) S.length cS) rfl
      have o2 := hXF.out.hG.cell 2 (.slice C1 Y.length e1) rfl
      have p0 := hZF.out.hG.cell 0 (.slice (some ⟨gV, 0, none⟩) W.length cV) rfl
      have p1 := hZF.out.hG.cell 1 (.slice (some ⟨gT, 0, none⟩) S.length cT) rfl
      have p2 := hZF.out.hG.cell 2 (.slice (some ⟨g, 0, none⟩) Y.length e2) rfl
      go_wp2_with (fail)
      clear o0 o1 o2 p0 p1 p2
      refine (Ob.same_any (hZF.out.wo hr'.out) hZF.out.in hZF.out.sy (hXF.out.wo hF.out.hr) hXF.out.in hXF.out.sy).mono ?_; rintro r w31 ⟨rfl, hE⟩
      rw [Ob.same_comm, R.out]
      replace hB := Lib.hid (hB.out.trans (hE.mono hB.out.size))
      replace hXF := Lib.hid (hXF.out.below hE)
      replace hZF := Lib.hid (hZF.out.below hE)
      clear hE
      have o0 := hXF.out.hG.cell 0 (.slice (some ⟨gW, 0, none⟩) W.length cW) rfl
      have o1 := hXF.out.hG.cell 1 (.slice (some ⟨gS, 0, none⟩) S.length cS) rfl
      have o2 := hXF.out.hG.cell 2 (.slice C1 Y.length e1) rfl
      have p0 := hZF.out.hG.cell 0 (.slice (some ⟨gV, 0, none⟩) W.length cV) rfl
      have p1 := hZF.out.hG.cell 1 (.slice (some ⟨gT, 0, none⟩) S.length cT) rfl
      have p2 := hZF.out.hG.cell 2 (.slice (some ⟨g, 0, none⟩) Y.length e2) rfl
      go_wp2_with (fail)
      clear o0 o1 o2 p0 p1 p2
      refine (Ob.same_any (hZF.out.wo hr'.out) hZF.out.in hZF.out.sy (hZF.out.wo hr'.out) hZF.out.in hZF.out.sy).mono ?_; rintro r w32 ⟨rfl, hE⟩
      rw [Ob.same_self]
      replace hB := Lib.hid (hB.out.trans (hE.mono hB.out.size))
      replace hXF := Lib.hid (hXF.out.below hE)
      replace hZF := Lib.hid (hZF.out.below hE)
      clear hE
      go_wp2
      go_ret
      exact ⟨rfl, hB.out⟩
    · have d0 : ¬ (0 : Int) < Y.length := by omega
      have R := Lib.hid (Ob.same_self W S Y)
      have hEF := hEx
      have hZF := hZ
      clear hEx hZ hX6
      have hXF := Lib.hid (hX.out.below hEF.out)
      have hr' : ∀ x ∈ W, 0 ≤ x ∧ x < 4294967296 := hF.out.hr
      replace hr' := Lib.hid hr'
      replace hB := Lib.hid (hB.out.trans (hEF.out.mono hB.out.size))
      clear hEF hX
      have o0 := hXF.out.hG.cell 0 (.slice (some ⟨gW, 0, none⟩) W.length cW) rfl
      have o1 := hXF.out.hG.cell 1 (.slice (some ⟨gS, 0, none⟩) S.length cS) rfl
      have o2 := hXF.out.hG.cell 2 (.slice C1 Y.length e1) rfl
      have p0 := hZF.out.hG.cell 0 (.slice (some ⟨gV, 0, none⟩) W.length cV) rfl
      have p1 := hZF.out.hG.cell 1 (.slice (some ⟨gT, 0, none⟩) S.length cT) rfl
      have p2 := hZF.out.hG.cell 2 (.slice C2 Y.length e2) rfl
      go_wp2_with (fail)
      clear o0 o1 o2 p0 p1 p2
      refine (Ob.same_any (hXF.out.wo hF.out.hr) hXF.out.in hXF.out.sy (hZF.out.wo hr'.out) hZF.out.in hZF.out.sy).mono ?_; rintro r w30 ⟨rfl, hE⟩
      rw [R.out]
      replace hB := Lib.hid (hB.out.trans (hE.mono hB.out.size))
      replace hXF := Lib.hid (hXF.out.below hE)
      replace hZF := Lib.hid (hZF.out.below hE)
      clear hE
      have o0 := hXF.out.hG.cell 0 (.slice (some ⟨gW, 0, none⟩) W.length cW) rfl
      have o1 := hXF.out.hG.cell 1 (.slice (some ⟨gS, 0, none⟩) S.length cS) rfl
      have o2 := hXF.out.hG.cell 2 (.slice C1 Y.length e1) rfl
      have p0 := hZF.out.hG.cell 0 (.slice (some ⟨gV, 0, none⟩) W.length cV) rfl
      have p1 := hZF.out.hG.cell 1 (.slice (some ⟨gT, 0, none⟩) S.length cT) rfl
      have p2 := hZF.out.hG.cell 2 (.slice C2 Y.length e2) rfl
      go_wp2_with (fail)
      clear o0 o1 o2 p0 p1 p2
      refine (Ob.same_any (hZF.out.wo hr'.out) hZF.out.in hZF.out.sy (hXF.out.wo hF.out.hr) hXF.out.in hXF.out.sy).mono ?_; rintro r w31 ⟨rfl, hE⟩
      rw [Ob.same_comm, R.out]
      replace hB := Lib.hid (hB.out.trans (hE.mono hB.out.size))
      replace hXF := Lib.hid (hXF.out.below hE)
      replace hZF := Lib.hid (hZF.out.below hE)
      clear hE
      have o0 := hXF.out.hG.cell 0 (.slice (some ⟨gW, 0, none⟩) W.length cW) rfl
      have o1 := hXF.out.hG.cell 1 (.slice (some ⟨gS, 0, none⟩) S.length cS) rfl
      have o2 := hXF.out.hG.cell 2 (.slice C1 Y.length e1) rfl
      have p0 := hZF.out.hG.cell 0 (.slice (some ⟨gV, 0, none⟩) W.length cV) rfl
      have p1 := hZF.out.hG.cell 1 (.slice (some ⟨gT, 0, none⟩) S.length cT) rfl
      have p2 := hZF.out.hG.cell 2 (.slice C2 Y.length e2) rfl
      go_wp2_with (fail)
      clear o0 o1 o2 p0 p1 p2
      refine (Ob.same_any (hZF.out.wo hr'.out) hZF.out.in hZF.out.sy (hZF.out.wo hr'.out) hZF.out.in hZF.out.sy).mono ?_; rintro r w32 ⟨rfl, hE⟩
      rw [Ob.same_self]
      replace hB := Lib.hid (hB.out.trans (hE.mono hB.out.size))
      replace hXF := Lib.hid (hXF.out.below hE)
      replace hZF := Lib.hid (hZF.out.below hE)
      clear hE
      go_wp2
      go_ret
      exact ⟨rfl, hB.out⟩
  · have hA4 := ((Kept.refl w6).alloc #[.int .u32 0] 37).below
    have hZ4 := hZ.out.below hA4
    have hY4 := Lib.hid (Rg.one (Has.new #[.int .u32 0] 37 w6))
    have hE4 := Lib.hid (hEx.out.trans (hA4.mono hEx.out.size))
    have hs0 := hZ4.low
    have p0 := hZ.out.hG.cell 0 (.slice (some ⟨gV, 0, none⟩) W.length cV) rfl
    have p1 := hZ.out.hG.cell 1 (.slice (some ⟨gT, 0, none⟩) S.length cT) rfl
    have p2 := hZ.out.hG.cell 2 (.slice C2 Y.length e2) rfl
    replace hZ4 := Lib.hid hZ4
    clear hZ hEx hX6 hA4
    go_wp2_with (first
      | (with_reducible refine append_on (o := ⟨some 136, _, _, _, _, _⟩) Try.underlying22 Ch.info32 (by omega) rfl (.tmp 134) (.tmp 135) rfl w4.heap.size (some ⟨gV, 0, none⟩) W.length cV W rfl hZ4.out.hP _ 1 1 [0] rfl hY4.out (by omega) (by omega) hs0 ?_
         intro g' cap' w8 hO8 hG8
         have f0 := (hZ4.out.hG.grown hG8 (hZ4.out.hP.ne hZ4.out.hG (by decide))).cell 0 (.slice (some ⟨gV, 0, none⟩) W.length cV) rfl
         have f1 := (hZ4.out.hG.grown hG8 (hZ4.out.hP.ne hZ4.out.hG (by decide))).free 0
         have hZF := Lib.hid (hZ4.out.grow0 hG8 hO8.on)
         have hEF := Lib.hid ((hE4.out.grown hG8 hs0 hZ4.out.hP.from).setCell (p := ⟨U, 0, none⟩) hZ4.out.hO (.slice (some ⟨g', 0, none⟩) (W.length + 1) cap'))
         have R := Lib.hid (Ob.same_not (ss := S) (ys := Y) (ss' := S) (ys' := Y) (Or.inl (Ob.ne_longer (l := W) (m := W ++ [0]) (by simp))))
         clear hO8 hG8 hs0 hE4 hY4 hZ4 p0 p1 p2
         have hXF := Lib.hid (hX.out.below hEF.out)
         have hr' : ∀ x ∈ (W ++ [0]), 0 ≤ x ∧ x < 4294967296 := fun x hx => (List.mem_append.1 hx).elim (hF.out.hr x) (fun e => by simp at e; rw [e]; omega)
         replace hr' := Lib.hid hr'
         replace hB := Lib.hid (hB.out.trans (hEF.out.mono hB.out.size))
         clear hEF hX
         have o0 := hXF.out.hG.cell 0 (.slice (some ⟨gW, 0, none⟩) W.length cW) rfl
         have o1 := hXF.out.hG.cell 1 (.slice (some ⟨gS, 0, none⟩) S.length cS) rfl
         have o2 := hXF.out.hG.cell 2 (.slice C1 Y.length e1) rfl
         have p0 := hZF.out.hG.cell 0 (.slice (some ⟨g', 0, none⟩) (W.length + 1) cap') rfl
         have p1 := hZF.out.hG.cell 1 (.slice (some ⟨gT, 0, none⟩) S.length cT) rfl
         have p2 := hZF.out.hG.cell 2 (.slice C2 Y.length e2) rfl)
      | fail)
    clear o0 o1 o2 p0 p1 p2
    refine (Ob.same_any (hXF.out.wo hF.out.hr) hXF.out.in hXF.out.sy (hZF.out.wo hr'.out) hZF.out.in hZF.out.sy).mono ?_; rintro r w30 ⟨rfl, hE⟩
    rw [R.out]
    replace hB := Lib.hid (hB.out.trans (hE.mono hB.out.size))
    replace hXF := Lib.hid (hXF.out.below hE)
    replace hZF := Lib.hid (hZF.out.below hE)
    clear hE
    have o0 := hXF.out.hG.cell 0 (.slice (some ⟨gW, 0, none⟩) W.length cW) rfl
    have o1 := hXF.out.hG.cell 1 (.slice (some ⟨gS, 0, none⟩) S.length cS) rfl
    have o2 := hXF.out.hG.cell 2 (.slice C1 Y.length e1) rfl
    have p0 := hZF.out.hG.cell 0 (.slice (some ⟨g', 0, none⟩) (W.length + 1) cap') rfl
    have p1 := hZF.out.hG.cell 1 (.slice (some ⟨gT, 0, none⟩) S.length cT) rfl
    have p2 := hZF.out.hG.cell 2 (.slice C2 Y.length e2) rfl
    go_wp2_with (fail)
    clear o0 o1 o2 p0 p1 p2
    refine (Ob.same_any (hZF.out.wo hr'.out) hZF.out.in hZF.out.sy (hXF.out.wo hF.out.hr) hXF.out.in hXF.out.sy).mono ?_; rintro r w31 ⟨rfl, hE⟩
    rw [Ob.same_comm, R.out]
    replace hB := Lib.hid (hB.out.trans (hE.mono hB.out.size))
    replace hXF := Lib.hid (hXF.out.below hE)
    replace hZF := Lib.hid (hZF.out.below hE)
    clear hE
    have o0 := hXF.out.hG.cell 0 (.slice (some ⟨gW, 0, none⟩) W.length cW) rfl
    have o1 := hXF.out.hG.cell 1 (.slice (some ⟨gS, 0, none⟩) S.length cS) rfl
    have o2 := hXF.out.hG.cell 2 (.slice C1 Y.length e1) rfl
    have p0 := hZF.out.hG.cell 0 (.slice (some ⟨g', 0, none⟩) (W.length + 1) cap') rfl
    have p1 := hZF.out.hG.cell 1 (.slice (some ⟨gT, 0, none⟩) S.length cT) rfl
    have p2 := hZF.out.hG.cell 2 (.slice C2 Y.length e2) rfl
    go_wp2_with (fail)
    clear o0 o1 o2 p0 p1 p2
    refine (Ob.same_any (hZF.out.wo hr'.out) hZF.out.in hZF.out.sy (hZF.out.wo hr'.out) hZF.out.in hZF.out.sy).mono ?_; rintro r w32 ⟨rfl, hE⟩
    rw [Ob.same_self]
    replace hB := Lib.hid (hB.out.trans (hE.mono hB.out.size))
    replace hXF := Lib.hid (hXF.out.below hE)
    replace hZF := Lib.hid (hZF.out.below hE)
    clear hE
    go_wp2
    go_ret
    exact ⟨rfl, hB.out⟩
end Go.Proofs.Ythnpdlejgpcgoaa
